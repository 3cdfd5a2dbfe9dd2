import PyProof.Rows.All
import Wide.All
import OpenK.AllK
import Wide.FinOn
import Lean
import PyProof.EqAt
import PyProof.EqKinds
import PyProof.TupleCall
import PyProof.StrLawsRepr
import PyProof.ZipIter
import PySem.Challenge.RW_woolyears_k41_the_first_paper
import PyProof.Rows.SortRunsK
import PyProof.AttrMissHeap
import PyProof.SeqRoads
import PyProof.ListOps
import PyProof.DictUpdate
import PyProof.DictWalks
import KE.KDictList
import PyProof.Rows.SortWalk
import KE.KRevSl
import KE.KRevIter
set_option compiler.extract_closed false
set_option Elab.async false
set_option linter.all false
set_option maxRecDepth 100000
set_option maxHeartbeats 4000000
noncomputable section
def Zaa:=@PyProof.Rows.wpS_bind
def Zab:=@PyProof.Rows.wpS_pure
def Zac:=@PySem.wpAny_newObj_type
def Zad:=@List.length_range
def Zae:=@List.mem_singleton
def Zaf:=@List.all_eq_true
def Zag:=@List.sum_cons
def Zah:=@List.pairwise_append
def Zai:=@List.take_of_length_le
def Zaj:=@Array.toList_append
def Zak:=@Nat.le_trans
def Zal:=@Nat.mul_le_mul_right
def Zam:=@List.length_drop
def Zan:=@List.pairwise_map
def Zao:=@List.filter_append
def Zap:=@List.getElem?_range
def Zaq:=@List.mem_of_mem_take
def Zar:=@Nat.le_succ
def Zas:=@Int.zero_add
def Zat:=@Array.getElem?_toList
def Zau:=@Nat.lt_irrefl
def Zav:=@List.drop_of_length_le
def Zaw:=@List.drop_eq_getElem_cons
def Zax:=@List.drop_sublist
def Zay:=@List.take_zero
def Zaz:=@List.of_mem_zip
def Za0:=@List.zip_cons_cons
def Za1:=@List.mem_cons_self
def Za2:=@List.mem_cons_of_mem
def Za3:=@List.take_sublist
def Za4:=@Bool.not_eq_true'
def Za5:=@List.mem_range
def Za6:=@List.range_succ
def Za7:=@List.perm_append_comm
abbrev Yq:PySem.Str:="_law_promises_here"
abbrev Ys:PySem.Str:="_law_state_here"
abbrev Yt:PySem.Str:="_law_year_here"
abbrev Yu:PySem.Str:="_law_sales_here"
abbrev Yv:PySem.Str:="_law_rows"
abbrev Yw:PySem.Str:="_law_book_here"
abbrev Yx:PySem.Str:="_law_script"
abbrev Yy:PySem.Str:="_law_most"
abbrev Yz:PySem.Str:="_law_sort"
abbrev Y0:PySem.Str:="_law_sacks"
abbrev Y4:PySem.Str:="_law_found"
abbrev Y5:PySem.Str:="_law_first_here"
abbrev Y6:PySem.Str:="_law_one"
abbrev Y7:PySem.Str:="_law_number"
abbrev Y8:PySem.Str:="_law_sale"
abbrev Y9:PySem.Str:="_law_years"
abbrev Za:PySem.Str:="_law_due"
abbrev Zb:PySem.Str:="_law_clips_here"
abbrev Zc:PySem.Str:="_law_lacks"
abbrev Zd:PySem.Str:="_law_k"
abbrev Ze:PySem.Str:="_law_many"
abbrev Zf:PySem.Str:="_law_row"
abbrev Zg:PySem.Str:="_law_holder"
abbrev Zh:PySem.Str:="_law_take"
abbrev Zi:PySem.Str:="_law_weights"
abbrev Zj:PySem.Str:="_law_sold"
abbrev Zk:PySem.Str:="_law_clip"
abbrev Zm:PySem.Str:="_law_seller"
abbrev Zn:PySem.Str:="_law_claims"
abbrev Zo:PySem.Str:="_law_total"
abbrev Zw:PySem.Str:="_law_promises"
abbrev Z0:PySem.Str:="_law_any_sale"
abbrev PK:=List (List Int)
abbrev PP:=List Int
theorem Zz{p:Prop}(h:p:=by lia):p:=h
theorem Zy{p:Prop}(h:p:=by simp):p:=h
theorem Zx{p:Prop}(h:p:=by decide):p:=h
theorem Zv{p:Prop}(h:p:=by decide +kernel):p:=h
theorem Zu{p:Prop}(h:p:=by rw[sizeLine_eq];lia):p:=h
def Zq:=@decide_eq_true_eq
open PySem.W (Frag)
def zAt:=@decide_eq_true
def zAu:=@PySem.W.mg_none_of
def zAv:=@PySem.wpAny_bind
def zAw:=@if_neg
def zAx:=@if_pos
def zAy:=@PySem.Heap.get?_push_of_some
def zAz:=@PySem.wpAny_pure
def zB0:=@PySem.Heap.lt_size
def zB1:=@List.mem_append_right
def zB2:=@decide_eq_false
def zB3:=@PySem.PassesOwn.never
def zB4:=@PySem.Heap.get?_push_size
def zB5:=@Nat.lt_of_lt_of_le
def zB6:=@of_decide_eq_true
def zB7:=@List.getElem?_append_right
def zB8:=@List.getElem?_append_left
def zB9:=@PySem.F.plainAttrs_list
def zBa:=@List.filter_cons_of_neg
def zBb:=@PySem.F.type_list_append
def zBc:=@PySem.F.slot_list_append
def zBd:=@Nat.ne_of_lt
def zBe:=@List.filter_cons_of_pos
def zBf:=@List.take_append_drop
def zBg:=@List.mem_of_getElem?
def zA0:=@List.getElem?_eq_getElem
def zA1:=@List.length_map
def zA2:=@List.length_append
def zA3:=@Nat.le_refl
def zA4:=@List.map_append
def zA5:=@List.mem_map
def zA6:=@List.mem_append
def zA7:=@List.getD_eq_getElem?_getD
def zA8:=@List.size_toArray
def zA9:=@Array.length_toList
def zAa:=@List.getElem?_eq_some_iff
def zAb:=@List.getElem?_map
def zAc:=@Bool.and_eq_true
def zAd:=@List.length_take
def zAe:=@List.length_cons
def zAf:=@List.append_assoc
def zAg:=@Bool.false_ne_true
def zAh:=@List.getElem_mem
def zAi:=@Int.toNat_natCast
def zAj:=@List.take_add_one
def zAk:=@List.map_cons
def zAl:=@Option.some.inj
def zAm:=@List.take_length
def zAn:=@List.append_nil
def zAo:=@List.mem_cons
def zAp:=@Nat.zero_le
def zAq:=@List.mem_filter
def zAr:=@List.map_map
def zAs:=@List.length_zip
namespace L2
open PySem PySem.Spec PyProof.Rows
abbrev Key:=Sum Int Str
def nM:Key->Value->Bool
 |.inl k,v=>Value.isInt k v
 |.inr x,v=>Value.isStrOf x v
def rT(w:World):Key->Int
 |.inl k=>hashInt k
 |.inr x=>hashStr w x
theorem c7:∀{k:Key} {v:Value},nM k v=true->(∃i t,k=Sum.inl i/\v=Value.int i t)\/(∃x t,k=Sum.inr x/\v=Value.str x t)
 |.inl i,v,h=>by
  obtain⟨t,e⟩:=Value.isInt_shape (k:=i) (v:=v) h;exact .inl ⟨i,t,rfl,e⟩
 |.inr x,v,h=>by
  obtain⟨t,e⟩:=Value.isStrOf_shape (x:=x) (v:=v) h;exact .inr ⟨x,t,rfl,e⟩
theorem zF(i:Int)(t:Tok):nM (.inl i) (.int i t)=true:=by simp[nM,Value.isInt]
theorem zG(x:Str)(t:Tok):nM (.inr x) (.str x t)=true:=by simp[nM,Value.isStrOf]
theorem Ir(a b:Int):decide ((Sum.inl a:Key)=Sum.inl b)=(a==b):=by
 by_cases e:a=b
 .subst e;simp
 .have h:¬(Sum.inl a:Key)=Sum.inl b:=λq=>e (Sum.inl.inj q);rw[zB2 h];exact(beq_eq_false_iff_ne.mpr e).symm
theorem Iu(a b:Str):decide ((Sum.inr a:Key)=Sum.inr b)=decide (a=b):=by
 by_cases e:a=b
 .subst e;simp
 .have h:¬(Sum.inr a:Key)=Sum.inr b:=λq=>e (Sum.inr.inj q);rw[zB2 h,zB2 e]
theorem Iv(a:Int)(b:Str):decide ((Sum.inl a:Key)=Sum.inr b)=false:=zB2 (λq=>nomatch q)
theorem Iw(a:Str)(b:Int):decide ((Sum.inr a:Key)=Sum.inl b)=false:=zB2 (λq=>nomatch q)
def bF(prog:Program)(w:World):PySem.KeyKind prog w Key where
 is:=nM
 hash:=rT w
 inj:=λv a b ha hb=>by
  rcases c7 ha with⟨i,t,rfl,rfl⟩|⟨x,t,rfl,rfl⟩
  .rcases c7 hb with⟨j,u,rfl,e⟩|⟨y,u,rfl,e⟩
   .injection e with e1 _;rw[e1]
   .exact nomatch e
  .rcases c7 hb with⟨j,u,rfl,e⟩|⟨y,u,rfl,e⟩
   .exact nomatch e
   .injection e with e1 _;rw[e1]
 byValue:=λk v h=>by
  rcases c7 h with⟨i,t,rfl,rfl⟩|⟨x,t,rfl,rfl⟩<;>rfl
 pyHash:=λhv h=>by
  rcases c7 hv with⟨i,t,rfl,rfl⟩|⟨x,t,rfl,rfl⟩
  .exact wpAny_pyHash_int h
  .exact wpAny_pyHash_str h
 eqBool:=λhu hv h=>by
  rcases c7 hu with⟨i,t,rfl,rfl⟩|⟨x,t,rfl,rfl⟩
  .rcases c7 hv with⟨j,u,rfl,rfl⟩|⟨y,u,rfl,rfl⟩
   .rw[Ir]at h;exact wpAny_eqBool_int h
   .rw[Iv]at h;exact SeqAt.EqAt.int_str i t y u _ _ _ _ h
  .rcases c7 hv with⟨j,u,rfl,rfl⟩|⟨y,u,rfl,rfl⟩
   .rw[Iw]at h;exact SeqAt.EqAt.str_int x t j u _ _ _ _ h
   .rw[Iu]at h;exact wpAny_eqBool_str h
 «strs»:=λk x t v h=>by
  rcases c7 h with⟨i,u,rfl,e⟩|⟨y,u,rfl,e⟩
  .exact nomatch e
  .injection e with e1 _;subst e1;cases v<;>rfl
theorem ur(prog:Program)(w:World)(i:Int)(t:Tok):(bF prog w).is (.inl i) (.int i t)=true:=zF i t
theorem ut(prog:Program)(w:World)(x:Str)(t:Tok):(bF prog w).is (.inr x) (.str x t)=true:=zG x t
inductive V where
 |non|bl (b:Bool)|int (i:Int)|str (x:Str)|byt (b:Array UInt8)|flt (b:UInt64)|ref (a:Addr)|ty (n:String)
 deriving DecidableEq
def RelV:V->Value->Prop
 |.non,u=>u=Value.none
 |.bl b,u=>u=Value.bool b
 |.int i,u=>∃t,u=Value.int i t
 |.str x,u=>∃t,u=Value.str x t
 |.byt b,u=>∃t,u=Value.bytes b t
 |.flt b,u=>∃t,u=Value.float b t
 |.ref a,u=>u=Value.ref a
 |.ty n,u=>u=Value.type n
abbrev Vals:List V->List Value->Prop:=Paired RelV
theorem Vals.length{xs:List V}{us:List Value}(r:Vals xs us):xs.length=us.length:=Paired.length r
theorem Vals.get:∀{xs:List V} {us:List Value} {i:Nat} {x:V},Vals xs us->xs[i]?=some x->∃u,us[i]?=some u/\RelV x u
 |_,_,_,_,.nil,e=>by simp at e
 |_,_,0,_,.cons r _,e=>by simp at e;subst e;exact⟨_,rfl,r⟩
 |_,_,i+1,x,.cons _ t,e=>by
  obtain⟨u,h1,h2⟩:=Vals.get (i:=i) (x:=x) t (by simpa using e);exact⟨u,by simpa using h1,h2⟩
theorem Vals.set{x:V}{u:Value}(r:RelV x u):∀{xs:List V} {us:List Value} (i:Nat),Vals xs us->Vals (xs.set i x) (us.set i u)
 |_,_,_,.nil=>.nil
 |_,_,0,.cons _ t=>.cons r t
 |_,_,i+1,.cons q t=>.cons q (Vals.set r i t)
theorem Vals.append:∀{xs ys:List V} {us ws:List Value},Vals xs us->Vals ys ws->Vals (xs++ys) (us++ws)
 |_,_,_,_,.nil,s=>s
 |_,_,_,_,.cons r t,s=>.cons r (Vals.append t s)
theorem Vals.take:∀{xs:List V} {us:List Value} (n:Nat),Vals xs us->Vals (xs.take n) (us.take n)
 |_,_,0,_=>.nil
 |_,_,_+1,.nil=>.nil
 |_,_,n+1,.cons r t=>.cons r (Vals.take n t)
theorem Vals.drop:∀{xs:List V} {us:List Value} (n:Nat),Vals xs us->Vals (xs.drop n) (us.drop n)
 |_,_,0,r=>r
 |_,_,_+1,.nil=>.nil
 |_,_,n+1,.cons _ t=>Vals.drop n t
def RelO:Option V->Option Value->Prop
 |some v,some u=>RelV v u
 |none,none=>True
 |_,_=>False
def KV{κ:Type}:List (κ×V)->List (κ×Value)->Prop:=Paired λ(p:κ×V) (q:κ×Value)=>p.1=q.1/\RelV p.2 q.2
def kV:Key->V
 |.inl i=>.int i
 |.inr x=>.str x
inductive HO where
  |lst (xs:List V)
  |tup (xs:List V)
  |dK (kvs:List (Key×V))|dT (kvs:List (List Key×V))
  |set (S:Int->Bool) (n:Nat)
  |ins (C dx:Addr) (fs:List (Str×V))
  |own (x:Addr)
  |xd (fs:List (Str×V))
  |met (f x:Addr)
  |rng (lo hi:Int)
  |frz (o:Obj) (u:HO)
  |tbl (ps:Array Value)
  |ext (φ:Heap->Prop)
abbrev Hp:=Addr->Option HO
def upd(H:Hp)(a:Addr)(o:HO):Hp:=λb=>if b=a then some o else H b
theorem aj{H:Hp}{a:Addr}{o:HO}:upd H a o a=some o:=by unfold upd;rw[zAx rfl]
theorem az{H:Hp}{a b:Addr}{o:HO}(h:b≠a):upd H a o b=H b:=by unfold upd;rw[zAw h]
theorem Ht{H:Hp}{a b:Addr}{o u:HO}(h:H a=some o)(h':H b=some u)(d:o≠u):a≠b:=by
 intro e;subst e;rw[h]at h';exact d (zAl h')
theorem aA{H:Hp}{a b:Addr}{o:HO}(h:H a=some o)(h':H b=none):a≠b:=by
 intro e;subst e;rw[h]at h';cases h'
section
variable(P:Program)(w:World)
def ObjOk(H:Hp)(h:Heap)(a:Addr):HO->Prop
 |.lst xs=>xs.length<=sizeLine/\∃(Zs:List Value) (n:Nat),Vals xs Zs/\h.get? a=some {cls:=.type "list",data:=.seq Zs.toArray n}
 |.tup xs=>xs.length<=sizeLine/\∃Zs:List Value,Vals xs Zs/\IsTup h a Zs.toArray
 |.dK kvs=>kvs.length<=sizeLine/\(a==sysModules)=false/\∃vs,KV kvs vs/\h.DictOf (bF P w) a vs
 |.dT kvs=>kvs.length<=sizeLine/\(a==sysModules)=false/\∃xs:List (List Key×Addr×Value),
   Paired (λ(p:List Key×V) (q:List Key×Addr×Value)=>p.1=q.1/\H q.2.1=some (.tup (p.1.map kV))/\RelV p.2 q.2.2) kvs xs /\
   ∃o es ep,h.get? a=some o/\o.ExactDict/\o.data=.dict es ep/\es.toList=xs.map (entryOfKey (tupleKind (bF P w)))/\(xs.map (·.1)).Nodup
 |.set S n=>h.SetOf (intKind P w) a S n
 |.ins C dx fs=>H dx=some (.own a)/\fs.length<=1000/\dx≠a/\h.get? a=some (PySem.W.instObj C dx) /\
   ∃mA,h.Ns1 dx mA/\(∀f,RelO (fs.lookup f) (mA f))/\PySem.Within mA (fs.map (·.1))
 |.own _=>∃o,h.get? a=some o
 |.xd fs=>∃mA,h.Ns1 a mA/\∀f,RelO (fs.lookup f) (mA f)
 |.rng lo hi=>∃t u v,h.get? a=some {cls:=.type "range",data:=.fields #[.int lo t,.int hi u,.int 1 v]}
 |.frz o u=>h.get? a=some o/\ObjOk H h a u
 |.tbl ps=>h.get? a=some {cls:=.none,data:=.fields ps}
 |.met f x=>h.get? a=some (PySem.W.methodObj (.ref f) (.ref x))
 |.ext φ=>φ h/\(∃o,h.get? a=some o)/\∀h1 h2:Heap,φ h1->(∀o,h1.get? a=some o->h2.get? a=some o)->φ h2
def HOk(H:Hp)(h:Heap):Prop:=∀a o,H a=some o->ObjOk P w H h a o
end
section
variable{P:Program}{w:World}{H H':Hp}{h h':Heap}{a:Addr}{o:HO}
theorem ObjOk.lt(x:ObjOk P w H h a o):a<h.objs.size:=by
 cases o with
 |lst xs=>obtain⟨_,_,_,_,e⟩:=x;exact zB0 e
 |tup xs=>obtain⟨_,_,_,p⟩:=x;exact p.lt
 |dK kvs=>obtain⟨_,_,_,_,o,_,_,e,_⟩:=x;exact zB0 e
 |dT kvs=>obtain⟨_,_,_,_,o,_,_,e,_⟩:=x;exact zB0 e
 |set S n=>obtain⟨o,_,_,_,e,_⟩:=x;exact zB0 e
 |ins C dx fs=>obtain⟨_,_,_,e,_⟩:=x;exact zB0 e
 |own y=>obtain⟨_,e⟩:=x;exact zB0 e
 |xd fs=>obtain⟨_,⟨_,_,_,e,_⟩,_⟩:=x;exact zB0 e
 |rng lo hi=>obtain⟨_,_,_,e⟩:=x;exact zB0 e
 |frz ob u=>obtain⟨e,_⟩:=x;exact zB0 e
 |tbl ps=>exact zB0 (show h.get? a=some _ from x)
 |met f y=>exact zB0 (show h.get? a=some _ from x)
 |ext φ=>obtain⟨_,⟨_,e⟩,_⟩:=x;exact zB0 e
theorem Paired.mapP{α β:Type}{F G:α->β->Prop}:∀{AU:List α} {AV:List β},Paired F AU AV->(∀a b,F a b->G a b)->Paired G AU AV
 |_,_,.nil,_=>.nil
 |_,_,.cons r t,f=>.cons (f _ _ r) (Paired.mapP t f)
theorem ObjOk.stay(x:ObjOk P w H h a o)(k:∀b u,(b=a\/H b=some (.own a))->h.get? b=some u->h'.get? b=some u)
  (ho:∀b,H b=some (.own a)->H' b=some (.own a)) (ht:∀b xs,H b=some (.tup xs)->H' b=some (.tup xs)):ObjOk P w H' h' a o:=by
 induction o with
 |lst xs=>obtain⟨z,Zs,n,r,e⟩:=x;exact⟨z,Zs,n,r,k _ _ (.inl rfl) e⟩
 |tup xs=>obtain⟨z,Zs,r,ob,e,c⟩:=x;exact⟨z,Zs,r,ob,k _ _ (.inl rfl) e,c⟩
 |dK kvs=>obtain⟨z,y,vs,r,ob,es,ep,e,c⟩:=x;exact⟨z,y,vs,r,ob,es,ep,k _ _ (.inl rfl) e,c⟩
 |dT kvs=>
  obtain⟨z,y,xs,r,ob,es,ep,e,c⟩:=x;exact⟨z,y,xs,Paired.mapP r λp q z=>⟨z.1,ht _ _ z.2.1,z.2.2⟩,ob,es,ep,k _ _ (.inl rfl) e,c⟩
 |set S n=>obtain⟨ob,es,ep,t,e,c⟩:=x;exact⟨ob,es,ep,t,k _ _ (.inl rfl) e,c⟩
 |ins C dx fs=>
  obtain⟨d,z,ne,e,mA,⟨od,es,ep,e2,c⟩,r⟩:=x;exact⟨ho _ d,z,ne,k _ _ (.inl rfl) e,mA,⟨od,es,ep,k _ _ (.inr d) e2,c⟩,r⟩
 |own y=>obtain⟨ob,e⟩:=x;exact⟨ob,k _ _ (.inl rfl) e⟩
 |xd fs=>obtain⟨mA,⟨od,es,ep,e,c⟩,r⟩:=x;exact⟨mA,⟨od,es,ep,k _ _ (.inl rfl) e,c⟩,r⟩
 |rng lo hi=>obtain⟨t,u,v,e⟩:=x;exact⟨t,u,v,k _ _ (.inl rfl) e⟩
 |frz ob u ih=>obtain⟨e,q⟩:=x;exact⟨k _ _ (.inl rfl) e,ih q⟩
 |tbl ps=>
  have e:h.get? a=some {cls:=.none,data:=.fields ps}:=x;show h'.get? a=some {cls:=.none,data:=.fields ps};exact k a _ (.inl rfl) e
 |met f y=>
  have e:h.get? a=some (PySem.W.methodObj (.ref f) (.ref y)):=x;show h'.get? a=some (PySem.W.methodObj (.ref f) (.ref y));exact k a _ (.inl rfl) e
 |ext φ=>obtain⟨p,⟨o,e⟩,st⟩:=x;exact⟨st _ _ p λo q=>k _ _ (.inl rfl) q,⟨o,k _ _ (.inl rfl) e⟩,st⟩
theorem HOk.lt(x:HOk P w H h)(e:H a=some o):a<h.objs.size:=(x a o e).lt
theorem HOk.fresh(x:HOk P w H h)(e:h.objs.size<=a):H a=none:=by
 cases q:H a with
 |none=>rfl
 |some u=>exact absurd (zB5 (x.lt q) e) (Zau _)
theorem HOk.kept(x:HOk P w H h)(k:∀b u,h.get? b=some u->h'.get? b=some u):HOk P w H h':=λa o e=>
 (x a o e).stay (λb u _ q=>k b u q) (λ_ q=>q) λ_ _ q=>q
theorem HOk.laid(x:HOk P w H h)(k:∀b u,h.get? b=some u->h'.get? b=some u)(hp:h.objs.size<=a)(new:ObjOk P w (upd H a o) h' a o):HOk P w (upd H a o) h':=λb u e=>by
 have hn:=x.fresh hp;by_cases hb:b=a
 .subst hb;rw[aj]at e;cases e;exact new
 .rw[az hb]at e
  exact(x b u e).stay (λc v _ q=>k c v q) (λc q=>by rw[az (aA q hn)];exact q) λc xs q=>by rw[az (aA q hn)];exact q
end
def Rd(H:Hp)(a:Addr)(u:HO):Prop:=H a=some u\/∃o,H a=some (.frz o u)
theorem Rd.ok{P:Program}{w:World}{H:Hp}{h:Heap}{a:Addr}{u:HO}(r:Rd H a u)(x:HOk P w H h):ObjOk P w H h a u:=by
 rcases r with r|⟨o,r⟩
 .exact x a u r
 .obtain⟨_,q⟩:=x a _ r;exact q
def Mut:Option HO->Prop
 |some (.lst _)=>True
 |some (.dK _)=>True
 |some (.dT _)=>True
 |some (.set _ _)=>True
 |some (.ins _ _ _)=>True
 |some (.ext _)=>True
 |_=>False
section
variable{P:Program}{w:World}{H:Hp}{h h':Heap}{x e:Addr}{o':HO}
theorem HOk.write(ok:HOk P w H h)(mu:Mut (H x))(he:e=x\/H e=some (.own x))(k:∀b u,b≠e->h.get? b=some u->h'.get? b=some u)(y7:∃u,h'.get? e=some u)
  (new:ObjOk P w (upd H x o') h' x o'):HOk P w (upd H x o') h':=λb u q=>by
 have AW:∀c y,H c=some (.own y)->c≠x:=λc y r z=>by subst z;rw[r]at mu;exact mu
 have E2:∀c xs,H c=some (.tup xs)->c≠x:=λc xs r z=>by subst z;rw[r]at mu;exact mu
 by_cases hb:b=x
 .subst hb;rw[aj]at q;cases q;exact new
 .rw[az hb]at q;by_cases tP:b=e
  .have q':H b=some (.own x):=by
    rcases he with z|z
    .exact absurd (tP.trans z) hb
    .rw[tP];exact z
   rw[q]at q';cases q';obtain⟨v,hv⟩:=y7;exact⟨v,by rw[tP];exact hv⟩
  .refine(ok b u q).stay (λc v hc r=>k c v ?_ r) (λc r=>by rw[az (AW c b r)];exact r) λc xs r=>by rw[az (E2 c xs r)];exact r
   rcases hc with rfl|hc
   .exact tP
   .rintro rfl;rcases he with z|z
    .exact AW c b hc z
    .rw[hc]at z;cases z;exact hb rfl
end
structure Un(fs ex:List Addr)(H H':Hp)(h h':Heap):Prop where
 keep:∀b o,h.get? b=some o->H b=none->b∉fs->b∉ex->h'.get? b=some o
 slot:∀b o,h.get? b=some o->H b=none->b∈fs->b∉ex->∃sl,h'.get? b=some {o with slots:=sl}
 free:∀b o,h.get? b=some o->H b=none->b∉ex->H' b=none
 there:∀b o,h.get? b=some o->b∉ex->∃o',h'.get? b=some o'
 tups:∀b xs,H b=some (.tup xs)->H' b=some (.tup xs)
 frzs:∀b o u,H b=some (.frz o u)->H' b=some (.frz o u)
 tbls:∀b ps,H b=some (.tbl ps)->∃more,H' b=some (.tbl (ps++more))
section
variable{fs PQ ex WK:List Addr}{H H1 H2:Hp}{h h1 h2 h':Heap}{a x e:Addr}{o:HO}
theorem Un.any(u:Un fs ex H H1 h h1){b:Addr}{ob:Obj}(q:h.get? b=some ob)(n:H b=none)(hx:b∉ex):∃sl,h1.get? b=some {ob with slots:=sl}:=by
 by_cases hb:b∈fs
 .exact u.slot b ob q n hb hx
 .exact⟨ob.slots,u.keep b ob q n hb hx⟩
theorem Un.kept(k:∀b u,h.get? b=some u->h'.get? b=some u):Un fs ex H H h h':=
 ⟨λb ob q _ _ _=>k b ob q,λb ob q _ _ _=>⟨ob.slots,k b ob q⟩,λ_ _ _ n _=>n,λb ob q _=>⟨ob,k b ob q⟩,λ_ _ q=>q,λ_ _ _ q=>q,λ_ ps q=>⟨#[],by rw[q];simp⟩⟩
theorem Un.refl:Un fs ex H H h h:=Un.kept λ_ _ q=>q
theorem Un.laid(k:∀b u,h.get? b=some u->h'.get? b=some u)(hp:h.objs.size<=a)(hn:H a=none):Un fs ex H (upd H a o) h h' where
 keep:=λb u q _ _ _=>k b u q
 slot:=λb u q _ _ _=>⟨u.slots,k b u q⟩
 free:=λb u q n _=>by rw[az (zBd (zB5 (zB0 q) hp))];exact n
 there:=λb u q _=>⟨u,k b u q⟩
 tups:=λb xs q=>by rw[az (aA q hn)];exact q
 frzs:=λb u xs q=>by rw[az (aA q hn)];exact q
 tbls:=λb ps q=>⟨#[],by rw[az (aA q hn),q];simp⟩
theorem Un.write(mu:Mut (H x))(he:e=x\/H e=some (.own x))(k:∀b u,b≠e->h.get? b=some u->h'.get? b=some u)(y7:∃u,h'.get? e=some u):Un fs ex H (upd H x o) h h':=by
 have hx:∀b,H b=none->b≠x:=λb n z=>by subst z;rw[n]at mu;exact mu
 have hb:∀b,H b=none->b≠e:=λb n z=>by
  subst z;rcases he with r|r
  .exact hx b n r
  .rw[n]at r;cases r
 have hm:∀b u,H b=some u->¬Mut (some u)->b≠x:=λb u q nm z=>by subst z;rw[q]at mu;exact nm mu
 refine⟨λb u q n _ _=>k b u (hb b n) q,λb u q n _ _=>⟨u.slots,k b u (hb b n) q⟩,λb u q n _=>by rw[az (hx b n)];exact n,λb u q _=>?_,
  λb xs q=>by rw[az (hm b _ q λz=>z)];exact q,λb u xs q=>by rw[az (hm b _ q λz=>z)];exact q,λb ps q=>⟨#[],by rw[az (hm b _ q λz=>z),q];simp⟩⟩
 by_cases tP:b=e
 .subst tP;exact y7
 .exact⟨u,k b u tP q⟩
end
def trk(h:Heap)(H:Hp):List Addr:=(List.range h.objs.size).filter λa=>(H a).isSome
def rY(h:Heap)(H:Hp):Heap:=PySem.W.hideAll h (trk h H)
theorem zH(h:Heap)(H:Hp):(rY h H).objs.size=h.objs.size:=PySem.W.hideAll_size _ _
theorem Bv{h:Heap}{H:Hp}{b:Addr}{o:Obj}(e:h.get? b=some o)(n:H b=none):(rY h H).get? b=some o:=
 PySem.W.hideAll_get _ e λhm=>by
  have q:(H b).isSome=true:=(zAq.mp hm).2;rw[n]at q;simp at q
theorem Fp{h:Heap}{H:Hp}{b:Addr}{o:Obj}(e:(rY h H).get? b=some o):h.get? b=some o/\H b=none:=by
 have e':h.get? b=some o:=PySem.W.of_hideAll (trk h H) e;refine⟨e',?_⟩
 cases q:H b with
 |none=>rfl
 |some x=>
  have hm:b∈trk h H:=zAq.mpr ⟨Za5.mpr (zB0 e'),by simp[q]⟩;have z:(rY h H).get? b=none:=PySem.W.hideAll_none (trk h H) hm;rw[z]at e;cases e
structure Mod(K:Frag)(mg:Str->Option Value)(base:Heap):Prop where
 kin:K.In base
 glob:base.Ns mainGlobals mg
 blt:∃mb,base.Ns builtinsNs mb/\∀x:Str,x≠"__name__"->mb x=bootBuiltins x
 nolimit:base.NoLimit
structure Cx where
 prog:Program
 w:World
 K:Frag
 mg:Str->Option Value
 base:Heap
 A:Around
 N:List Str
 s₀:Shared
 H₀:Hp
 env:Env
 outer:List Env
 stack:List Env
 ex:List Addr
 fn:Str->Bool
 calm:Bool
 pn:List (Addr×Obj)
 xe:Value->Shared->Prop
def frs(l:List Env):List Addr:=l.filterMap (·.frame)
abbrev Cx.fs(X:Cx):List Addr:=frs X.outer
def Vis(sc:Scope)(x:Str):Prop:=sc.names.lookup x=some .local\/sc.names.lookup x=some .cell\/sc.names.lookup x=some .free
def Loc(sc:Scope)(x:Str):Prop:=sc.names.lookup x=some .local\/sc.names.lookup x=some .cell
def Look(env:Env)(h:Heap)(m:Str->Option Value)(x:Str)(u:Value):Prop:=
 (env.kindOf x=some .local/\m x=some u)\/((env.kindOf x=some .cell\/env.kindOf x=some .free)/\∃c,env.cells.lookup x=some c/\h.IsCell c (some u))
structure Cx.Ok(X:Cx):Prop where
 mod:Mod X.K X.mg X.base
 kind:X.env.scope.kind=.function
 glob:X.env.globals=mainGlobals
 blt:X.env.builtins=builtinsNs
 above:X.s₀.heap.objs.size<=X.env.locals
 inj:∀x y c,X.env.cells.lookup x=some c->X.env.cells.lookup y=some c->x=y
 has:∀x,(X.env.kindOf x=some .cell\/X.env.kindOf x=some .free)->∃c,X.env.cells.lookup x=some c
 cab:∀x c,X.fn x=true->X.env.cells.lookup x=some c->X.s₀.heap.objs.size<=c
 hd:X.calm=true->X.A.handled=none
 frames:X.A.frames=some X.stack
 stk:X.stack=X.outer\/(X.stack=X.env::X.outer/\X.env.frame=some X.env.locals)
 exf:∀b∈X.ex,b≠X.env.locals/\∀x c,X.env.cells.lookup x=some c->c≠b
 bs:∀b o,X.base.get? b=some o->X.s₀.heap.get? b=some o/\X.H₀ b=none
 bsz:X.base.objs.size<=X.s₀.heap.objs.size
 noex:∀b o,X.base.get? b=some o->b∉X.ex
 exfs:∀b∈X.ex,b∉X.fs
 funs:X.s₀.heap.FunFrames X.base X.outer
 frf:∀b∈X.fs,X.H₀ b=none
structure Inv(X:Cx)(Zt:List (Addr×Obj))(σ:List (Option V))(H:Hp)(s:Shared):Prop where
 ok:X.Ok
 os:s.os=X.s₀.os
 bare:AllBare s.gens
 base:Un X.fs X.ex X.H₀ H X.s₀.heap s.heap
 loc:∃m,s.heap.Ns X.env.locals m/\∀(i:Nat) (x:Str) (v:V),X.N[i]?=some x->σ[i]?=some (some v)->Vis X.env.scope x->∃u,RelV v u/\Look X.env s.heap m x u
 cell:∀x c,X.env.cells.lookup x=some c->∃v,s.heap.IsCell c v
 free:H X.env.locals=none
 freeC:∀x c,X.env.cells.lookup x=some c->H c=none
 pin:∀p∈X.pn++Zt,s.heap.get? p.1=some p.2/\H p.1=none/\p.1≠X.env.locals/\p.1∉X.fs/\∀v,p.2.data≠.cell v
 hok:HOk X.prog X.w H s.heap
 len:σ.length=X.N.length
section
variable{X:Cx}{Zt:List (Addr×Obj)}{σ:List (Option V)}{H H':Hp}{s:Shared}{h':Heap}
theorem Cx.Ok.nofr(ok:X.Ok){b:Addr}{o:Obj}(e:X.base.get? b=some o):b∉X.fs:=λhb=>by
 have:=(ok.funs.mem hb).1;rw[e]at this;cases this
theorem Inv.bs(I:Inv X Zt σ H s):∀b o,X.base.get? b=some o->s.heap.get? b=some o/\H b=none:=λb o e=>
 ⟨I.base.keep b o (I.ok.bs b o e).1 (I.ok.bs b o e).2 (I.ok.nofr e) (I.ok.noex b o e),I.base.free b o (I.ok.bs b o e).1 (I.ok.bs b o e).2 (I.ok.noex b o e)⟩
theorem Inv.bk(I:Inv X Zt σ H s):∀b o,X.base.get? b=some o->s.heap.get? b=some o:=λb o e=>(I.bs b o e).1
theorem Inv.mod(I:Inv X Zt σ H s):Mod X.K X.mg X.base:=I.ok.mod
theorem Inv.kIn(I:Inv X Zt σ H s):X.K.In s.heap:=I.ok.mod.kin.keeps I.bk
theorem Inv.lt(I:Inv X Zt σ H s):X.env.locals<s.heap.objs.size:=by obtain⟨_,hn,_⟩:=I.loc;exact hn.lt
theorem Inv.sz(I:Inv X Zt σ H s):X.s₀.heap.objs.size<=s.heap.objs.size:=Zak I.ok.above (Nat.le_of_lt I.lt)
theorem Inv.nofs(I:Inv X Zt σ H s){a:Addr}(h:s.heap.objs.size<=a):a∉X.fs:=λhb=>by
 obtain⟨_,o,ho,_⟩:=I.ok.funs.mem hb;exact absurd (zB5 (zB0 ho) (Zak I.sz h)) (Zau _)
theorem Inv.cne(I:Inv X Zt σ H s):∀x c,X.env.cells.lookup x=some c->c≠X.env.locals:=λx c e z=>by
 obtain⟨v,o,ho,hd⟩:=I.cell x c e;obtain⟨m,⟨o',es,ep,kH,oj,_⟩,_⟩:=I.loc;rw[z,kH]at ho;cases ho;rw[oj]at hd;cases hd
theorem Inv.funs(I:Inv X Zt σ H s):s.heap.FunFrames X.base X.outer:=by
 have all:∀(l:List Env),(∀b∈frs l,b∈X.fs)->X.s₀.heap.FunFrames X.base l->s.heap.FunFrames X.base l:=by
  intro l
  induction l with
  |nil=>intro _ _;trivial
  |cons env r ih=>
   intro hs hl;obtain⟨hk,⟨L,o,hf,hn,ho,hd⟩,hr⟩:=hl;have hL:L∈X.fs:=hs L (by unfold frs;rw[List.filterMap_cons,hf];exact Za1);obtain⟨sl,e⟩:=I.base.slot L o ho (I.ok.frf L hL) hL λz=>I.ok.exfs L z hL;exact⟨hk,⟨L,_,hf,hn,e,hd⟩,ih (λb hb=>hs b (by unfold frs;rw[List.filterMap_cons,hf];exact Za2 _ hb)) hr⟩
 exact all X.outer (λ_ hb=>hb) I.ok.funs
theorem Inv.stack(I:Inv X Zt σ H s):s.heap.FunFrames X.base X.stack:=by
 rcases I.ok.stk with e|⟨e,hf⟩
 .rw[e];exact I.funs
 .rw[e];obtain⟨m,hn,_⟩:=I.loc;refine .cons (by rw[I.ok.kind];decide) hf hn ?_ I.funs;exact Heap.get?_none_of_le (Zak I.ok.bsz I.ok.above)
theorem Inv.stkSub(I:Inv X Zt σ H s):∀b∈frs X.stack,b∈X.env.locals::X.fs:=λb hb=>by
 rcases I.ok.stk with e|⟨e,hf⟩
 .rw[e]at hb;exact Za2 _ hb
 .rw[e]at hb;unfold frs at hb;rw[List.filterMap_cons,hf]at hb;exact hb
theorem Inv.stkFree(I:Inv X Zt σ H s):∀b∈frs X.stack,H b=none:=λb hb=>by
 rcases zAo.mp (I.stkSub b hb)with e|hb
 .rw[e];exact I.free
 .obtain⟨_,o,ho,_⟩:=I.ok.funs.mem hb;exact I.base.free b o ho (I.ok.frf b hb) λz=>I.ok.exfs b z hb
theorem Inv.step{g':Array GenState}{t':Nat}{d':Drawn}{ch:List Addr}(I:Inv X Zt σ H s)
  (nv:∀b∈ch,(b∈X.ex\/X.s₀.heap.objs.size<=b)/\b≠X.env.locals/\(∀x c,X.env.cells.lookup x=some c->c≠b)/\∀p∈X.pn++Zt,p.1≠b)
  (keep:∀b o,b≠X.env.locals->b∉X.fs->b∉ch->s.heap.get? b=some o->H b=none->h'.get? b=some o)
  (slot:∀b o,b≠X.env.locals->b∈X.fs->b∉ch->s.heap.get? b=some o->H b=none->∃sl,h'.get? b=some {o with slots:=sl}) (free:∀b o,b∉ch->s.heap.get? b=some o->H b=none->H' b=none)
  (there:∀b o,b∉ch->s.heap.get? b=some o->∃o',h'.get? b=some o')
  (tups:∀b xs,H b=some (.tup xs)->H' b=some (.tup xs)) (frzs:∀b o u,H b=some (.frz o u)->H' b=some (.frz o u)) (tbls:∀b ps,H b=some (.tbl ps)->∃more,H' b=some (.tbl (ps++more)))
  (ns:∀m,s.heap.Ns X.env.locals m->h'.Ns X.env.locals m) (hok:HOk X.prog X.w H' h') (hg:AllBare g'):
  Inv X Zt σ H' {s with heap:=h',gens:=g',drawn:=d',toks:=t'}:=by
 have MY:∀b o,X.s₀.heap.get? b=some o->b≠X.env.locals:=λb o e=>zBd (zB5 (zB0 e) I.ok.above)
 have DM:∀b o,X.s₀.heap.get? b=some o->b∉X.ex->b∉ch:=λb o e hx hb=>by
  rcases(nv b hb).1 with z|z
  .exact hx z
  .exact absurd (zB5 (zB0 e) z) (Zau _)
 have cellK:∀x c,X.env.cells.lookup x=some c->∀v,s.heap.IsCell c v->h'.IsCell c v:=λx c e v hZ=>by
  obtain⟨o,ho,hd⟩:=hZ;have AX:c∉ch:=λz=>(nv c z).2.2.1 x c e rfl;by_cases hc:c∈X.fs
  .obtain⟨sl,q⟩:=slot c o (I.cne x c e) hc AX ho (I.freeC x c e);exact⟨_,q,hd⟩
  .exact⟨o,keep c o (I.cne x c e) hc AX ho (I.freeC x c e),hd⟩
 refine⟨I.ok,I.os,hg,⟨λb o e n hb hx=>?_,λb o e n hb hx=>?_,λb o e n hx=>?_,λb o e hx=>?_,λb xs e=>tups b xs (I.base.tups b xs e),λb o xs e=>frzs b o xs (I.base.frzs b o xs e),λb ps e=>?_⟩,?_,λx c e=>?_,?_,λx c e=>?_,λp hp=>?_,hok,I.len⟩
 .exact keep b o (MY b o e) hb (DM b o e hx) (I.base.keep b o e n hb hx) (I.base.free b o e n hx)
 .obtain⟨sl,e1⟩:=I.base.slot b o e n hb hx;obtain⟨PR,e2⟩:=slot b _ (MY b o e) hb (DM b o e hx) e1 (I.base.free b o e n hx);exact⟨PR,e2⟩
 .obtain⟨o',e1⟩:=I.base.there b o e hx;exact free b o' (DM b o e hx) e1 (I.base.free b o e n hx)
 .obtain⟨o',e1⟩:=I.base.there b o e hx;exact there b o' (DM b o e hx) e1
 .obtain⟨m1,e1⟩:=I.base.tbls b ps e;obtain⟨m2,e2⟩:=tbls b _ e1;exact⟨m1++m2,by rw[e2,Array.append_assoc]⟩
 .obtain⟨m,hn,hl⟩:=I.loc;refine⟨m,ns m hn,λi x v e1 e2 e3=>?_⟩;obtain⟨u,r,l⟩:=hl i x v e1 e2 e3;refine⟨u,r,?_⟩;rcases l with l|⟨k,c,e,z⟩
  .exact .inl l
  .exact .inr ⟨k,c,e,cellK x c e _ z⟩
 .obtain⟨v,z⟩:=I.cell x c e;exact⟨v,cellK x c e v z⟩
 .obtain⟨m,⟨o,_,_,ho,_⟩,_⟩:=I.loc;exact free _ o (λz=>(nv _ z).2.1 rfl) ho I.free
 .obtain⟨v,o,ho,hd⟩:=I.cell x c e;exact free c o (λz=>(nv c z).2.2.1 x c e rfl) ho (I.freeC x c e)
 .obtain⟨e,n,ne,nf,d⟩:=I.pin p hp;have AX:p.1∉ch:=λz=>(nv p.1 z).2.2.2 p hp rfl;exact⟨keep p.1 p.2 ne nf AX e n,free p.1 p.2 AX e n,ne,nf,d⟩
theorem Inv.un{t':Nat}(I:Inv X Zt σ H s)(u:Un X.fs [] H H' s.heap h')(hok:HOk X.prog X.w H' h'):Inv X Zt σ H' {s with heap:=h',toks:=t'}:=by
 obtain⟨m,⟨o,es,ep,ho,r⟩,_⟩:=id I.loc;obtain⟨sl,hL⟩:=u.any ho I.free Zy
 exact I.step (g':=s.gens) (d':=s.drawn) (ch:=[]) (λ_ z=>nomatch z) (λb o _ hb _ e n=>u.keep b o e n hb Zy) (λb o _ hb _ e n=>u.slot b o e n hb Zy) (λb o _ e n=>u.free b o e n Zy) (λb o _ e=>u.there b o e Zy) u.tups u.frzs u.tbls (λm' hm=>by
  obtain⟨o',f7,tS,kH,r'⟩:=hm;rw[ho]at kH;cases kH
  exact⟨_,f7,tS,hL,r'⟩) hok I.bare
theorem Inv.call{g':Array GenState}{t':Nat}{d':Drawn}{ch:List Addr}(I:Inv X Zt σ H s)(u:Un (frs X.stack) ch H H' s.heap h')(hok:HOk X.prog X.w H' h')(hg:AllBare g')
  (nv:∀b∈ch,(b∈X.ex\/X.s₀.heap.objs.size<=b)/\b≠X.env.locals/\(∀x c,X.env.cells.lookup x=some c->c≠b)/\∀p∈X.pn++Zt,p.1≠b):
  Inv X Zt σ H' {s with heap:=h',gens:=g',drawn:=d',toks:=t'}:=by
 obtain⟨m,⟨o,es,ep,ho,r⟩,_⟩:=id I.loc;obtain⟨sl,hL⟩:=u.any ho I.free λz=>(nv _ z).2.1 rfl
 exact I.step (ch:=ch) nv (λb o hL hb hc e n=>u.keep b o e n (λz=>(zAo.mp (I.stkSub b z)).elim hL hb) hc) (λb o _ _ hc e n=>u.any e n hc) (λb o hc e n=>u.free b o e n hc) (λb o hc e=>u.there b o e hc) u.tups u.frzs u.tbls (λm' hm=>by
  obtain⟨o',f7,tS,kH,r'⟩:=hm;rw[ho]at kH;cases kH
  exact⟨_,f7,tS,hL,r'⟩) hok hg
theorem Inv.turned{t':Nat}{it:Addr}(I:Inv X Zt σ H s)(k:∀b o,b≠it->s.heap.get? b=some o->h'.get? b=some o)(hn:H it=none)(hL:it≠X.env.locals)
  (h1:it∈X.ex\/X.s₀.heap.objs.size<=it) (h2:∀x c,X.env.cells.lookup x=some c->c≠it) (h3:∀p∈X.pn++Zt,p.1≠it):Inv X Zt σ H {s with heap:=h',toks:=t'}:=by
 have MZ:∀b u,H b=some u->b≠it:=λb u e z=>by rw[z,hn]at e;cases e
 refine I.step (g':=s.gens) (d':=s.drawn) (ch:=[it]) (λb hb=>?_) (λb o _ _ hc e _=>k b o (λz=>hc (by simp[z])) e) (λb o _ _ hc e _=>⟨o.slots,k b o (λz=>hc (by simp[z])) e⟩) (λ_ _ _ _ n=>n)
  (λb o hc e=>⟨o,k b o (λz=>hc (by simp[z])) e⟩) (λ_ _ e=>e) (λ_ _ _ e=>e) (λb ps e=>⟨#[],by rw[e];simp⟩) (λm hm=>?_) (λb u e=>?_) I.bare
 .have e:b=it:=by simpa using hb
  subst e;exact⟨h1,hL,h2,h3⟩
 .obtain⟨o,es,ep,ho,r⟩:=hm;exact⟨o,es,ep,k _ o (Ne.symm hL) ho,r⟩
 .refine(I.hok b u e).stay (λc v hc q=>k c v ?_ q) (λ_ q=>q) λ_ _ q=>q;rcases hc with z|z
  .rw[z];exact MZ b u e
  .exact MZ c _ z
theorem Inv.tok(I:Inv X Zt σ H s)(t:Nat):Inv X Zt σ H {s with toks:=t}:=I.un (h':=s.heap) (t':=t) Un.refl I.hok
theorem Inv.kept{t':Nat}(I:Inv X Zt σ H s)(k:∀b u,s.heap.get? b=some u->h'.get? b=some u):Inv X Zt σ H {s with heap:=h',toks:=t'}:=I.un (Un.kept k) (I.hok.kept k)
theorem Inv.laid{a:Addr}{o:HO}{t':Nat}(I:Inv X Zt σ H s)(k:∀b u,s.heap.get? b=some u->h'.get? b=some u)(hp:s.heap.objs.size<=a)(new:ObjOk X.prog X.w (upd H a o) h' a o):
  Inv X Zt σ (upd H a o) {s with heap:=h',toks:=t'}:=I.un (Un.laid k hp (I.hok.fresh hp)) (I.hok.laid k hp new)
theorem Inv.write{x e:Addr}{o:HO}{t':Nat}(I:Inv X Zt σ H s)(mu:Mut (H x))(he:e=x\/H e=some (.own x))(k:∀b u,b≠e->s.heap.get? b=some u->h'.get? b=some u)(y7:∃u,h'.get? e=some u)
  (new:ObjOk X.prog X.w (upd H x o) h' x o):Inv X Zt σ (upd H x o) {s with heap:=h',toks:=t'}:=I.un (Un.write mu he k y7) (I.hok.write mu he k y7 new)
theorem Inv.pins_of{rg:List (Addr×Obj)}(I:Inv X Zt σ H s)(h:∀p∈rg,s.heap.get? p.1=some p.2/\H p.1=none/\p.1≠X.env.locals/\p.1∉X.fs/\∀v,p.2.data≠.cell v):Inv X rg σ H s:=
 ⟨I.ok,I.os,I.bare,I.base,I.loc,I.cell,I.free,I.freeC,λp hp=>(zA6.mp hp).elim (λz=>I.pin p (List.mem_append_left _ z)) (h p),I.hok,I.len⟩
theorem uv{N:List Str}(hN:N.Nodup){i j:Nat}{x:Str}(a:N[i]?=some x)(b:N[j]?=some x):i=j:=by
 obtain⟨h1,e1⟩:=zAa.mp a;obtain⟨h2,e2⟩:=zAa.mp b;exact(List.getElem_inj hN).mp (e1.trans e2.symm)
theorem qz{M:Model}{A:Around}{E:Value->Shared->Prop}{i:Nat}{x:Str}{v:V}{u:Value}{Q:Unit->Shared->Prop}(I:Inv X Zt σ H s)(hN:X.N.Nodup)(hi:X.N[i]?=some x)(hx:Loc X.env.scope x)(r:RelV v u)
  (h:∀s',Inv X Zt (σ.set i (some v)) H s'->(∃a,Heap.SameBut a s.heap s'.heap/\(a=X.env.locals\/X.env.cells.lookup x=some a))->Q () s') (hf:X.fn x=true\/X.env.scope.names.lookup x=some .local:=by first|exact .inl rfl|exact .inr rfl|assumption):wpAny M A (storeName X.env x u) Q E s:=by
 obtain⟨m,hn,hl⟩:=id I.loc;have E3:(X.env.scope.kind==.class||(X.env.scope.kind==.module&&X.env.locals != X.env.globals))=false:=by rw[I.ok.kind];rfl
 have AY:i<σ.length:=by rw[I.len];exact(zAa.mp hi).1
 have cne:=I.cne
 have tracked:∀{a:Addr} {h':Heap},(∃o,s.heap.get? a=some o/\H a=none)->Heap.SameBut a s.heap h'->HOk X.prog X.w H h':=λ{a h'} ha hs b ob e=>by
  obtain⟨_,_,hfree⟩:=ha;refine(I.hok b ob e).stay (λc w' hc q=>(hs.2 c ?_).trans q) (λ_ q=>q) λ_ _ q=>q;rintro rfl;rcases hc with rfl|hc
  .rw[hfree]at e;cases e
  .rw[hfree]at hc;cases hc
 rcases hx with hk|hk
 .refine wpAny_storeName_local hk hn (λh' DO hs=>?_) E3;obtain⟨oL,_,_,PU,_⟩:=id hn;refine h _ ⟨I.ok,I.os,I.bare,⟨λb o e n hb hx=>?_,λb o e n hb hx=>?_,I.base.free,λb o e hx=>?_,I.base.tups,I.base.frzs,I.base.tbls⟩,⟨_,DO,λj y v' e1 e2 e3=>?_⟩,λy c e=>?_,I.free,I.freeC,λp hp=>?_,tracked ⟨oL,PU,I.free⟩ hs,by simpa using I.len⟩ ⟨_,hs,.inl rfl⟩
  .exact(hs.2 b (zBd (zB5 (zB0 e) I.ok.above))).trans (I.base.keep b o e n hb hx)
  .obtain⟨sl,e1⟩:=I.base.slot b o e n hb hx;exact⟨sl,(hs.2 b (zBd (zB5 (zB0 e) I.ok.above))).trans e1⟩
  .obtain⟨o',e1⟩:=I.base.there b o e hx;exact⟨o',(hs.2 b (zBd (zB5 (zB0 e) I.ok.above))).trans e1⟩
  .by_cases hj:j=i
   .subst hj;rw[hi]at e1;cases e1;rw[List.getElem?_set_self AY]at e2;cases e2;exact⟨u,r,.inl ⟨hk,by simp⟩⟩
   .rw[List.getElem?_set_ne (Ne.symm hj)]at e2;obtain⟨u',r',q⟩:=hl j y v' e1 e2 e3;refine⟨u',r',?_⟩;rcases q with⟨k,e⟩|⟨k,c,e,z⟩
    .refine .inl ⟨k,?_⟩;have:y≠x:=λe=>hj (uv hN e1 (e▸hi));simp[this,e]
    .exact .inr ⟨k,c,e,z.sameBut hs (cne y c e)⟩
  .obtain⟨w',z⟩:=I.cell y c e;exact⟨w',z.sameBut hs (cne y c e)⟩
  .obtain⟨e,n,ne,nf,d⟩:=I.pin p hp;exact⟨(hs.2 p.1 ne).trans e,n,ne,nf,d⟩
 .have E4:X.fn x=true:=by
   rcases hf with z|z
   .exact z
   .rw[z]at hk;cases hk
  obtain⟨c,hc⟩:=I.ok.has x (.inl hk);obtain⟨w',z⟩:=I.cell x c hc;refine wpAny_storeName_cell I.ok.kind hk hc z (λh' aT hs=>?_);obtain⟨oc,Na,E5⟩:=id z;refine h {s with heap:=h'} ⟨I.ok,I.os,I.bare,⟨λb o e n hb hx=>?_,λb o e n hb hx=>?_,I.base.free,λb o e hx=>?_,I.base.tups,I.base.frzs,I.base.tbls⟩,⟨m,hn.sameBut hs (Ne.symm (cne x c hc)),λj y v' e1 e2 e3=>?_⟩,λy c' e=>?_,I.free,I.freeC,λp hp=>?_,tracked ⟨oc,Na,I.freeC x c hc⟩ hs,by simpa using I.len⟩ ⟨c,hs,.inr hc⟩
  .exact(hs.2 b (zBd (zB5 (zB0 e) (I.ok.cab x c E4 hc)))).trans (I.base.keep b o e n hb hx)
  .obtain⟨sl,e1⟩:=I.base.slot b o e n hb hx;exact⟨sl,(hs.2 b (zBd (zB5 (zB0 e) (I.ok.cab x c E4 hc)))).trans e1⟩
  .obtain⟨o',e1⟩:=I.base.there b o e hx;exact⟨o',(hs.2 b (zBd (zB5 (zB0 e) (I.ok.cab x c E4 hc)))).trans e1⟩
  .by_cases hj:j=i
   .subst hj;rw[hi]at e1;cases e1;rw[List.getElem?_set_self AY]at e2;cases e2;exact⟨u,r,.inr ⟨.inl hk,c,hc,aT⟩⟩
   .rw[List.getElem?_set_ne (Ne.symm hj)]at e2;obtain⟨u',r',q⟩:=hl j y v' e1 e2 e3;refine⟨u',r',?_⟩;rcases q with q|⟨k,c',e,z'⟩
    .exact .inl q
    .refine .inr ⟨k,c',e,z'.sameBut hs ?_⟩;rintro rfl;exact hj (uv hN e1 (I.ok.inj _ _ _ e hc▸hi))
  .by_cases DS:c'=c
   .subst DS;exact⟨_,aT⟩
   .obtain⟨w2,z2⟩:=I.cell y c' e;exact⟨w2,z2.sameBut hs DS⟩
  .obtain⟨e,n,ne,nf,d⟩:=I.pin p hp;refine⟨(hs.2 p.1 ?_).trans e,n,ne,nf,d⟩;intro q;rw[q,Na]at e;have q':oc=p.2:=zAl e;exact d w' (by rw[<-q'];exact E5)
theorem fu{M:Model}{A:Around}{E:Value->Shared->Prop}{i:Nat}{x:Str}{v:V}{u:Value}{Q:Unit->Shared->Prop}(I:Inv X Zt σ H s)(hN:X.N.Nodup)(hi:X.N[i]?=some x)(hx:Loc X.env.scope x)(r:RelV v u)
  (h:∀s',Inv X Zt (σ.set i (some v)) H s'->Q () s') (hf:X.fn x=true\/X.env.scope.names.lookup x=some .local:=by first|exact .inl rfl|exact .inr rfl|assumption):wpAny M A (storeName X.env x u) Q E s:=
 qz I hN hi hx r (λs' I' _=>h s' I') hf
theorem Inv.call'{s':Shared}{ch:List Addr}(I:Inv X Zt σ H s)(ho:s'.os=s.os)(u:Un (frs X.stack) ch H H' s.heap s'.heap)(hok:HOk X.prog X.w H' s'.heap)(hg:AllBare s'.gens)
  (nv:∀b∈ch,(b∈X.ex\/X.s₀.heap.objs.size<=b)/\b≠X.env.locals/\(∀x c,X.env.cells.lookup x=some c->c≠b)/\∀p∈X.pn++Zt,p.1≠b):Inv X Zt σ H' s':=by
 obtain⟨h',g',d',t',o'⟩:=s';have e:o'=s.os:=ho;subst e;exact I.call (g':=g') (t':=t') (d':=d') u hok hg nv
end
abbrev XK:=Value->Option Addr->Hp->Prop
abbrev St:=List (Option V)
abbrev VK:=V->Hp->Prop
abbrev TE:=St->Hp->VK->Prop
abbrev TT:=St->Hp->(Bool->Hp->Prop)->Prop
abbrev TA:=St->Hp->(List V->Hp->Prop)->Prop
structure Ends where
 nx:St->Hp->Prop
 rt:VK
 bk:St->Hp->Prop:=λ_ _=>False
 ct:St->Hp->Prop:=λ_ _=>False
abbrev TS:=Ends->St->Hp->Prop
def EP(X:Cx)(Zt:List (Addr×Obj))(σ:St)(Q:VK)(u:Value)(s':Shared):Prop:=∃v H',Inv X Zt σ H' s'/\RelV v u/\Q v H'
def TP(X:Cx)(Zt:List (Addr×Obj))(σ:St)(Q:Bool->Hp->Prop)(b:Bool)(s':Shared):Prop:=∃H',Inv X Zt σ H' s'/\Q b H'
def AP(X:Cx)(Zt:List (Addr×Obj))(σ:St)(Q:List V->Hp->Prop)(us:List Value)(s':Shared):Prop:=∃vs H',Inv X Zt σ H' s'/\Vals vs us/\Q vs H'
def SP(X:Cx)(Zt:List (Addr×Obj))(D:Ends)(f:Flow)(s':Shared):Prop:=
 match f with
 |.next=>∃av H',Inv X Zt av H' s'/\D.nx av H'
 |.brk=>∃av H',Inv X Zt av H' s'/\D.bk av H'
 |.cont=>∃av H',Inv X Zt av H' s'/\D.ct av H'
 |.ret u=>∃v av H',Inv X Zt av H' s'/\RelV v u/\D.rt v H'
def PE(X:Cx)(e:Expr)(t:TE):Prop:=
 ∀(Zt:List (Addr×Obj)) (s:Shared) (σ:St) (H:Hp) (Q:VK),Inv X Zt σ H s->t σ H Q->wpAny (model X.prog X.w) X.A (eval e X.env) (EP X Zt σ Q) X.xe s
def PT(X:Cx)(e:Expr)(t:TT):Prop:=
 ∀(Zt:List (Addr×Obj)) (s:Shared) (σ:St) (H:Hp) (Q:Bool->Hp->Prop),Inv X Zt σ H s->t σ H Q->wpAny (model X.prog X.w) X.A (isTrue e X.env (eval e X.env)) (TP X Zt σ Q) X.xe s
def PW(X:Cx)(e:Expr)(t:TT):Prop:=
 ∀(whole:Sem Value) (Zt:List (Addr×Obj)) (s:Shared) (σ:St) (H:Hp) (Q:Bool->Hp->Prop),Inv X Zt σ H s->t σ H Q->wpAny (model X.prog X.w) X.A (isTrue e X.env whole) (TP X Zt σ Q) X.xe s
theorem PW.pt{X:Cx}{e:Expr}{t:TT}(h:PW X e t):PT X e t:=h _
def PA(X:Cx)(es:List Expr)(t:TA):Prop:=
 ∀(pos:Pos) (Zt:List (Addr×Obj)) (s:Shared) (σ:St) (H:Hp) (Q:List V->Hp->Prop),Inv X Zt σ H s->t σ H Q->wpAny (model X.prog X.w) X.A (spliced (backTo pos (starEach es X.env))) (AP X Zt σ Q) X.xe s
def PS(X:Cx)(st:Stmt)(t:TS):Prop:=
 ∀(Zt:List (Addr×Obj)) (s:Shared) (σ:St) (H:Hp) (D:Ends),Inv X Zt σ H s->t D σ H->wpAny (model X.prog X.w) X.A (exec st X.env) (SP X Zt D) X.xe s
def PSs(X:Cx)(st:List Stmt)(t:TS):Prop:=
 ∀(Zt:List (Addr×Obj)) (s:Shared) (σ:St) (H:Hp) (D:Ends),Inv X Zt σ H s->t D σ H->wpAny (model X.prog X.w) X.A (execs st X.env) (SP X Zt D) X.xe s
theorem thn{α:Type}{t:Sem α}{Q Q':α->Shared->Prop}{M:Model}{A:Around}{E:Value->Shared->Prop}{s:Shared}(h:wpAny M A t Q E s)(hQ:∀a s,Q a s->Q' a s):wpAny M A t Q' E s:=wpAny_mono h hQ λ_ _ x=>x
section
variable{X:Cx}
theorem bin{a b:Expr}{ta tb:TE}(ha:PE X a ta)(hb:PE X b tb){Zt:List (Addr×Obj)}{s:Shared}{σ:St}{H:Hp}{R:V->V->Hp->Prop}(I:Inv X Zt σ H s)(h:ta σ H λx H1=>tb σ H1 λy H2=>R x y H2)
  {α:Type} {Q:α->Shared->Prop} {f:Value->Value->Sem α}
  (hf:∀v u s2 x y H2,Inv X Zt σ H2 s2->RelV x v->RelV y u->R x y H2->wpAny (model X.prog X.w) X.A (f v u) Q X.xe s2):
  wpAny (model X.prog X.w) X.A (eval a X.env) (λv s₁=>wpAny (model X.prog X.w) X.A (eval b X.env) (λu s₂=>wpAny (model X.prog X.w) X.A (f v u) Q X.xe s₂) X.xe s₁) X.xe s:=by
 refine thn (ha Zt s σ H _ I h) λv s1=>?_;rintro⟨x,H1,I1,r1,q1⟩;refine thn (hb Zt s1 σ H1 _ I1 q1) λu s2=>?_;rintro⟨y,H2,I2,r2,q2⟩;exact hf v u s2 x y H2 I2 r1 r2 q2
inductive TVarI(i:Nat)(σ:St)(H:Hp)(Q:VK):Prop
 |mk:∀v,(σ[i]?=some (some v))->(Q v H)->TVarI i σ H Q
def Fq(i:Nat):TE:=λσ H Q=>TVarI i σ H Q
def tC(v:V):TE:=λ_ H Q=>Q v H
theorem Iz{i:Nat}{x:Str}{pos:Pos}(hN:X.N[i]?=some x)(hv:Vis X.env.scope x)(hd:(x==("__debug__":Str))=false:=by decide)(kK:(x==("__classdict__":Str))=false:=by decide):PE X (.Name x pos) (Fq i):=by
 intro Zt s σ H Q I h;obtain⟨v,e,h⟩:=h;obtain⟨m,hn,hl⟩:=I.loc;obtain⟨u,r,l⟩:=hl i x v hN e hv
 have fin:EP X Zt σ Q u s:=⟨v,H,I,r,h⟩
 rcases l with⟨hk,hm⟩|⟨hk,c,hc,hcell⟩
 .exact wpAny_Name (wpAny_loadName_local I.ok.kind hk hn hm fin) hd
 .rcases hk with hk|hk
  .exact wpAny_Name (wpAny_loadName_cell I.ok.kind hk hc hcell fin) hd
  .exact wpAny_Name (wpAny_loadName_free I.ok.kind hk hc hcell fin kK) hd
theorem aB{i j pos}:PE X (.Constant (.int i) j pos) (tC (.int i)):=λ_ _ _ H _ I h=>wpAny_Constant_int ⟨.int i,H,I.tok _,⟨_,rfl⟩,h⟩
theorem lV{b j pos}:PE X (.Constant (.bool b) j pos) (tC (.bl b)):=λ_ _ _ H _ I h=>Constant_bool ⟨.bl b,H,I,rfl,h⟩
theorem lq{j pos}:PE X (.Constant .none j pos) (tC .non):=λ_ _ _ H _ I h=>Constant_none ⟨.non,H,I,rfl,h⟩
def Gl(X:Cx)(x:Str):Prop:=X.env.kindOf x=some .globalImplicit
theorem xT{E:Value->Shared->Prop}{Zt:List (Addr×Obj)}{s:Shared}{σ:St}{H:Hp}{x:Str}{u:Value}{pos:Pos}{Q:Value->Shared->Prop}(I:Inv X Zt σ H s)(hg:Gl X x)(hm:X.mg x=some u)(h:Q u s)
  (hd:(x==("__debug__":Str))=false:=by decide):wpAny (model X.prog X.w) X.A (eval (.Name x pos) X.env) Q E s:=
 Calls.Name_function_global I.ok.kind hg (Calls.loadGlobal_global (by rw[I.ok.glob];exact I.mod.glob.keeps I.bk) hm h) hd
theorem iD{E:Value->Shared->Prop}{Zt:List (Addr×Obj)}{s:Shared}{σ:St}{H:Hp}{x:Str}{u:Value}{pos:Pos}{Q:Value->Shared->Prop}(I:Inv X Zt σ H s)(hg:Gl X x)(hm:X.mg x=none)(hv:bootBuiltins x=some u)(h:Q u s)
  (hn:x≠"__name__":=by decide) (hd:(x==("__debug__":Str))=false:=by decide):wpAny (model X.prog X.w) X.A (eval (.Name x pos) X.env) Q E s:=by
 obtain⟨mb,h1,h2⟩:=I.mod.blt;exact Calls.Name_function_global I.ok.kind hg (Calls.loadGlobal_builtin (by rw[I.ok.glob];exact I.mod.glob.keeps I.bk) hm (by rw[I.ok.blt];exact h1.keeps I.bk) ((h2 x hn).trans hv) h) hd
theorem cg{x:Str}{v:V}{u:Value}{pos:Pos}(hg:Gl X x)(hm:X.mg x=some u)(r:RelV v u)(hd:(x==("__debug__":Str))=false:=by decide):PE X (.Name x pos) (tC v):=
 λ_ _ _ H _ I h=>xT I hg hm ⟨v,H,I,r,h⟩ hd
theorem rZ{x:Str}{v:V}{u:Value}{pos:Pos}(hg:Gl X x)(hm:X.mg x=none)(hv:bootBuiltins x=some u)(r:RelV v u)(hn:x≠"__name__":=by decide)(hd:(x==("__debug__":Str))=false:=by decide):PE X (.Name x pos) (tC v):=
 λ_ _ _ H _ I h=>iD I hg hm hv ⟨v,H,I,r,h⟩ hn hd
variable{a b:Expr}{ta tb:TE}{pos:Pos}
def PC(X:Cx)(op:CmpOp)(a b:Expr)(t:TE):Prop:=
 ∀(Zt:List (Addr×Obj)) (s:Shared) (σ:St) (H:Hp) (Q:VK),Inv X Zt σ H s->t σ H Q->
  wpAny (model X.prog X.w) X.A (eval a X.env) (λv s₁=>wpAny (model X.prog X.w) X.A (eval b X.env) (λu s₂=>wpAny (model X.prog X.w) X.A (compareOp op v u) (EP X Zt σ Q) X.xe s₂) X.xe s₁) X.xe s
def tB(t:TE):TT:=λσ H Q=>t σ H λx H1=>∃c,x=.bl c/\Q c H1
theorem M7{op:CmpOp}{t:TE}(h:PC X op a b t)(h1:behindInMarks op b=false:=by first|exact nobehind _ Zx Zx|rfl):PT X (.Compare a [op] [b] pos) (tB t):=by
 intro Zt s σ H Q I hw;refine wpAny_isTrue_Compare1 (thn (h Zt s σ H _ I hw) λv s1 h1=>thn h1 λu s2 h2=>thn h2 λc s3=>?_) h1;rintro⟨x,H1,I1,r1,q1⟩;obtain⟨d,rfl,q⟩:=q1;cases r1;exact wpAny_truthy_bool ⟨H1,I1,q⟩
theorem fG{e:Expr}{t:TE}(h:PE X e t)(he:∀whole,isTrue e X.env whole=(do let v <-whole;standAt e.pos;holding [v] (truthy v)):=by intro _;rfl):PT X e (tB t):=by
 intro Zt s σ H Q I hw;refine isTrue_plain (thn (h Zt s σ H _ I hw) λv s1=>?_) (he _);rintro⟨x,H1,I1,r1,q1⟩;obtain⟨d,rfl,q⟩:=q1;cases r1;exact wpAny_truthy_bool ⟨H1,I1,q⟩
variable{tA DT:TT}{rest:List Expr}
def M8(t u:TT):TT:=λσ H Q=>t σ H λc H1=>if c=true then u σ H1 Q else Q false H1
def tOr(t u:TT):TT:=λσ H Q=>t σ H λc H1=>if c=true then Q true H1 else u σ H1 Q
def M9(t:TT):TT:=λσ H Q=>t σ H λc H1=>Q (!c) H1
theorem Ft(ha:PT X a tA):PW X (.BoolOp .And [a] pos) tA:=by
 intro wh Zt s σ H Q I h;refine isTrue_and (thn (ha Zt s σ H Q I h) λc s1 e=>?_)
 cases c with
 |true=>exact isTrue_and_nil e
 |false=>exact e
theorem vY(ha:PT X a tA):PW X (.BoolOp .Or [a] pos) tA:=by
 intro wh Zt s σ H Q I h;refine isTrue_or (thn (ha Zt s σ H Q I h) λc s1 e=>?_)
 cases c with
 |false=>exact isTrue_or_nil e
 |true=>exact e
theorem IK(ha:PT X a tA)(hb:PW X (.BoolOp .And (b::rest) pos) DT):PW X (.BoolOp .And (a::b::rest) pos) (M8 tA DT):=by
 intro wh Zt s σ H Q I h;refine isTrue_and (thn (ha Zt s σ H _ I h) λc s1=>?_);rintro⟨H1,I1,q1⟩
 cases c with
 |true=>exact hb wh Zt s1 σ H1 Q I1 q1
 |false=>exact⟨H1,I1,q1⟩
theorem uw(ha:PT X a tA)(hb:PW X (.BoolOp .Or (b::rest) pos) DT):PW X (.BoolOp .Or (a::b::rest) pos) (tOr tA DT):=by
 intro wh Zt s σ H Q I h;refine isTrue_or (thn (ha Zt s σ H _ I h) λc s1=>?_);rintro⟨H1,I1,q1⟩
 cases c with
 |true=>exact⟨H1,I1,q1⟩
 |false=>exact hb wh Zt s1 σ H1 Q I1 q1
theorem cW(ha:PT X a tA):PT X (.UnaryOp .Not a pos) (M9 tA):=by
 intro Zt s σ H Q I h;exact isTrue_not (ha Zt s σ H (λc H1=>Q (!c) H1) I h)
def Hu(ta tb:TE):TE:=λσ H Q=>ta σ H λx H1=>∃c,x=.bl c/\if c=true then tb σ H1 Q else Q (.bl false) H1
def JX(ta:TE):TE:=λσ H Q=>ta σ H λx H1=>∃c,x=.bl c/\Q (.bl (!c)) H1
theorem fH{op}{t:TE}(h:PE X a t):PE X (.BoolOp op [a] pos) t:=λZt s σ H Q I hw=>BoolOp_one (h Zt s σ H Q I hw)
theorem cR(ha:PE X a ta)(hb:PE X (.BoolOp .And (b::rest) pos) tb):PE X (.BoolOp .And (a::b::rest) pos) (Hu ta tb):=by
 intro Zt s σ H Q I h;refine BoolOp_and (thn (ha Zt s σ H _ I h) λv s1=>?_);rintro⟨x,H1,I1,r1,q1⟩;obtain⟨c,rfl,q1⟩:=q1;cases r1;refine wpAny_truthy_bool ?_
 cases c with
 |true=>exact hb Zt s1 σ H1 Q I1 q1
 |false=>exact⟨.bl false,H1,I1,rfl,q1⟩
theorem IV(ha:PE X a ta):PE X (.UnaryOp .Not a pos) (JX ta):=by
 intro Zt s σ H Q I h;refine UnaryOp_ (thn (ha Zt s σ H _ I h) λv s1=>?_);rintro⟨x,H1,I1,r1,q1⟩;obtain⟨c,rfl,q1⟩:=q1;cases r1;exact not_of (wpAny_truthy_bool ⟨.bl (!c),H1,I1,rfl,q1⟩)
def tIf(t:TT)(ta tb:TE):TE:=λσ H Q=>t σ H λc H1=>if c=true then ta σ H1 Q else tb σ H1 Q
theorem uA{c:Expr}(hc:PT X c tA)(ha:PE X a ta)(hb:PE X b tb):PE X (.IfExp c a b pos) (tIf tA ta tb):=by
 intro Zt s σ H Q I h;refine wpAny_IfExp (thn (hc Zt s σ H _ I h) λd s1=>?_);rintro⟨H1,I1,q1⟩
 cases d with
 |true=>exact ha Zt s1 σ H1 Q I1 q1
 |false=>exact hb Zt s1 σ H1 Q I1 q1
end
def SqL(K:Frag)(H:Hp)(a:Addr)(xs:List V):Prop:=
 Rd H a (.lst xs) \/
  ∃(o:Obj) (Zs:Array Value) (n:Nat),K.lookup a=some o/\o.cls=.type "list"/\o.dict=none/\o.data=.seq Zs n/\Zs.size<=sizeLine/\Vals xs Zs.toList
def SqT(K:Frag)(H:Hp)(a:Addr)(xs:List V):Prop:=
 Rd H a (.tup xs) \/
  ∃(o:Obj) (Zs:Array Value) (n:Nat),K.lookup a=some o/\o.cls=.type "tuple"/\o.data=.seq Zs n/\Zs.size<=sizeLine/\Vals xs Zs.toList
def Ma:Value->Option V
 |.none=>some .non
 |.bool b=>some (.bl b)
 |.int i _=>some (.int i)
 |.str x _=>some (.str x)
 |.bytes b _=>some (.byt b)
 |.float b _=>some (.flt b)
 |.ref a=>some (.ref a)
 |.type n=>some (.ty n)
 |_=>none
theorem RelV.abs{x:V}{u:Value}(r:RelV x u):Ma u=some x:=by
 cases x with
 |non=>cases r;rfl
 |bl _=>cases r;rfl
 |int _=>obtain⟨t,rfl⟩:=r;rfl
 |str _=>obtain⟨t,rfl⟩:=r;rfl
 |byt _=>obtain⟨t,rfl⟩:=r;rfl
 |flt _=>obtain⟨t,rfl⟩:=r;rfl
 |ref _=>cases r;rfl
 |ty _=>cases r;rfl
theorem RelV.inj{x y:V}{u:Value}(r:RelV x u)(q:RelV y u):x=y:=zAl (r.abs.symm.trans q.abs)
theorem Vals.inj:∀{xs ys:List V} {us:List Value},Vals xs us->Vals ys us->xs=ys
 |_,_,_,.nil,.nil=>rfl
 |_,_,_,.cons r t,.cons r' t'=>by rw[r.inj r',Vals.inj t t']
section
variable{X:Cx}{Zt:List (Addr×Obj)}{σ:St}{H:Hp}{s:Shared}{a:Addr}{xs ys:List V}
theorem SqL.of{K:Frag}(h:H a=some (.lst xs)):SqL K H a xs:=.inl (.inl h)
theorem SqT.of{K:Frag}(h:H a=some (.tup xs)):SqT K H a xs:=.inl (.inl h)
theorem Inv.list(I:Inv X Zt σ H s)(h:SqL X.K H a xs):∃Zs:List Value,Vals xs Zs/\PlainL s.heap a Zs.toArray/\xs.length<=sizeLine:=by
 rcases h with h|⟨o,Zs,n,hk,hc,hd,hs,hz,r⟩
 .obtain⟨z,Zs,n,r,e⟩:=h.ok I.hok;exact⟨Zs,r,⟨_,n,e,rfl,rfl,rfl⟩,z⟩
 .refine⟨Zs.toList,r,⟨o,n,I.kIn a o hk,hc,hd,by simpa using hs⟩,?_⟩;have e:=r.length;simp only[Array.length_toList]at e;lia
theorem Inv.tuple(I:Inv X Zt σ H s)(h:SqT X.K H a xs):∃Zs:List Value,Vals xs Zs/\IsTup s.heap a Zs.toArray/\xs.length<=sizeLine:=by
 rcases h with h|⟨o,Zs,n,hk,hc,hs,hz,r⟩
 .obtain⟨z,Zs,r,p⟩:=h.ok I.hok;exact⟨Zs,r,p,z⟩
 .refine⟨Zs.toList,r,⟨o,I.kIn a o hk,hc,n,by simpa using hs⟩,?_⟩;have e:=r.length;simp only[Array.length_toList]at e;lia
theorem Inv.list_inj(I:Inv X Zt σ H s)(h:SqL X.K H a xs)(h':SqL X.K H a ys):xs=ys:=by
 obtain⟨Zs,r,⟨o,n,e,_,_,d⟩,_⟩:=I.list h;obtain⟨its',r',⟨o',n',e',_,_,d'⟩,_⟩:=I.list h';rw[e]at e';cases e';rw[d]at d';injection d' with d1 _;have:Zs=its':=by simpa using congrArg Array.toList d1
 subst this;exact r.inj r'
theorem Inv.tuple_inj(I:Inv X Zt σ H s)(h:SqT X.K H a xs)(h':SqT X.K H a ys):xs=ys:=by
 obtain⟨Zs,r,⟨o,e,_,n,d⟩,_⟩:=I.tuple h;obtain⟨its',r',⟨o',e',_,n',d'⟩,_⟩:=I.tuple h';rw[e]at e';cases e';rw[d]at d';injection d' with d1 _;have:Zs=its':=by simpa using congrArg Array.toList d1
 subst this;exact r.inj r'
end
abbrev Cx.wish(X:Cx)(E:Value->Shared->Prop):Cx:={X with xe:=E}
abbrev Cx.nox(X:Cx):Cx:=X.wish λ_ _=>False
theorem Cx.Ok.wish{X:Cx}(ok:X.Ok)(E:Value->Shared->Prop):(X.wish E).Ok:=
 ⟨ok.mod,ok.kind,ok.glob,ok.blt,ok.above,ok.inj,ok.has,ok.cab,ok.hd,ok.frames,ok.stk,ok.exf,ok.bs,ok.bsz,ok.noex,ok.exfs,ok.funs,ok.frf⟩
theorem Cx.Ok.unwish{X:Cx}{E:Value->Shared->Prop}(ok:(X.wish E).Ok):X.Ok:=
 ⟨ok.mod,ok.kind,ok.glob,ok.blt,ok.above,ok.inj,ok.has,ok.cab,ok.hd,ok.frames,ok.stk,ok.exf,ok.bs,ok.bsz,ok.noex,ok.exfs,ok.funs,ok.frf⟩
section
variable{X:Cx}{Zt:List (Addr×Obj)}{σ:St}{H:Hp}{s:Shared}{E:Value->Shared->Prop}
theorem Inv.wish(I:Inv X Zt σ H s)(E:Value->Shared->Prop):Inv (X.wish E) Zt σ H s:=⟨I.ok.wish E,I.os,I.bare,I.base,I.loc,I.cell,I.free,I.freeC,I.pin,I.hok,I.len⟩
theorem Inv.unwish(I:Inv (X.wish E) Zt σ H s):Inv X Zt σ H s:=⟨I.ok.unwish,I.os,I.bare,I.base,I.loc,I.cell,I.free,I.freeC,I.pin,I.hok,I.len⟩
theorem SP.unwish{D:Ends}{f:Flow}{s':Shared}(h:SP (X.wish E) Zt D f s'):SP X Zt D f s':=by
 cases f with
 |next=>obtain⟨av,H',I,q⟩:=h;exact⟨av,H',I.unwish,q⟩
 |brk=>obtain⟨av,H',I,q⟩:=h;exact⟨av,H',I.unwish,q⟩
 |cont=>obtain⟨av,H',I,q⟩:=h;exact⟨av,H',I.unwish,q⟩
 |ret u=>obtain⟨v,av,H',I,r,q⟩:=h;exact⟨v,av,H',I.unwish,r,q⟩
theorem PSs.nox{st:List Stmt}{t:TS}(h:PSs X.nox st t):PSs X st t:=λZt s σ H D I hw=>
 wpAny_mono (h Zt s σ H D (I.wish _) hw) (λ_ _ q=>q.unwish) λ_ _ z=>False.elim z
end
section
variable{X:Cx}{st:Stmt}{rest:List Stmt}{t u:TS}{e:Expr}{te:TE}{pos:Pos}
def Hv:TS:=λD σ H=>D.nx σ H
def Fv(t u:TS):TS:=λD σ H=>t {D with nx:=u D} σ H
theorem bN:PSs X [] Hv:=λ_ _ σ H _ I h=>wpAny_execs_nil ⟨σ,H,I,h⟩
theorem aC(h1:PS X st t)(h2:PSs X rest u):PSs X (st::rest) (Fv t u):=by
 intro Zt s σ H D I h;refine wpAny_execs_cons (thn (h1 Zt s σ H {D with nx:=u D} I h) λf s1 q=>?_)
 cases f with
 |next=>
  obtain⟨av,H',I',q⟩:=q;exact h2 Zt s1 av H' D I' q
 |ret v=>exact q
 |brk=>exact q
 |cont=>exact q
theorem aG(h1:PS X st t):PSs X [st] t:=by
 intro Zt s σ H D I h;refine wpAny_execs_cons (thn (h1 Zt s σ H D I h) λf s1 q=>?_)
 cases f with
 |next=>exact wpAny_execs_nil q
 |ret v=>exact q
 |brk=>exact q
 |cont=>exact q
theorem Inv.quiet{Zt:List (Addr×Obj)}{σ:St}{H:Hp}{s:Shared}(I:Inv X Zt σ H s):interactive X.env=false:=by simp[interactive,I.ok.kind]
def JZ(te:TE):TS:=λD σ H=>te σ H λ_ H1=>D.nx σ H1
theorem cA(he:PE X e te)(hs:swapsWith e none pos.line X.env=pure false:=by rfl):PS X (.Expr e pos) (JZ te):=by
 intro Zt s σ H D I h;exact wpAny_Expr_any (thn (he Zt s σ H _ I h) λv s1=>by rintro⟨x,H1,I1,r1,q1⟩;exact⟨σ,H1,I1,q1⟩) I.quiet hs
def IW(te:TE):TS:=λD σ H=>te σ H D.rt
theorem aW(he:PE X e te):PS X (.Return (some e) pos) (IW te):=by
 intro Zt s σ H D I h;exact wpAny_Return_some (thn (he Zt s σ H _ I h) λv s1=>by rintro⟨x,H1,I1,r1,q1⟩;exact⟨x,σ,H1,I1,r1,q1⟩)
def Mf(c:TT)(t u:TS):TS:=λD σ H=>c σ H λb H1=>if b=true then t D σ H1 else u D σ H1
theorem dh{c:Expr}{a b:List Stmt}{tc:TT}(hc:PT X c tc)(ha:PSs X a t)(hb:PSs X b u):PS X (.If c a b pos) (Mf tc t u):=by
 intro Zt s σ H D I h;refine wpAny_If (thn (hc Zt s σ H _ I h) λd s1=>?_);rintro⟨H1,I1,q1⟩
 cases d with
 |true=>exact ha Zt s1 σ H1 D I1 q1
 |false=>exact hb Zt s1 σ H1 D I1 q1
def Bw:TS:=λ_ _ _=>False
theorem jF:PS X st Bw:=λ_ _ _ _ _ _ h=>h.elim
theorem qC{E6:List Stmt}:PSs X E6 Bw:=λ_ _ _ _ _ _ h=>h.elim
end
abbrev TG:=V->St->Hp->(St->Hp->Prop)->Prop
abbrev TGs:=List V->St->Hp->(St->Hp->Prop)->Prop
def PG(X:Cx)(target:Expr)(t:TG):Prop:=
 ∀(Zt:List (Addr×Obj)) (s:Shared) (σ:St) (H:Hp) (v:V) (u:Value) (Q:St->Hp->Prop),Inv X Zt σ H s->RelV v u->t v σ H Q->
  wpAny (model X.prog X.w) X.A (assign target X.env u) (λ_ s'=>∃av H',Inv X Zt av H' s'/\Q av H') X.xe s
def PGs(X:Cx)(ts:List Expr)(t:TGs):Prop:=
 ∀(Zt:List (Addr×Obj)) (s:Shared) (σ:St) (H:Hp) (vs:List V) (us:List Value) (Q:St->Hp->Prop),Inv X Zt σ H s->Vals vs us->t vs σ H Q->
  wpAny (model X.prog X.w) X.A (assignInOrder ((assignEach ts X.env).map (·.2)) us) (λ_ s'=>∃av H',Inv X Zt av H' s'/\Q av H') X.xe s
abbrev zJ:=V->V->V->Hp->(Hp->Prop)->Prop
def Fw(X:Cx)(t:zJ):Prop:=
 ∀(Zt:List (Addr×Obj)) (s:Shared) (σ:St) (H:Hp) (o i v:V) (ov iv u:Value) (Q:Hp->Prop),Inv X Zt σ H s->RelV o ov->RelV i iv->RelV v u->t o i v H Q->
  wpAny (model X.prog X.w) X.A (setItem ov iv u) (λ_ s'=>∃H',Inv X Zt σ H' s'/\Q H') X.xe s
abbrev TIp:=V->V->Hp->VK->Prop
def PIp(X:Cx)(op:Operator)(t:TIp):Prop:=
 ∀(Zt:List (Addr×Obj)) (s:Shared) (σ:St) (H:Hp) (x y:V) (v u:Value) (Q:VK),Inv X Zt σ H s->RelV x v->RelV y u->t x y H Q->
  wpAny (model X.prog X.w) X.A (inplaceOp op v u) (EP X Zt σ Q) X.xe s
section
variable{X:Cx}{pos:Pos}
def bK(i:Nat):TG:=λv σ H Q=>Q (σ.set i (some v)) H
theorem bC{i:Nat}{x:Str}(hN:X.N.Nodup)(hi:X.N[i]?=some x)(hx:Loc X.env.scope x)(hf:X.fn x=true\/X.env.scope.names.lookup x=some .local:=by first|exact .inl rfl|exact .inr rfl|assumption):PG X (.Name x pos) (bK i):=by
 intro Zt s σ H v u Q I r h;exact wpAny_assign_Name (fu I hN hi hx r (λs' I'=>⟨_,H,I',h⟩) hf)
def mK:TGs:=λvs σ H Q=>vs=[]/\Q σ H
def cG(t:TG)(u:TGs):TGs:=λvs σ H Q=>∃v r,vs=v::r/\t v σ H λav H'=>u r av H' Q
theorem bf:PGs X [] mK:=by
 intro Zt s σ H vs us Q I r h;obtain⟨e,h⟩:=h;subst e;cases r;exact assignInOrder_nil ⟨σ,H,I,h⟩
theorem aq{e:Expr}{es:List Expr}{t:TG}{u:TGs}(h1:PG X e t)(h2:PGs X es u)
  (hs:(assignEach (e::es) X.env).map (·.2)=assign e X.env::(assignEach es X.env).map (·.2):=by rfl):PGs X (e::es) (cG t u):=by
 intro Zt s σ H vs us Q I r h;obtain⟨v,vr,e1,h⟩:=h;subst e1
 cases r with
 |cons r rr=>
  rw[hs];refine assignInOrder_cons (thn (h1 Zt s σ H _ _ _ I r h) λ_ s1=>?_);rintro⟨PV,H1,I1,q1⟩;exact h2 Zt s1 PV H1 _ _ Q I1 rr q1
inductive GTupI(K:Frag)(n:Nat)(t:TGs)(v:V)(σ:St)(H:Hp)(Q:St->Hp->Prop):Prop
 |mk:∀a xs,(v=.ref a)->(SqT K H a xs)->(xs.length=n)->(t xs σ H Q)->GTupI K n t v σ H Q
def lu(K:Frag)(n:Nat)(t:TGs):TG:=λv σ H Q=>GTupI K n t v σ H Q
theorem bG{es:List Expr}{k:Nat}{t:TGs}{n:Nat}(hc:X.calm=true)(h:PGs X es t)
  (hn:(assignEach es X.env).length=n:=by rfl) (hV:(assignEach es X.env).findIdx? (·.1)=none:=by rfl):PG X (.Tuple es k pos) (lu X.K n t):=by
 intro Zt s σ H v u Q I r hw;obtain⟨a,xs,e1,hq,hl,hw⟩:=hw;subst e1;cases r;obtain⟨Zs,rv,ht,hz⟩:=I.tuple hq;refine assign_Tuple_tuple (I.ok.hd hc) ht (by simp[hn,<-hl,rv.length]) hV λh' hx=>?_;have I1:Inv X Zt σ H {s with heap:=h'}:=I.kept (t':=s.toks) λb o e=>hx b o (zBd (zB0 e)) e;exact h Zt _ σ H xs _ Q I1 (by simpa using rv) hw
def Mj(to ti:TE)(t:zJ):TG:=λv σ H Q=>to σ H λo H1=>ti σ H1 λi H2=>t o i v H2 λH3=>Q σ H3
theorem nO{o i:Expr}{to ti:TE}{t:zJ}(ho:PE X o to)(hi:PE X i ti)(hs:Fw X t)
  (ha:∀v,assign (.Subscript o i pos) X.env v=(do
   let ov <-holding [v] (eval o X.env)
   let iv <-holding [v,ov] (eval i X.env)
   standAt pos
   holding [v,ov,iv] (setItem ov iv v)
   release [v,ov,iv] []):=by intro _;rfl):PG X (.Subscript o i pos) (Mj to ti t):=by
 intro Zt s σ H v u Q I r h;rw[ha];refine zAv (wpAny_holding (thn (ho Zt s σ H _ I h) λov s1=>?_));rintro⟨x,H1,I1,r1,q1⟩;refine zAv (wpAny_holding (thn (hi Zt s1 σ H1 _ I1 q1) λiv s2=>?_));rintro⟨y,H2,I2,r2,q2⟩;refine zAv (wpAny_standAt (zAv (wpAny_holding (thn (hs Zt s2 σ H2 x y v ov iv u _ I2 r1 r2 r q2) λ_ s3=>?_))));rintro⟨H3,I3,q3⟩;exact wpAny_release ⟨σ,H3,I3,q3⟩
def zK(te:TE)(g:TG):TS:=λD σ H=>te σ H λx H1=>g x σ H1 D.nx
theorem cH{tg e:Expr}{te:TE}{g:TG}(he:PE X e te)(hg:PG X tg g)(hs:swapsWithSole [tg] e pos.line X.env=pure false:=by rfl)(hw:swappedStores [tg] e X.env=pure none:=by rfl)
  (h1:(assignEach [tg] X.env).map (·.2)=[assign tg X.env]:=by rfl):PS X (.Assign [tg] e pos) (zK te g):=by
 intro Zt s σ H D I h;refine wpAny_Assign_stores (thn (he Zt s σ H _ I h) λv s1=>?_) hs hw;rintro⟨x,H1,I1,r1,q1⟩;rw[h1];exact thn (hg Zt s1 σ H1 x v _ I1 r1 q1) λ_ s2 q=>q
theorem gY{i:Nat}{x:Str}{e:Expr}{te:TE}{pos':Pos}(hN:X.N.Nodup)(hi:X.N[i]?=some x)(hx:Loc X.env.scope x)(he:PE X e te)(hs:swapsWith e (some (.Name x pos')) pos.line X.env=pure false:=by rfl)(hf:X.fn x=true\/X.env.scope.names.lookup x=some .local:=by first|exact .inl rfl|exact .inr rfl|assumption):
  PS X (.Assign [.Name x pos'] e pos) (zK te (bK i)):=by
 intro Zt s σ H D I h;refine wpAny_Assign_Name (thn (he Zt s σ H _ I h) λv s1=>?_) hs;rintro⟨y,H1,I1,r1,q1⟩;exact fu I1 hN hi hx r1 (λs2 I2=>⟨_,H1,I2,q1⟩) hf
def Ml(i j:Nat)(ta:TA):TS:=λD σ H=>ta σ H λvs H1=>∃v w,vs=[v,w]/\D.nx ((σ.set i (some v)).set j (some w)) H1
theorem vZ{i j:Nat}{x y:Str}{a b:Expr}{ta:TA}{px py pt:Pos}{kt k2 pt2}(hc:X.calm=true)(hN:X.N.Nodup)(hi:X.N[i]?=some x)(hj:X.N[j]?=some y)(cm:i≠j)
  (hx:X.env.scope.names.lookup x=some .local) (hy:X.env.scope.names.lookup y=some .local) (ha:PA X [a,b] ta)
  (hw:swappedStores [.Tuple [.Name x px,.Name y py] kt pt] (.Tuple [a,b] k2 pt2) X.env=pure (some [x,y]))
  (hs:swapsWithSole [.Tuple [.Name x px,.Name y py] kt pt] (.Tuple [a,b] k2 pt2) pos.line X.env=pure false:=by rfl):
  PS X (.Assign [.Tuple [.Name x px,.Name y py] kt pt] (.Tuple [a,b] k2 pt2) pos) (Ml i j ta):=by
 intro Zt s σ H D I h;rw[exec_Assign_arm];refine zAv (wpAny_standAt ?_);rw[hs];refine zAv (zAz ?_);rw[zAw Zx];refine zAv (Tuple_ (thn (ha _ Zt s σ H _ I h) λus s1=>?_));rintro⟨vs,H1,I1,r1,q1⟩;obtain⟨v,w,e1,q1⟩:=q1;subst e1
 obtain⟨u1,u2,rfl,rv,fE⟩:∃u1 u2,us=[u1,u2]/\RelV v u1/\RelV w u2:=by
  cases r1 with
  |cons p q=>
   cases q with
   |cons p' q'=>
    cases q';exact⟨_,_,rfl,p,p'⟩
 refine Zac ?_ (by show 2<=sizeLine;decide);have I2:Inv X Zt σ H1 {s1 with heap:=s1.heap.push {cls:=.type "tuple",data:=.seq [u1,u2].toArray}}:=I1.kept (t':=s1.toks) λb o e=>zAy _ e;rw[hw];refine zAv (zAz ?_);show wpAny (model X.prog X.w) X.A (do rule "assign.swapped-stores";let items <-unpackItems (.ref s1.heap.objs.size) 2 none;assignInOrder [λv=>bindName X.env y v,λv=>bindName X.env x v] items.reverse;pure Flow.next) _ _ _;refine zAv (wpAny_rule (zAv (unpackItems_tuple (items:=#[u1,u2]) (I.ok.hd hc) (IsTup.new s1.heap _) λh' gp=>?_)));have I3:=I2.kept (h':=h') (t':=s1.toks) λb o e=>gp b o (zBd (zB0 e)) e;show wpAny _ _ (assignInOrder [λv=>bindName X.env y v,λv=>bindName X.env x v] [u2,u1]>>=λ_=>pure Flow.next) _ _ _;refine zAv (assignInOrder_cons (wpAny_bindName (fu I3 hN hj (.inl hy) fE (λs2 I4=>?_) (.inr hy))));refine assignInOrder_cons (wpAny_bindName (fu I4 hN hi (.inl hx) rv (λs3 I5=>assignInOrder_nil (zAz ?_)) (.inr hx)));rw[List.set_comm _ _ (Ne.symm cm)]at I5;exact⟨_,H1,I5,q1⟩
inductive TAugI(i:Nat)(te:TE)(ti:TIp)(D:Ends)(σ:St)(H:Hp):Prop
 |mk:∀x,(σ[i]?=some (some x))->(te σ H λy H1=>ti x y H1 λz H2=>D.nx (σ.set i (some z)) H2)->TAugI i te ti D σ H
def Mm(i:Nat)(te:TE)(ti:TIp):TS:=λD σ H=>TAugI i te ti D σ H
theorem nP{i:Nat}{x:Str}{e:Expr}{te:TE}{op:Operator}{ti:TIp}{pos':Pos}(hN:X.N.Nodup)(hi:X.N[i]?=some x)(hx:Loc X.env.scope x)(he:PE X e te)(ho:PIp X op ti)(hf:X.fn x=true\/X.env.scope.names.lookup x=some .local:=by first|exact .inl rfl|exact .inr rfl|assumption):
  PS X (.AugAssign (.Name x pos') op e pos) (Mm i te ti):=by
 intro Zt s σ H D I h;obtain⟨v,e1,h⟩:=h;obtain⟨m,hn,hl⟩:=I.loc;have PX:Vis X.env.scope x:=by rcases hx with k|k;exact .inl k;exact .inr (.inl k)
 obtain⟨u,r,l⟩:=hl i x v hi e1 PX;refine wpAny_AugAssign_Name ?_
 have go:wpAny (model X.prog X.w) X.A (eval e X.env) (λw s₂=>wpAny (model X.prog X.w) X.A (inplaceOp op u w) (λr s₃=>wpAny (model X.prog X.w) X.A (storeName X.env x r) (λ_=>SP X Zt D .next) X.xe s₃) X.xe s₂) X.xe s:=by
  refine thn (he Zt s σ H _ I h) λw s1=>?_;rintro⟨y,H1,I1,r1,q1⟩;refine thn (ho Zt s1 σ H1 v y u w _ I1 r r1 q1) λz s2=>?_;rintro⟨zv,H2,I2,r2,q2⟩;exact fu I2 hN hi hx r2 (λs3 I3=>⟨_,H2,I3,q2⟩) hf
 rcases l with⟨hk,hm⟩|⟨hk,c,hc,hcell⟩
 .exact wpAny_loadName_local I.ok.kind hk hn hm go
 .rcases hk with hk|hk
  .exact wpAny_loadName_cell I.ok.kind hk hc hcell go
  .rcases hx with k|k
   .have:X.env.scope.names.lookup x=some .free:=hk;rw[k]at this;cases this
   .have:X.env.scope.names.lookup x=some .free:=hk;rw[k]at this;cases this
def K1(to ti te:TE)(om:V->V->Hp->VK->Prop)(DU:TIp)(oo:zJ):TS:=λD σ H=>to σ H λo H1=>ti σ H1 λi H2=>om o i H2 λx H3=>te σ H3 λy H4=>DU x y H4 λz H5=>oo o i z H5 λH6=>D.nx σ H6
def K3(X:Cx)(t:V->V->Hp->VK->Prop):Prop:=
 ∀(Zt:List (Addr×Obj)) (s:Shared) (σ:St) (H:Hp) (o i:V) (ov iv:Value) (Q:VK),Inv X Zt σ H s->RelV o ov->RelV i iv->t o i H Q->
  wpAny (model X.prog X.w) X.A (getItem ov iv) (EP X Zt σ Q) X.xe s
theorem su{o i e:Expr}{to ti te:TE}{om:V->V->Hp->VK->Prop}{DU:TIp}{oo:zJ}{op:Operator}{tT:Pos}(ho:PE X o to)(hi:PE X i ti)(hg:K3 X om)(he:PE X e te)(hp:PIp X op DU)(hs:Fw X oo)
  (ha:∀ov iv new,augStore i ov iv new=(do holding [new,ov,iv] (setItem ov iv new);release [new,ov,iv] [];pure .next):=by intros;rfl):PS X (.AugAssign (.Subscript o i tT) op e pos) (K1 to ti te om DU oo):=by
 intro Zt s σ H D I h;refine wpAny_AugAssign_SubscriptAny (thn (ho Zt s σ H _ I h) λov s1=>?_) ha;rintro⟨x1,H1,I1,r1,q1⟩;refine thn (hi Zt s1 σ H1 _ I1 q1) λiv s2=>?_;rintro⟨x2,H2,I2,r2,q2⟩;refine thn (hg Zt s2 σ H2 x1 x2 ov iv _ I2 r1 r2 q2) λold s3=>?_;rintro⟨x3,H3,I3,r3,q3⟩;refine thn (he Zt s3 σ H3 _ I3 q3) λv s4=>?_;rintro⟨x4,H4,I4,r4,q4⟩;refine thn (hp Zt s4 σ H4 x3 x4 old v _ I4 r3 r4 q4) λnew s5=>?_;rintro⟨x5,H5,I5,r5,q5⟩
 exact thn (hs Zt s5 σ H5 x1 x2 x5 ov iv new _ I5 r1 r2 r5 q5) λ_ s6=>by rintro⟨H6,I6,q6⟩;exact⟨σ,H6,I6,q6⟩
def ipI(f:Int->Int->Int):TIp:=λx y H Q=>∃i j,x=.int i/\y=.int j/\Q (.int (f i j)) H
theorem Bx:PIp X .Add (ipI λi j=>i+j):=by
 intro Zt s σ H x y v u Q I r1 r2 h;obtain⟨i,j,e1,e2,q⟩:=h;subst e1;subst e2;obtain⟨t,rfl⟩:=r1;obtain⟨t',rfl⟩:=r2;exact iadd_int ⟨.int _,H,I.tok _,⟨_,rfl⟩,q⟩
theorem By:PIp X .Sub (ipI λi j=>i-j):=by
 intro Zt s σ H x y v u Q I r1 r2 h;obtain⟨i,j,e1,e2,q⟩:=h;subst e1;subst e2;obtain⟨t,rfl⟩:=r1;obtain⟨t',rfl⟩:=r2;exact isub_int ⟨.int _,H,I.tok _,⟨_,rfl⟩,q⟩
end
section
variable{X:Cx}{pos:Pos}
end
structure It where
 go:Nat->Hp->Prop
 yld:Nat->Hp->V->Hp->Prop
 stop:Nat->Hp->Prop
def iG(X:Cx)(Zt:List (Addr×Obj))(H:Hp)(b:Addr):Prop:=
 H b=none/\b≠X.env.locals/\b∉X.fs/\(b∈X.ex\/X.s₀.heap.objs.size<=b)/\(∀x c,X.env.cells.lookup x=some c->c≠b)/\∀p∈X.pn++Zt,p.1≠b
theorem Inv.fpOk{X:Cx}{Zt:List (Addr×Obj)}{σ:St}{H H':Hp}{s:Shared}{b:Addr}(I:Inv X Zt σ H s)(hb:s.heap.objs.size<=b)(hn:H' b=none):iG X Zt H' b:=by
 refine⟨hn,Nat.ne_of_gt (zB5 I.lt hb),I.nofs hb,.inr (Zak I.sz hb),λx c e z=>?_,λp hp z=>?_⟩
 .obtain⟨v,q⟩:=I.cell x c e;exact absurd (zB5 q.lt (by rw[z];exact hb)) (Zau _)
 .exact absurd (zB5 (zB0 (I.pin p hp).1) (by rw[z];exact hb)) (Zau _)
structure Turn(P:Program)(w:World)(K:Frag)(tg:Expr)(J:It)(fp:List Addr)(it:Addr)(tn:Nat->Heap->Prop):Prop where
 mem:it∈fp
 obj:∀i h,tn i h->∀b∈fp,∃o,h.get? b=some o/\∀v,o.data≠.cell v
 keep:∀i h h',tn i h->(∀b∈fp,∀o,h.get? b=some o->h'.get? b=some o)->tn i h'
 item:∀(X:Cx),X.prog=P->X.w=w->X.K=K->X.calm=true->∀(i:Nat) (Zt:List (Addr×Obj)) (s:Shared) (σ:St) (H:Hp) (E:Value->Shared->Prop),Inv X Zt σ H s->(∀b∈fp,iG X Zt H b)->tn i s.heap->J.go i H->
  wpAny (model P w) X.A (pyNext (.ref it)) (λr s1=>∃u,r=some u /\
   wpAny (model P w) X.A (letOwnedTupleGo tg (.ref it) u) (λ_ s2=>∃x H',Inv X Zt σ H' s2/\RelV x u/\J.yld i H x H'/\tn (i+1) s2.heap/\∀b∈fp,H' b=none) E s1) E s
 done:∀(X:Cx),X.prog=P->X.w=w->X.K=K->X.calm=true->∀(i:Nat) (Zt:List (Addr×Obj)) (s:Shared) (σ:St) (H:Hp) (E:Value->Shared->Prop),Inv X Zt σ H s->(∀b∈fp,iG X Zt H b)->tn i s.heap->J.stop i H->
  wpAny (model P w) X.A (pyNext (.ref it)) (λr s1=>r=none/\Inv X Zt σ H s1) E s
 self:∀(A:Around) (i:Nat) (s:Shared) (Q:Value->Shared->Prop) (E:Value->Shared->Prop),tn i s.heap->Q (.ref it) s->wpAny (model P w) A (pyIter (.ref it)) Q E s
abbrev TI:=St->Hp->(It->Hp->Prop)->Prop
def PIE(X:Cx)(Zt:List (Addr×Obj))(σ:St)(tg:Expr)(R:It->Hp->Prop)(ua:Value)(s2:Shared):Prop:=
 ∃(it:Addr) (fp:List Addr) (tn:Nat->Heap->Prop) (J:It) (H':Hp),ua=.ref it/\Inv X Zt σ H' s2/\Turn X.prog X.w X.K tg J fp it tn/\tn 0 s2.heap/\(∀b∈fp,iG X Zt H' b)/\R J H'
def PI(X:Cx)(tg iter:Expr)(wi:TI):Prop:=
 ∀(Zt:List (Addr×Obj)) (s:Shared) (σ:St) (H:Hp) (R:It->Hp->Prop),Inv X Zt σ H s->wi σ H R->
  wpAny (model X.prog X.w) X.A (eval iter X.env) (λv s1=>wpAny (model X.prog X.w) X.A (pyIter v) (PIE X Zt σ tg R) X.xe s1) X.xe s
theorem uB{M:Model}{A:Around}{E:Value->Shared->Prop}{s:Shared}{tg:Expr}{it:Addr}{u:Value}{o:Obj}{n:String}{vs:Array Value}{Q:Unit->Shared->Prop}(ho:s.heap.get? it=some o)(hc:o.cls=.type n)(hd:o.data=.fields vs)
  (hn:["enumerate","zip","dict_itemiterator","dict_reverseitemiterator","odict_iterator","itertools.zip_longest","itertools.pairwise"].contains n=false) (hQ:Q () s):wpAny M A (letOwnedTupleGo tg (.ref it) u) Q E s:=by
 unfold letOwnedTupleGo
 cases tg<;>first
  |exact zAz hQ
  | (cases u<;>first
    |exact zAz hQ
    | (refine zAv (wpAny_load ho ?_)
       rw[hc,hd];show wpAny M A (if(["enumerate","zip","dict_itemiterator","dict_reverseitemiterator","odict_iterator","itertools.zip_longest","itertools.pairwise"].contains n&&vs[0]?==some (rawInt _))=true then _ else _) Q E s;rw[zAw (by intro h;rw[hn,Bool.false_and]at h;cases h)]
       exact zAz hQ))
def Itl(K:Frag)(a:Addr):It:=
 ⟨λi H=>∃xs x,SqL K H a xs/\xs[i]?=some x,λi H x H'=>H'=H/\∀xs,SqL K H a xs->xs[i]?=some x,λi H=>∃xs,SqL K H a xs/\xs.length<=i⟩
def Itt(K:Frag)(a:Addr):It:=
 ⟨λi H=>∃xs x,SqT K H a xs/\xs[i]?=some x,λi H x H'=>H'=H/\∀xs,SqT K H a xs->xs[i]?=some x,λi H=>∃xs,SqT K H a xs/\xs.length<=i⟩
def Itr(lo:Int)(n:Nat):It:=⟨λi _=>i<n,λi H x H'=>H'=H/\x=.int (lo+i),λi _=>n<=i⟩
theorem zM{P:Program}{w:World}{K:Frag}{tg:Expr}(a it:Addr):Turn P w K tg (Itl K a) [it] it (λi h=>h.IsListIter it a i) where
 mem:=by simp
 obj:=λi h st b hb=>by
  have e:b=it:=by simpa using hb
  subst e;obtain⟨o,e,c,d⟩:=st;exact⟨o,e,λv z=>by rw[d]at z;cases z⟩
 keep:=λi h h' st k=>st.at λo e=>k it Zy o e
 item:=by
  intro X hP hw hK hc i Zt s σ H E I hf st hg;subst hP hw hK;obtain⟨xs,x,hq,hx⟩:=hg;obtain⟨Zs,rv,p,hz⟩:=I.list hq;obtain⟨u,hu,ru⟩:=rv.get hx;obtain⟨f0,f1,f2,f3,f4,f5⟩:=hf it Zy;refine wpAny_pyNext_list_item st p.isList (x:=u) (by simpa using hu) λh' Zr sb=>?_;have I1:Inv X Zt σ H {s with heap:=h'}:=I.turned (t':=s.toks) (λb o hb e=>(sb.2 b hb).trans e) f0 f1 f3 f4 f5;obtain⟨o,e,c,d⟩:=id Zr;exact⟨u,rfl,uB (s:={s with heap:=h'}) e c d Zx ⟨x,H,I1,ru,⟨rfl,λys hy=>by rw[I.list_inj hy hq];exact hx⟩,Zr,λb hb=>(hf b hb).1⟩⟩
 done:=by
  intro X hP hw hK hc i Zt s σ H E I hf st hg;subst hP hw hK;obtain⟨xs,hq,hx⟩:=hg;obtain⟨Zs,rv,p,hz⟩:=I.list hq;obtain⟨f0,f1,f2,f3,f4,f5⟩:=hf it Zy;have hl:=rv.length
  exact wpAny_pyNext_list_end (I.ok.hd hc) st p.isList (by simp;lia) λh' eb=>⟨rfl,I.turned (t':=s.toks) (λb o hb e=>eb b o hb e) f0 f1 f3 f4 f5⟩
 self:=λ_ _ _ _ _ st h=>wpAny_pyIter_listiter st h
theorem wg{P:Program}{w:World}{K:Frag}{tg:Expr}(a it:Addr):Turn P w K tg (Itt K a) [it] it (λi h=>h.IsTupleIter it a i) where
 mem:=by simp
 obj:=λi h st b hb=>by
  have e:b=it:=by simpa using hb
  subst e;obtain⟨o,e,c,d⟩:=st;exact⟨o,e,λv z=>by rw[d]at z;cases z⟩
 keep:=λi h h' st k=>st.at λo e=>k it Zy o e
 item:=by
  intro X hP hw hK hc i Zt s σ H E I hf st hg;subst hP hw hK;obtain⟨xs,x,hq,hx⟩:=hg;obtain⟨Zs,rv,p,hz⟩:=I.tuple hq;obtain⟨u,hu,ru⟩:=rv.get hx;obtain⟨f0,f1,f2,f3,f4,f5⟩:=hf it Zy;refine wpAny_pyNext_tuple_item st (show s.heap.IsTuple a Zs.toArray from p) (x:=u) (by simpa using hu) λh' Zr sb=>?_;have I1:Inv X Zt σ H {s with heap:=h'}:=I.turned (t':=s.toks) (λb o hb e=>(sb.2 b hb).trans e) f0 f1 f3 f4 f5;obtain⟨o,e,c,d⟩:=id Zr;exact⟨u,rfl,uB (s:={s with heap:=h'}) e c d Zx ⟨x,H,I1,ru,⟨rfl,λys hy=>by rw[I.tuple_inj hy hq];exact hx⟩,Zr,λb hb=>(hf b hb).1⟩⟩
 done:=by
  intro X hP hw hK hc i Zt s σ H E I hf st hg;subst hP hw hK;obtain⟨xs,hq,hx⟩:=hg;obtain⟨Zs,rv,p,hz⟩:=I.tuple hq;obtain⟨f0,f1,f2,f3,f4,f5⟩:=hf it Zy;have hl:=rv.length
  exact wpAny_pyNext_tuple_end (I.ok.hd hc) st (show s.heap.IsTuple a Zs.toArray from p) (by simp;lia) λh' eb=>⟨rfl,I.turned (t':=s.toks) (λb o hb e=>eb b o hb e) f0 f1 f3 f4 f5⟩
 self:=λ_ _ _ _ _ st h=>wpAny_pyIter_tupleiter st h
theorem wj{P:Program}{w:World}{K:Frag}{tg:Expr}(it:Addr)(lo:Int)(n:Nat):Turn P w K tg (Itr lo n) [it] it (λi h=>IsRangeIter h it (lo+(i:Nat)*1) ((n:Int)-(i:Nat)) 1) where
 mem:=by simp
 obj:=λi h st b hb=>by
  have e:b=it:=by simpa using hb
  subst e
  exact⟨_,st,λv z=>by
   have z':Data.fields _=Data.cell v:=z
   cases z'⟩
 keep:=λi h h' st k=>k it Zy _ st
 item:=by
  intro X hP hw hK hc i Zt s σ H E I hf st hg;subst hP hw hK;obtain⟨f0,f1,f2,f3,f4,f5⟩:=hf it Zy;have W:=Walks.range (prog:=X.prog) (w:=X.w) (I.ok.hd hc) it lo 1 n;refine W.item i s _ _ hg st λv h' tk hv Zr kk=>?_;obtain⟨t,rfl⟩:=hv;have I1:Inv X Zt σ H {s with heap:=h',toks:=tk}:=I.turned (λb o hb e=>kk b o (by simpa using hb) e) f0 f1 f3 f4 f5;refine⟨_,rfl,uB (s:={s with heap:=h',toks:=tk}) (n:="range_iterator") Zr rfl rfl Zx ⟨.int (lo+i),H,I1,⟨t,?_⟩,⟨rfl,rfl⟩,Zr,λb hb=>(hf b hb).1⟩⟩;rw[Int.mul_one]
 done:=by
  intro X hP hw hK hc i Zt s σ H E I hf st hg;subst hP hw hK;obtain⟨f0,f1,f2,f3,f4,f5⟩:=hf it Zy
  exact wpAny_pyNext_range_end (I.ok.hd hc) st (by have:n<=i:=hg;lia) λh' eb=>⟨rfl,I.turned (t':=s.toks) (λb o hb e=>eb b o hb e) f0 f1 f3 f4 f5⟩
 self:=λ_ _ _ _ _ st h=>wpAny_pyIter_rangeiter st h
section
variable{X:Cx}{tg:Expr}
def Hw(K:Frag)(tl:TE):TI:=λσ H R=>tl σ H λx H1=>∃a,x=.ref a/\(∃xs,SqL K H1 a xs)/\R (Itl K a) H1
def K4(K:Frag)(tl:TE):TI:=λσ H R=>tl σ H λx H1=>∃a,x=.ref a/\(∃xs,SqT K H1 a xs)/\R (Itt K a) H1
theorem di{l:Expr}{tl:TE}(hl:PE X l tl):PI X tg l (Hw X.K tl):=by
 intro Zt s σ H R I h;refine thn (hl Zt s σ H _ I h) λv s1=>?_;rintro⟨x,H1,I1,r1,q1⟩;obtain⟨a,e,⟨xs,hq⟩,q⟩:=q1;subst e;cases r1;obtain⟨Zs,rv,p,hz⟩:=I1.list hq;refine wpAny_pyIter_list p.isList ?_;refine⟨s1.heap.objs.size,[s1.heap.objs.size],_,_,H1,rfl,I1.kept (t':=s1.toks) λb o e=>zAy _ e,zM a _,⟨_,zB4 _ rfl,rfl,rfl⟩,λb hb=>?_,q⟩;have e:b=s1.heap.objs.size:=by simpa using hb
 subst e;exact I1.fpOk (zA3 _) (I1.hok.fresh (zA3 _))
theorem gZ{l:Expr}{tl:TE}(hl:PE X l tl):PI X tg l (K4 X.K tl):=by
 intro Zt s σ H R I h;refine thn (hl Zt s σ H _ I h) λv s1=>?_;rintro⟨x,H1,I1,r1,q1⟩;obtain⟨a,e,⟨xs,hq⟩,q⟩:=q1;subst e;cases r1;obtain⟨Zs,rv,p,hz⟩:=I1.tuple hq;refine wpAny_pyIter_tuple (show s1.heap.IsTuple a Zs.toArray from p) ?_;refine⟨s1.heap.objs.size,[s1.heap.objs.size],_,_,H1,rfl,I1.kept (t':=s1.toks) λb o e=>zAy _ e,wg a _,⟨_,zB4 _ rfl,rfl,rfl⟩,λb hb=>?_,q⟩;have e:b=s1.heap.objs.size:=by simpa using hb
 subst e;exact I1.fpOk (zA3 _) (I1.hok.fresh (zA3 _))
theorem uC{Zt:List (Addr×Obj)}{σ:St}{H:Hp}{s:Shared}{R:It->Hp->Prop}{E:Value->Shared->Prop}{lo hi:Int}{t u v:Tok}{tk:Nat}(I:Inv X Zt σ H s)(h1:-(2^62)<=lo)(h2:lo<2^62)(h3:-(2^62)<=hi)(h4:hi<2^62)
  (q:R (Itr lo (hi-lo).toNat) H):wpAny (model X.prog X.w) X.A (pyIter (.ref s.heap.objs.size)) (PIE X Zt σ tg R) E {s with heap:=s.heap.push {cls:=.type "range",data:=.fields #[.int lo t,.int hi u,.int 1 v]},toks:=tk}:=by
 refine wpAny_pyIter_range (IsRange.new ..) (small_one h1 h2 h3 h4) ?_;have I1:Inv X Zt σ H {s with heap:=s.heap.push {cls:=.type "range",data:=.fields #[.int lo t,.int hi u,.int 1 v]},toks:=tk}:=I.kept λb o e=>zAy _ e
 refine⟨(s.heap.push {cls:=.type "range",data:=.fields #[.int lo t,.int hi u,.int 1 v]}).objs.size,[(s.heap.push {cls:=.type "range",data:=.fields #[.int lo t,.int hi u,.int 1 v]}).objs.size],_,_,H,rfl,
  I1.kept (t':=tk) λb o e=>zAy _ e,wj _ lo (hi-lo).toNat,?_,λb hb=>?_,q⟩
 .have e1:lo+((0:Nat):Int)*1=lo:=by simp
  have e2:(((hi-lo).toNat:Nat):Int)-((0:Nat):Int)=Builtin.Range.rangeSize lo hi 1:=by rw[rangeSize_one];split<;>lia
  show IsRangeIter _ _ (lo+((0:Nat):Int)*1) ((((hi-lo).toNat:Nat):Int)-((0:Nat):Int)) 1;rw[e1,e2];exact zB4 _ rfl
 .have e:b=(s.heap.push {cls:=.type "range",data:=.fields #[.int lo t,.int hi u,.int 1 v]}).objs.size:=by simpa using hb
  subst e;exact I1.fpOk (zA3 _) (I1.hok.fresh (zA3 _))
def K5(ta:TA):TI:=λσ H R=>ta σ H λvs H1=>∃j:Int,vs=[.int j]/\-(2^62)<=j/\j<2^62/\R (Itr 0 j.toNat) H1
def K6(ta:TA):TI:=λσ H R=>ta σ H λvs H1=>∃i j:Int,vs=[.int i,.int j]/\(-(2^62)<=i/\i<2^62/\-(2^62)<=j/\j<2^62)/\R (Itr i (j-i).toNat) H1
theorem bu{a:Expr}{ta:TA}{p pos:Pos}(hg:Gl X "range")(hm:X.mg "range"=none)(ha:PA X [a] ta)(hs:starEach [a] X.env=[(false,eval a X.env)]:=by rfl):PI X tg (.Call (.Name "range" p) [a] [] pos) (K5 ta):=by
 intro Zt s σ H R I h;refine Call_ (iD I hg hm boot_range (PyProof.Rows.callWith_type1 (thn (ha pos Zt s σ H _ I h) λus s1=>?_) hs rfl));rintro⟨vs,H1,I1,r1,q1⟩;obtain⟨j,e,q1,q2,q⟩:=q1;subst e
 cases r1 with
 |cons r rr=>
  cases rr;obtain⟨t,rfl⟩:=r;exact call_range_1 (uC I1 Zz Zz q1 q2 (by simpa using q))
theorem j8{a b:Expr}{ta:TA}{p pos:Pos}(hg:Gl X "range")(hm:X.mg "range"=none)(ha:PA X [a,b] ta)(hs:starEach [a,b] X.env=[(false,eval a X.env),(false,eval b X.env)]:=by rfl)(kz:starEach [b] X.env=[(false,eval b X.env)]:=by rfl):
  PI X tg (.Call (.Name "range" p) [a,b] [] pos) (K6 ta):=by
 intro Zt s σ H R I h;refine Call_ (iD I hg hm boot_range (PyProof.Rows.callWith_type1 (thn (ha pos Zt s σ H _ I h) λus s1=>?_) (by rw[hs,kz]) (by rw[kz];rfl)));rintro⟨vs,H1,I1,r1,q1⟩;obtain⟨i,j,e,⟨q1,q2,q3,q4⟩,q⟩:=q1;subst e
 cases r1 with
 |cons r rr=>
  cases rr with
  |cons r' rr=>
   cases rr;obtain⟨t,rfl⟩:=r;obtain⟨t',rfl⟩:=r';exact call_range_2 (uC I1 q1 q2 q3 q4 q)
def Mp(wi:TI)(g:TG)(tb:TS):TS:=λD σ H=>wi σ H λJ H1=>∃W:Nat->Nat->St->Hp->Prop,(∃m,W 0 m σ H1)/\∀i m σ H,W i m σ H->
 (J.stop i H/\D.nx σ H)\/(J.go i H/\∃N:St->Hp->Prop,(∀av H',N av H'->∃m',m'<m/\W (i+1) m' av H')/\∀x H',J.yld i H x H'->g x σ H' λaS H2=>tb {D with nx:=N,ct:=N,bk:=D.nx} aS H2)
def jq(fp:List Addr)(h:Heap):List (Addr×Obj):=fp.filterMap λb=>(h.get? b).map λo=>(b,o)
theorem ie{fp:List Addr}{h:Heap}{b:Addr}{o:Obj}(hb:b∈fp)(e:h.get? b=some o):(b,o)∈jq fp h:=List.mem_filterMap.mpr ⟨b,hb,by rw[e];rfl⟩
theorem qD{fp:List Addr}{h:Heap}{p:Addr×Obj}(hp:p∈jq fp h):p.1∈fp/\h.get? p.1=some p.2:=by
 obtain⟨b,hb,e⟩:=List.mem_filterMap.mp hp
 cases q:h.get? b with
 |none=>rw[q]at e;cases e
 |some o=>
  rw[q]at e;have e':(b,o)=p:=zAl e;subst e';exact⟨hb,q⟩
theorem Inv.pinned{Zt:List (Addr×Obj)}{σ:St}{H:Hp}{s:Shared}{fp:List Addr}(I:Inv X Zt σ H s)(hf:∀b∈fp,iG X Zt H b)(ho:∀b∈fp,∃o,s.heap.get? b=some o/\∀v,o.data≠.cell v):Inv X (Zt++jq fp s.heap) σ H s:=
 I.pins_of λp hp=>(zA6.mp hp).elim (λz=>I.pin p (zB1 _ z)) λz=>by
  obtain⟨hb,e⟩:=qD z;obtain⟨f0,f1,f2,_⟩:=hf p.1 hb;obtain⟨o,e',d⟩:=ho p.1 hb;rw[e]at e';cases e';exact⟨e,f0,f1,f2,d⟩
theorem Inv.unpinned{Zt pl:List (Addr×Obj)}{σ:St}{H:Hp}{s:Shared}(I:Inv X (Zt++pl) σ H s):Inv X Zt σ H s:=I.pins_of λp hp=>I.pin p (zB1 _ (List.mem_append_left _ hp))
theorem bU{iter:Expr}{body:List Stmt}{wi:TI}{g:TG}{tb:TS}{pos:Pos}(hp:PassesOwn (model X.prog X.w) X.A X.env X.xe)(hc:X.calm=true)(hi:PI X tg iter wi)(hg:PG X tg g)(hb:PSs X body tb)
  (hs:∀x,foldedSetIterable iter X.env x=pure x:=by intro _;rfl):PS X (.For tg iter body [] pos) (Mp wi g tb):=by
 intro Zt s σ H D I h;refine wpAny_For (thn (hi Zt s σ H _ I h) λv s1 h1=>thn h1 λua s2 h2=>?_) hs;obtain⟨it,fp,tn,J,H2,e,I2,T,st2,f2,W,⟨m0,w0⟩,turn⟩:=h2;subst e
 have ub:∀{H':Hp},(∀b∈fp,H' b=none)->∀b∈fp,iG X Zt H' b:=λhn b hb=>⟨hn b hb,(f2 b hb).2⟩
 refine codeAny_forLoop_any (λn s'=>∃i av H',Inv X Zt av H' s'/\tn i s'.heap/\(∀b∈fp,H' b=none)/\W i n av H') ?_ m0 ⟨0,σ,H2,I2,st2,λb hb=>(f2 b hb).1,w0⟩;rintro n s3 ⟨i,iF,H3,I3,iL,AZ,w3⟩;rcases turn i n iF H3 w3 with⟨stop,qn⟩|⟨go,N,hN,step⟩
 .refine wpAny_passesOwn hp (thn (T.done X rfl rfl rfl hc i Zt s3 iF H3 X.xe I3 (ub AZ) iL stop) λr s4=>?_);rintro⟨hr,I4⟩;subst hr;exact wpAny_execs_nil ⟨iF,H3,I4,qn⟩
 .refine wpAny_passesOwn hp (thn (T.item X rfl rfl rfl hc i Zt s3 iF H3 X.xe I3 (ub AZ) iL go) λr s4=>?_);rintro⟨u,hr,h4⟩;subst hr;refine wpAny_passesOwn hp (thn h4 λ_ s5=>?_);rintro⟨x,H5,I5,r5,y5,ui,E7⟩;have E8:=I5.pinned (ub E7) (T.obj _ _ ui);refine wpAny_passesOwn hp (thn (hg _ s5 iF H5 x u _ E8 r5 (step x H5 y5)) λ_ s6=>?_);rintro⟨y8,H6,I6,q6⟩;refine wpAny_passesOwn hp (thn (hb _ s6 y8 H6 _ I6 q6) λf s7 q7=>?_)
  have again:∀{kM:St} {H7:Hp},Inv X (Zt++jq fp s5.heap) kM H7 s7->N kM H7->∃m,m<n/\∃i av H',Inv X Zt av H' s7/\tn i s7.heap/\(∀b∈fp,H' b=none)/\W i m av H':=λ{kM H7} I7 n7=>by
   obtain⟨m',hm,w7⟩:=hN kM H7 n7;refine⟨m',hm,i+1,kM,H7,I7.unpinned,T.keep _ _ _ ui λb hb o e=>(I7.pin (b,o) (zB1 _ (zB1 _ (ie hb e)))).1,λb hb=>?_,w7⟩;obtain⟨o,e,d⟩:=T.obj _ _ ui b hb;exact(I7.pin (b,o) (zB1 _ (zB1 _ (ie hb e)))).2.1
  cases f with
  |next=>obtain⟨kM,H7,I7,n7⟩:=q7;exact again I7 n7
  |cont=>obtain⟨kM,H7,I7,n7⟩:=q7;exact again I7 n7
  |brk=>obtain⟨kM,H7,I7,q7⟩:=q7;exact⟨kM,H7,I7.unpinned,q7⟩
  |ret v=>obtain⟨x7,kM,H7,I7,r7,q7⟩:=q7;exact⟨x7,kM,H7,I7.unpinned,r7,q7⟩
end
theorem jG{K:Frag}{a:Addr}{xs:List V}{g:TG}{tb:TS}{D:Ends}{σ:St}{H:Hp}(Pv:Nat->St->Hp->Prop)(h0:Pv 0 σ H)(hl:∀i σ H,i<=xs.length->Pv i σ H->SqL K H a xs)
  (hs:∀i x σ H,xs[i]?=some x->Pv i σ H->g x σ H λaS H2=>tb {D with nx:=Pv (i+1),ct:=Pv (i+1),bk:=D.nx} aS H2) (hd:∀σ H,Pv xs.length σ H->D.nx σ H):
  ∃W:Nat->Nat->St->Hp->Prop,(∃m,W 0 m σ H)/\∀i m σ H,W i m σ H->
   ((Itl K a).stop i H/\D.nx σ H)\/((Itl K a).go i H/\∃N:St->Hp->Prop,(∀av H',N av H'->∃m',m'<m/\W (i+1) m' av H')/\∀x H',(Itl K a).yld i H x H'->g x σ H' λaS H2=>tb {D with nx:=N,ct:=N,bk:=D.nx} aS H2):=by
 refine⟨λi m σ H=>m=xs.length-i/\i<=xs.length/\Pv i σ H,⟨xs.length,by simp,zAp _,h0⟩,?_⟩;rintro i m σ H ⟨rfl,hi,p⟩;have q:=hl i σ H hi p;by_cases aI:i<xs.length
 .refine .inr ⟨⟨xs,xs[i],q,by simp[aI]⟩,Pv (i+1),λav H' p'=>⟨xs.length-(i+1),Zz,rfl,aI,p'⟩,λx H' y=>?_⟩;obtain⟨e,y⟩:=y;subst e;exact hs i x σ _ (y xs q) p
 .have e:i=xs.length:=Zz
  subst e;exact .inl ⟨⟨xs,q,zA3 _⟩,hd σ H p⟩
theorem Fx{K:Frag}{a:Addr}{xs:List V}{g:TG}{tb:TS}{D:Ends}{σ:St}{H:Hp}(Pv:Nat->St->Hp->Prop)(h0:Pv 0 σ H)(hl:∀i σ H,i<=xs.length->Pv i σ H->SqT K H a xs)
  (hs:∀i x σ H,xs[i]?=some x->Pv i σ H->g x σ H λaS H2=>tb {D with nx:=Pv (i+1),ct:=Pv (i+1),bk:=D.nx} aS H2) (hd:∀σ H,Pv xs.length σ H->D.nx σ H):
  ∃W:Nat->Nat->St->Hp->Prop,(∃m,W 0 m σ H)/\∀i m σ H,W i m σ H->
   ((Itt K a).stop i H/\D.nx σ H)\/((Itt K a).go i H/\∃N:St->Hp->Prop,(∀av H',N av H'->∃m',m'<m/\W (i+1) m' av H')/\∀x H',(Itt K a).yld i H x H'->g x σ H' λaS H2=>tb {D with nx:=N,ct:=N,bk:=D.nx} aS H2):=by
 refine⟨λi m σ H=>m=xs.length-i/\i<=xs.length/\Pv i σ H,⟨xs.length,by simp,zAp _,h0⟩,?_⟩;rintro i m σ H ⟨rfl,hi,p⟩;have q:=hl i σ H hi p;by_cases aI:i<xs.length
 .refine .inr ⟨⟨xs,xs[i],q,by simp[aI]⟩,Pv (i+1),λav H' p'=>⟨xs.length-(i+1),Zz,rfl,aI,p'⟩,λx H' y=>?_⟩;obtain⟨e,y⟩:=y;subst e;exact hs i x σ _ (y xs q) p
 .have e:i=xs.length:=Zz
  subst e;exact .inl ⟨⟨xs,q,zA3 _⟩,hd σ H p⟩
theorem cj{lo:Int}{n:Nat}{g:TG}{tb:TS}{D:Ends}{σ:St}{H:Hp}(Pv:Nat->St->Hp->Prop)(h0:Pv 0 σ H)
  (hs:∀i σ H,i<n->Pv i σ H->g (.int (lo+i)) σ H λaS H2=>tb {D with nx:=Pv (i+1),ct:=Pv (i+1),bk:=D.nx} aS H2) (hd:∀σ H,Pv n σ H->D.nx σ H):
  ∃W:Nat->Nat->St->Hp->Prop,(∃m,W 0 m σ H)/\∀i m σ H,W i m σ H->
   ((Itr lo n).stop i H/\D.nx σ H)\/((Itr lo n).go i H/\∃N:St->Hp->Prop,(∀av H',N av H'->∃m',m'<m/\W (i+1) m' av H')/\∀x H',(Itr lo n).yld i H x H'->g x σ H' λaS H2=>tb {D with nx:=N,ct:=N,bk:=D.nx} aS H2):=by
 refine⟨λi m σ H=>m=n-i/\i<=n/\Pv i σ H,⟨n,by simp,zAp _,h0⟩,?_⟩;rintro i m σ H ⟨rfl,hi,p⟩;by_cases aI:i<n
 .refine .inr ⟨aI,Pv (i+1),λav H' p'=>⟨n-(i+1),Zz,rfl,aI,p'⟩,λx H' y=>?_⟩;obtain⟨e,y⟩:=y;subst e y;exact hs i σ _ aI p
 .have e:i=n:=Zz
  subst e;exact .inl ⟨zA3 _,hd σ H p⟩
abbrev R2:=V->V->Hp->VK->Prop
def OpR(X:Cx)(f:Value->Value->Sem Value)(r:R2):Prop:=
 ∀(Zt:List (Addr×Obj)) (s:Shared) (σ:St) (H:Hp) (x y:V) (v u:Value) (Q:VK),Inv X Zt σ H s->RelV x v->RelV y u->r x y H Q->
  wpAny (model X.prog X.w) X.A (f v u) (EP X Zt σ Q) X.xe s
def UnR(X:Cx)(f:Value->Sem Value)(r:V->Hp->VK->Prop):Prop:=
 ∀(Zt:List (Addr×Obj)) (s:Shared) (σ:St) (H:Hp) (x:V) (v:Value) (Q:VK),Inv X Zt σ H s->RelV x v->r x H Q->
  wpAny (model X.prog X.w) X.A (f v) (EP X Zt σ Q) X.xe s
def dG(X:Cx)(f:Value)(r:List V->Hp->VK->Prop):Prop:=
 ∀(Zt:List (Addr×Obj)) (s:Shared) (σ:St) (H:Hp) (xs:List V) (us:List Value) (Q:VK),Inv X Zt σ H s->Vals xs us->r xs H Q->
  wpAny (model X.prog X.w) X.A (call f us) (EP X Zt σ Q) X.xe s
def tOp(r:R2)(ta tb:TE):TE:=λσ H Q=>ta σ H λx H1=>tb σ H1 λy H2=>r x y H2 Q
def tUn(r:V->Hp->VK->Prop)(ta:TE):TE:=λσ H Q=>ta σ H λx H1=>r x H1 Q
inductive RII(C:Int->Int->Prop)(g:Int->Int->V)(x:V)(y:V)(H:Hp)(Q:VK):Prop
 |mk:∀i j,(x=.int i)->(y=.int j)->(C i j)->(Q (g i j) H)->RII C g x y H Q
def rI(C:Int->Int->Prop)(g:Int->Int->V):R2:=λx y H Q=>RII C g x y H Q
inductive RI0I(g:Int->Int->V)(x:V)(y:V)(H:Hp)(Q:VK):Prop
 |mk:∀i j,(x=.int i)->(y=.int j)->(Q (g i j) H)->RI0I g x y H Q
def rI0(g:Int->Int->V):R2:=λx y H Q=>RI0I g x y H Q
inductive RUI(g:Int->V)(x:V)(H:Hp)(Q:VK):Prop
 |mk:∀i,(x=.int i)->(Q (g i) H)->RUI g x H Q
def rU(g:Int->V):V->Hp->VK->Prop:=λx H Q=>RUI g x H Q
section
variable{X:Cx}{a b c:Expr}{ta tb tc:TE}{pos:Pos}
theorem J0(ha:PE X a ta)(hb:PE X b tb){Zt:List (Addr×Obj)}{s:Shared}{σ:St}{H:Hp}{R:V->V->Hp->Prop}(I:Inv X Zt σ H s)
  (h:ta σ H λx H1=>tb σ H1 λy H2=>R x y H2) {Q:Value->Shared->Prop} {f:Value->Value->Sem Value}
  (hf:∀v u s2 x y H2,Inv X Zt σ H2 s2->RelV x v->RelV y u->R x y H2->wpAny (model X.prog X.w) X.A (f v u) Q X.xe s2):
  wpAny (model X.prog X.w) X.A (eval a X.env) (λv s₁=>wpAny (model X.prog X.w) X.A (eval b X.env) (λu s₂=>wpAny (model X.prog X.w) X.A (f v u) Q X.xe s₂) X.xe s₁) X.xe s:=by
 refine thn (ha Zt s σ H _ I h) λv s1=>?_;rintro⟨x,H1,I1,r1,q1⟩;refine thn (hb Zt s1 σ H1 _ I1 q1) λu s2=>?_;rintro⟨y,H2,I2,r2,q2⟩;exact hf v u s2 x y H2 I2 r1 r2 q2
theorem aU{op:Operator}{r:R2}(ho:OpR X (binaryOp op) r)(ha:PE X a ta)(hb:PE X b tb):PE X (.BinOp a op b pos) (tOp r ta tb):=by
 intro Zt s σ H Q I h;exact wpAny_BinOp (J0 ha hb I h λv u s2 x y H2 I2 rx ry q=>ho Zt s2 σ H2 x y v u Q I2 rx ry q)
theorem BJ{op:UnaryOp}{r:V->Hp->VK->Prop}(ho:UnR X (unaryOp op) r)(ha:PE X a ta):PE X (.UnaryOp op a pos) (tUn r ta):=by
 intro Zt s σ H Q I h;exact UnaryOp_ (thn (ha Zt s σ H _ I h) λv s1=>by rintro⟨x,H1,I1,r1,q1⟩;exact ho Zt s1 σ H1 x v Q I1 r1 q1)
theorem opI{f:Value->Value->Sem Value}{C:Int->Int->Prop}{g:Int->Int->Int}
  (rule:∀(i j:Int) (t u:Tok) (s:Shared) (Q:Value->Shared->Prop) (E:Value->Shared->Prop),C i j->Q (.int (g i j) s.toks) {s with toks:=s.toks+1}->wpAny (model X.prog X.w) X.A (f (.int i t) (.int j u)) Q E s):
  OpR X f (rI C λi j=>.int (g i j)):=by
 intro Zt s σ H x y v u Q I rx ry h;obtain⟨i,j,rfl,rfl,hc,q⟩:=h;obtain⟨t,rfl⟩:=rx;obtain⟨t',rfl⟩:=ry;exact rule i j t t' s _ _ hc ⟨.int (g i j),H,I.tok _,⟨_,rfl⟩,q⟩
theorem K7{f:Value->Value->Sem Value}{g:Int->Int->Int}
  (rule:∀(i j:Int) (t u:Tok) (s:Shared) (Q:Value->Shared->Prop) (E:Value->Shared->Prop),Q (.int (g i j) s.toks) {s with toks:=s.toks+1}->wpAny (model X.prog X.w) X.A (f (.int i t) (.int j u)) Q E s):
  OpR X f (rI0 λi j=>.int (g i j)):=by
 intro Zt s σ H x y v u Q I rx ry h;obtain⟨i,j,rfl,rfl,q⟩:=h;obtain⟨t,rfl⟩:=rx;obtain⟨t',rfl⟩:=ry;exact rule i j t t' s _ _ ⟨.int (g i j),H,I.tok _,⟨_,rfl⟩,q⟩
theorem Fy{f:Value->Value->Sem Value}{g:Int->Int->Bool}
  (rule:∀(i j:Int) (t u:Tok) (s:Shared) (Q:Value->Shared->Prop) (E:Value->Shared->Prop),Q (.bool (g i j)) s->wpAny (model X.prog X.w) X.A (f (.int i t) (.int j u)) Q E s):
  OpR X f (rI0 λi j=>.bl (g i j)):=by
 intro Zt s σ H x y v u Q I rx ry h;obtain⟨i,j,rfl,rfl,q⟩:=h;obtain⟨t,rfl⟩:=rx;obtain⟨t',rfl⟩:=ry;exact rule i j t t' s _ _ ⟨.bl (g i j),H,I,rfl,q⟩
def Mq(i j:Int):Prop:=0<j/\j<1073741824
def Mr(i j:Int):Prop:=0<=j/\j<=1000000/\i.natAbs<2^64
def CMul(i j:Int):Prop:=(-(2^64)<i/\i<2^64)\/(-(2^64)<j/\j<2^64)
theorem CMul.ok{i j:Int}(h:CMul i j):IntMulOk i j:=by
 rcases h with⟨h1,h2⟩|⟨h1,h2⟩
 .exact .of_left (intBits_le_64 h1 h2)
 .exact .of_right (intBits_le_64 h1 h2)
theorem bw:OpR X (binaryOp .Add) (rI0 λi j=>.int (i+j)):=K7 λ_ _ _ _ _ _ _ q=>add_int q
theorem d8:OpR X (binaryOp .Sub) (rI0 λi j=>.int (i-j)):=K7 λ_ _ _ _ _ _ _ q=>sub_int q
theorem gH:OpR X (binaryOp .Mult) (rI CMul λi j=>.int (i*j)):=opI λ_ _ _ _ _ _ _ hc q=>mul_int q hc.ok
theorem mW:OpR X (binaryOp .FloorDiv) (rI Mq λi j=>.int (i / j)):=opI λi j _ _ _ _ _ hc q=>by
 have h1:(0:Int)<j:=hc.1;have h2:j<1073741824:=hc.2;exact floordiv_int Zz (by rw[Int.fdiv_eq_ediv_of_nonneg i Zz];exact q) (.inl (PyProof.noPylong_small Zz))
theorem gJ:OpR X (binaryOp .Mod) (rI (λ_ j=>0<j) λi j=>.int (i % j)):=opI λi j _ _ _ _ _ hc q=>by
 have h1:(0:Int)<j:=hc;exact mod_int' Zz (by rw[Int.fmod_eq_emod_of_nonneg i Zz];exact q)
theorem wk:OpR X (binaryOp .Pow) (rI Mr λi j=>.int (i^j.toNat)):=opI λ_ _ _ _ _ _ _ hc q=>pow_int_small hc.1 hc.2.1 hc.2.2 q
theorem unI{f:Value->Sem Value}{g:Int->Int}
  (rule:∀(i:Int) (t:Tok) (s:Shared) (Q:Value->Shared->Prop) (E:Value->Shared->Prop),Q (.int (g i) s.toks) {s with toks:=s.toks+1}->wpAny (model X.prog X.w) X.A (f (.int i t)) Q E s):
  UnR X f (rU λi=>.int (g i)):=by
 intro Zt s σ H x v Q I rx h;obtain⟨i,rfl,q⟩:=h;obtain⟨t,rfl⟩:=rx;exact rule i t s _ _ ⟨.int (g i),H,I.tok _,⟨_,rfl⟩,q⟩
theorem wu:UnR X (unaryOp .USub) (rU λi=>.int (-i)):=unI λ_ _ _ _ _ q=>neg_int q
end
def K8:V->V->Bool
 |.non,.non=>true|.non,.int _=>true|.int _,.non=>true|.non,.bl _=>true|.bl _,.non=>true|.non,.str _=>true|.str _,.non=>true
 |.int _,.int _=>true|.bl _,.bl _=>true|.str _,.str _=>true|.byt _,.byt _=>true
 |.int _,.str _=>true|.str _,.int _=>true|.bl _,.str _=>true|.str _,.bl _=>true
 |_,_=>false
def rEq:R2:=λx y H Q=>K8 x y=true/\Q (.bl (decide (x=y))) H
def rNe:R2:=λx y H Q=>K8 x y=true/\Q (.bl (!decide (x=y))) H
theorem mX{i j:Int}:decide (V.int i=V.int j)=(i==j):=by
 rw[Bool.eq_iff_iff];simp
theorem BK{i j:Bool}:decide (V.bl i=V.bl j)=(i==j):=by
 rw[Bool.eq_iff_iff];simp
theorem xU{i j:Str}:decide (V.str i=V.str j)=(i==j):=by
 rw[Bool.eq_iff_iff];simp
theorem xV{i j:Array UInt8}:decide (V.byt i=V.byt j)=(i.toList==j.toList):=by
 rw[Bool.eq_iff_iff];cases i;cases j;simp
section
variable{X:Cx}{a b c:Expr}{ta tb tc:TE}{pos:Pos}
theorem bJ{Zt:List (Addr×Obj)}{σ:St}{H:Hp}{s:Shared}{Q:VK}{k k':Bool}(I:Inv X Zt σ H s)(q:Q (.bl k) H)(e:k=k'):EP X Zt σ Q (.bool k') s:=by
 subst e;exact⟨.bl k,H,I,rfl,q⟩
theorem jH:OpR X (compareOp .Eq) rEq:=by
 intro Zt s σ H x y v u Q I rx ry h;obtain⟨hs,q⟩:=h
 cases x with
 |non=>
  cases rx
  cases y with
  |non=>cases ry;exact PySem.EqNone.eq_none_none (bJ I q Zy)
  |bl j=>cases ry;exact PySem.EqNone.eq_none_bool (bJ I q Zy)
  |int j=>obtain⟨t',rfl⟩:=ry;exact PySem.EqNone.eq_none_int (bJ I q Zy)
  |str j=>obtain⟨t',rfl⟩:=ry;exact PySem.EqNone.eq_none_str (bJ I q Zy)
  |_=>exact absurd (show false=true from hs) zAg
 |bl i=>
  cases rx
  cases y with
  |non=>cases ry;exact PySem.EqNone.eq_bool_none (bJ I q Zy)
  |bl j=>cases ry;exact eq_bool (bJ I q BK)
  |str j=>obtain⟨t',rfl⟩:=ry;exact PySem.EqMixed.eq_bool_str (bJ I q Zy)
  |_=>exact absurd (show false=true from hs) zAg
 |int i=>
  obtain⟨t,rfl⟩:=rx
  cases y with
  |non=>cases ry;exact PySem.EqNone.eq_int_none (bJ I q Zy)
  |int j=>obtain⟨t',rfl⟩:=ry;exact eq_int (bJ I q mX)
  |str j=>obtain⟨t',rfl⟩:=ry;exact PySem.EqMixed.eq_int_str (bJ I q Zy)
  |_=>exact absurd (show false=true from hs) zAg
 |str i=>
  obtain⟨t,rfl⟩:=rx
  cases y with
  |non=>cases ry;exact PySem.EqNone.eq_str_none (bJ I q Zy)
  |bl j=>cases ry;exact PySem.EqMixed.eq_str_bool (bJ I q Zy)
  |int j=>obtain⟨t',rfl⟩:=ry;exact PySem.EqMixed.eq_str_int (bJ I q Zy)
  |str j=>obtain⟨t',rfl⟩:=ry;exact eq_str (bJ I q xU)
  |_=>exact absurd (show false=true from hs) zAg
 |byt i=>
  obtain⟨t,rfl⟩:=rx
  cases y with
  |byt j=>obtain⟨t',rfl⟩:=ry;exact PySem.W.eq_bytes (bJ I q xV)
  |_=>exact absurd (show false=true from hs) zAg
 |_=>cases y<;>exact absurd (show false=true from hs) zAg
theorem K9:OpR X (compareOp .NotEq) rNe:=by
 intro Zt s σ H x y v u Q I rx ry h;obtain⟨hs,q⟩:=h
 cases x with
 |non=>
  cases rx
  cases y with
  |non=>cases ry;exact PySem.EqNone.ne_none_none (bJ I q Zy)
  |bl j=>cases ry;exact PySem.EqNone.ne_none_bool (bJ I q Zy)
  |int j=>obtain⟨t',rfl⟩:=ry;exact PySem.EqNone.ne_none_int (bJ I q Zy)
  |str j=>obtain⟨t',rfl⟩:=ry;exact PySem.EqNone.ne_none_str (bJ I q Zy)
  |_=>exact absurd (show false=true from hs) zAg
 |bl i=>
  cases rx
  cases y with
  |non=>cases ry;exact PySem.EqNone.ne_bool_none (bJ I q Zy)
  |bl j=>cases ry;exact ne_bool (bJ I q (congrArg not BK))
  |str j=>obtain⟨t',rfl⟩:=ry;exact PySem.EqMixed.ne_bool_str (bJ I q Zy)
  |_=>exact absurd (show false=true from hs) zAg
 |int i=>
  obtain⟨t,rfl⟩:=rx
  cases y with
  |non=>cases ry;exact PySem.EqNone.ne_int_none (bJ I q Zy)
  |int j=>obtain⟨t',rfl⟩:=ry;exact ne_int (bJ I q (congrArg not mX))
  |str j=>obtain⟨t',rfl⟩:=ry;exact PySem.EqMixed.ne_int_str (bJ I q Zy)
  |_=>exact absurd (show false=true from hs) zAg
 |str i=>
  obtain⟨t,rfl⟩:=rx
  cases y with
  |non=>cases ry;exact PySem.EqNone.ne_str_none (bJ I q Zy)
  |bl j=>cases ry;exact PySem.EqMixed.ne_str_bool (bJ I q Zy)
  |int j=>obtain⟨t',rfl⟩:=ry;exact PySem.EqMixed.ne_str_int (bJ I q Zy)
  |str j=>obtain⟨t',rfl⟩:=ry;exact ne_str (bJ I q (congrArg not xU))
  |_=>exact absurd (show false=true from hs) zAg
 |byt i=>
  obtain⟨t,rfl⟩:=rx
  cases y with
  |byt j=>obtain⟨t',rfl⟩:=ry;exact PySem.W.ne_bytes (bJ I q (congrArg not xV))
  |_=>exact absurd (show false=true from hs) zAg
 |_=>cases y<;>exact absurd (show false=true from hs) zAg
theorem nQ:OpR X (compareOp .Lt) (rI0 λi j=>.bl (decide (i<j))):=Fy λ_ _ _ _ _ _ _ q=>lt_int q
theorem bV:OpR X (compareOp .LtE) (rI0 λi j=>.bl (decide (i<=j))):=Fy λ_ _ _ _ _ _ _ q=>le_int q
theorem lZ:OpR X (compareOp .Gt) (rI0 λi j=>.bl (decide (j<i))):=Fy λ_ _ _ _ _ _ _ q=>gt_int q
theorem BL:OpR X (compareOp .GtE) (rI0 λi j=>.bl (decide (j<=i))):=Fy λ_ _ _ _ _ _ _ q=>ge_int q
theorem wy:OpR X (compareOp .Is) (λx y H Q=>y=.non/\Q (.bl (decide (x=.non))) H):=by
 intro Zt s σ H x y v u Q I rx ry h;obtain⟨rfl,q⟩:=h;cases ry;refine is_none_gen (bJ I q ?_)
 cases x<;>first
  | (cases rx;rfl)
  | (obtain⟨t,rfl⟩:=rx;rfl)
theorem bQ(b:Expr){op:CmpOp}(h:op≠.In:=by decide)(h2:op≠.NotIn:=by decide):behindInMarks op b=false:=by
 have e1:(op==CmpOp.In)=false:=by cases op<;>first|rfl|exact absurd rfl h
 have e2:(op==CmpOp.NotIn)=false:=by cases op<;>first|rfl|exact absurd rfl h2
 cases b<;>simp[behindInMarks,e1,e2]
theorem j9{op:CmpOp}{r:R2}(ho:OpR X (compareOp op) r)(ha:PE X a ta)(hb:PE X b tb)(hm:behindInMarks op b=false):PE X (.Compare a [op] [b] pos) (tOp r ta tb):=by
 intro Zt s σ H Q I h;exact wpAny_Compare1 (J0 ha hb I h λv u s2 x y H2 I2 rx ry q=>ho Zt s2 σ H2 x y v u Q I2 rx ry q) hm
def Hx(t:TE):TT:=λσ H Q=>t σ H λx H'=>∃k,x=.bl k/\Q k H'
theorem bT{op:CmpOp}{r:R2}(ho:OpR X (compareOp op) r)(ha:PE X a ta)(hb:PE X b tb)(hm:behindInMarks op b=false):PT X (.Compare a [op] [b] pos) (Hx (tOp r ta tb)):=by
 intro Zt s σ H Q I h
 refine wpAny_isTrue_Compare1 (thn (ha Zt s σ H _ I h) λv s1 ⟨x,H1,I1,r1,q1⟩=>thn (hb Zt s1 σ H1 _ I1 q1) λu s2 ⟨y,H2,I2,r2,q2⟩=>
  thn (ho Zt s2 σ H2 x y v u _ I2 r1 r2 q2) λc s3 ⟨z,H3,I3,r3,k,e,q3⟩=>?_) hm
 subst e;cases r3;exact wpAny_truthy_bool ⟨H3,I3,q3⟩
def wz(r r':R2)(ta tb tc:TE):TE:=λσ H Q=>ta σ H λx H1=>tb σ H1 λy H2=>r x y H2 λz H3=>∃k,z=.bl k /\
 (if k=true then tc σ H3 λw' H4=>r' y w' H4 Q else Q (.bl false) H3)
theorem dB{op uj:CmpOp}{r r':R2}(ho:OpR X (compareOp op) r)(kH:OpR X (compareOp uj) r')(ha:PE X a ta)(hb:PE X b tb)(hc:PE X c tc)
  (hm:lastMarks [op,uj] [b,c]=false:=by with_unfolding_all rfl):PE X (.Compare a [op,uj] [b,c] pos) (wz r r' ta tb tc):=by
 intro Zt s σ H Q I h
 refine Compare_chain (thn (ha Zt s σ H _ I h) λv s1 ⟨x,H1,I1,r1,q1⟩=>chain_link (thn (hb Zt s1 σ H1 _ I1 q1) λu s2 ⟨y,H2,I2,r2,q2⟩=>
  thn (ho Zt s2 σ H2 x y v u _ I2 r1 r2 q2) λd s3 ⟨z,H3,I3,r3,k,e,q3⟩=>?_)) hm
 subst e;cases r3;refine wpAny_truthy_bool ?_
 cases k with
 |false=>exact ite_ff ⟨.bl false,H3,I3,rfl,q3⟩
 |true=>exact ite_tt (chain_last (thn (hc Zt s3 σ H3 _ I3 q3) λw' s4=>by rintro⟨z',H4,I4,r4,q4⟩;exact kH Zt s4 σ H4 y z' u w' Q I4 r2 r4 q4))
theorem fY{op uj:CmpOp}{r r':R2}(ho:OpR X (compareOp op) r)(kH:OpR X (compareOp uj) r')(ha:PE X a ta)(hb:PE X b tb)(hc:PE X c tc)
  (hm:lastMarks [op,uj] [b,c]=false:=by with_unfolding_all rfl):PT X (.Compare a [op,uj] [b,c] pos) (Hx (wz r r' ta tb tc)):=by
 intro Zt s σ H Q I h
 refine isTrue_chain (thn (ha Zt s σ H _ I h) λv s1 ⟨x,H1,I1,r1,q1⟩=>test_link (thn (hb Zt s1 σ H1 _ I1 q1) λu s2 ⟨y,H2,I2,r2,q2⟩=>
  thn (ho Zt s2 σ H2 x y v u _ I2 r1 r2 q2) λd s3 ⟨z,H3,I3,r3,k,e,q3⟩=>?_)) hm
 subst e;cases r3;refine wpAny_truthy_bool ?_
 cases k with
 |false=>
  obtain⟨k',e',q'⟩:=q3;cases e';exact ite_ff ⟨H3,I3,q'⟩
 |true=>
  refine ite_tt (test_last (thn (hc Zt s3 σ H3 _ I3 q3) λw' s4 ⟨z',H4,I4,r4,q4⟩=>thn (kH Zt s4 σ H4 y z' u w' _ I4 r2 r4 q4) λd' s5=>?_));rintro⟨z2,H5,I5,r5,k2,e2,q5⟩;subst e2;cases r5;exact wpAny_truthy_bool ⟨H5,I5,q5⟩
theorem nR:(sizeLine:Nat)<2^63:=by rw[sizeLine_eq];decide
theorem vals1{x:V}{us:List Value}(r:Vals [x] us):∃u,us=[u]/\RelV x u:=by
 cases r with
 |cons r1 r2=>cases r2;exact⟨_,rfl,r1⟩
theorem vals2{x y:V}{us:List Value}(r:Vals [x,y] us):∃u w',us=[u,w']/\RelV x u/\RelV y w':=by
 cases r with
 |cons r1 r2=>
  cases r2 with
  |cons r3 r4=>cases r4;exact⟨_,_,rfl,r1,r3⟩
theorem qF(hc:X.calm=true):dG X (.builtin "max") (λxs H Q=>∃i j,xs=[.int i,.int j]/\Q (.int (if j>i then j else i)) H):=by
 intro Zt s σ H xs us Q I r h;obtain⟨i,j,rfl,q⟩:=h;obtain⟨u,w',rfl,⟨t,rfl⟩,⟨t',rfl⟩⟩:=vals2 r
 refine max_two_ints (I.ok.hd hc) λh' tk k=>⟨_,H,I.kept k,?_,q⟩
 by_cases hj:j>i
 .rw[zAx hj,zAx hj];exact⟨_,rfl⟩
 .rw[zAw hj,zAw hj];exact⟨_,rfl⟩
theorem fX(hc:X.calm=true):dG X (.builtin "min") (λxs H Q=>∃i j,xs=[.int i,.int j]/\Q (.int (if j<i then j else i)) H):=by
 intro Zt s σ H xs us Q I r h;obtain⟨i,j,rfl,q⟩:=h;obtain⟨u,w',rfl,⟨t,rfl⟩,⟨t',rfl⟩⟩:=vals2 r
 refine min_two_ints (I.ok.hd hc) λh' tk k=>⟨_,H,I.kept k,?_,q⟩
 by_cases hj:j<i
 .rw[zAx hj,zAx hj];exact⟨_,rfl⟩
 .rw[zAw hj,zAw hj];exact⟨_,rfl⟩
theorem zN:dG X (.type "int") (λxs H Q=>(∃i,xs=[.int i]/\Q (.int i) H)\/∃k,xs=[.bl k]/\Q (.int (if k then 1 else 0)) H):=by
 intro Zt s σ H xs us Q I r h;rcases h with⟨i,rfl,q⟩|⟨k,rfl,q⟩
 .obtain⟨u,rfl,t,rfl⟩:=vals1 r;exact call_int_int ⟨.int i,H,I,⟨_,rfl⟩,q⟩
 .obtain⟨u,rfl,r1⟩:=vals1 r;cases r1;exact call_int_bool ⟨.int (if k then 1 else 0),H,I.tok _,⟨_,rfl⟩,q⟩
end
structure ObjM(h:Heap)(x dx C:Addr)(mA:Str->Option Value):Prop where
 obj:h.get? x=some (PySem.W.instObj C dx)
 ns:h.Ns1 dx mA
 ne:dx≠x
theorem zP{h:Heap}{dx:Addr}{mA:Str->Option Value}(n:h.Ns1 dx mA):∃od,h.get? dx=some od/\∀name,PySem.W.lookIn name od=some (mA name):=by
 obtain⟨o,es,ep,ho,hd,hk,_,hm⟩:=n;refine⟨o,ho,λname=>?_⟩;have e:=hm name;unfold nsFind findBy at e;rw[<-Array.find?_toList]at e;unfold PySem.W.lookIn;rw[hd];dsimp only;split
 .rename_i y q
  rw[q]at e;exact congrArg some e
 .rename_i q
  rw[q]at e
  have a:es.toList.any (·.refKey)=false:=by
   rw[List.any_eq_false];intro y hy;obtain⟨z,t,E9⟩:=hk y (Array.mem_toList_iff.mp hy);simp[DictEntry.refKey,E9]
  have a':¬es.toList.any (·.refKey)=true:=by rw[a];exact zAg
  rw[zAw a'];exact congrArg some e
theorem ObjM.look{h:Heap}{x dx C:Addr}{mA:Str->Option Value}(I:ObjM h x dx C mA):∃od,PySem.W.InstAt h x (PySem.W.instObj C dx) C (some od)/\∀name,PySem.W.lookIn name od=some (mA name):=
 let⟨od,ho,hl⟩:=zP I.ns
 ⟨od,⟨I.obj,rfl,rfl,ho⟩,hl⟩
section
variable{prog:Program}{w:World}{A:Around}{E:Value->Shared->Prop}{s:Shared}{K:Frag}{x dx C f:Addr}{mA:Str->Option Value}{name:Str}{v:Value}
end
theorem RelO.some_of{v:V}{o:Option Value}(r:RelO (some v) o):∃u,o=some u/\RelV v u:=by
 cases o with
 |none=>exact(show False from r).elim
 |some u=>exact⟨u,rfl,r⟩
section
variable{P:Program}{w:World}{H H':Hp}{h h':Heap}{a C dx:Addr}{fs PQ:List (Str×V)}
theorem Fz(hok:HOk P w H h)(e:H a=some (.ins C dx fs)):∃mA,ObjM h a dx C mA/\(∀f,RelO (fs.lookup f) (mA f))/\PySem.Within mA (fs.map (·.1))/\fs.length<=1000/\H dx=some (.own a):=by
 obtain⟨d,z,ne,ob,mA,n,r,q⟩:=(show ObjOk P w H h a (.ins C dx fs)from hok a _ e)
 exact⟨mA,⟨ob,n,ne⟩,r,q,z,d⟩
end
structure Cls(K:Frag)(C:Addr):Prop where
 pg:PySem.W.plainGet K C Str.empty=true
 hd:PySem.W.hasDictIn K C=true
 po:PySem.W.plainOver K C=true
 sa:PySem.W.findIn K (.ref C) "__setattr__"=some (some (.builtin "object.__setattr__"))
theorem Cls.get{K:Frag}{C:Addr}(c:Cls K C)(f:Str):PySem.W.plainGet K C f=true:=c.pg
section
variable{X:Cx}{Zt:List (Addr×Obj)}{σ:St}{H:Hp}{s:Shared}{a C dx:Addr}{fs:List (Str×V)}{f:Str}{v:V}{A:Around}{E:Value->Shared->Prop}
end
section
variable{X:Cx}{o e value:Expr}{f:Str}{pos pos' tT:Pos}{ta tv:TE}
end
section
variable{X:Cx}{Zt:List (Addr×Obj)}{σ:St}{H:Hp}{s:Shared}{A:Around}{E:Value->Shared->Prop}{Q:Value->Shared->Prop}{c:Value}{b:Bool}
inductive TyOf(K:Frag)(H:Hp):V->Value->Prop where
 |non:TyOf K H .non (.type "NoneType")
 |bl (x:Bool):TyOf K H (.bl x) (.type "bool")
 |int (i:Int):TyOf K H (.int i) (.type "int")
 |str (x:Str):TyOf K H (.str x) (.type "str")
 |flt (x:UInt64):TyOf K H (.flt x) (.type "float")
 |lst {a:Addr} {xs:List V} (e:H a=some (.lst xs)):TyOf K H (.ref a) (.type "list")
 |frz {a:Addr} {o:Obj} {xs:List V} (e:H a=some (.frz o (.lst xs))):TyOf K H (.ref a) (.type "list")
 |tup {a:Addr} {xs:List V} (e:H a=some (.tup xs)):TyOf K H (.ref a) (.type "tuple")
 |dK {a:Addr} {kvs:List (Key×V)} (e:H a=some (.dK kvs)):TyOf K H (.ref a) (.type "dict")
 |dT {a:Addr} {kvs:List (List Key×V)} (e:H a=some (.dT kvs)):TyOf K H (.ref a) (.type "dict")
 |ins {a C dx:Addr} {fs:List (Str×V)} (e:H a=some (.ins C dx fs)) (cl:Cls K C) (ha:PySem.W.findIn K (.ref C) "__class__"=some (some (.builtin "object.__class__")))
   (hn:PySem.W.specialIn K (.builtin "object.__class__") "__get__"=some (some (.builtin "getset_descriptor.__get__"))) (A0:PySem.W.takesIn K (.builtin "object.__class__")=some true)
   (hm:PySem.W.mroIn K C (.type "object")=some true):TyOf K H (.ref a) (.ref C)
theorem zQ{x:V}{u t:Value}(I:Inv X Zt σ H s)(rx:RelV x u)(ty:TyOf X.K H x t)(e:PySem.W.kitOne X.K t c=some b)(h:∀tk,Q (.bool b) {s with toks:=tk}):
  wpAny (model X.prog X.w) A (call (.builtin "isinstance") [u,c]) Q E s:=by
 cases ty with
 |non=>cases(show u=Value.none from rx);exact PySem.W.kia_one PySem.W.kitx_none I.kIn True.intro e (λz=>nomatch z) h
 |bl y=>cases(show u=Value.bool y from rx);exact PySem.W.kia_one PySem.W.kitx_bool I.kIn True.intro e (λz=>nomatch z) h
 |int i=>obtain⟨t,q⟩:=(show ∃t,u=Value.int i t from rx);cases q;exact PySem.W.kia_one PySem.W.kitx_int I.kIn True.intro e (λz=>nomatch z) h
 |str y=>obtain⟨t,q⟩:=(show ∃t,u=Value.str y t from rx);cases q;exact PySem.W.kia_one PySem.W.kitx_str I.kIn True.intro e (λz=>nomatch z) h
 |flt y=>obtain⟨t,q⟩:=(show ∃t,u=Value.float y t from rx);cases q;exact PySem.W.kia_one PySem.W.kitx_float I.kIn True.intro e (λz=>nomatch z) h
 |@lst a xs ea=>
  cases(show u=Value.ref a from rx)
  obtain⟨_,_,n,_,h1⟩:=(show ObjOk X.prog X.w H s.heap a (.lst xs)from I.hok a _ ea)
  exact PySem.W.kia_one PySem.W.kitx_list I.kIn ⟨_,h1,rfl⟩ e (λz=>nomatch z) h
 |@frz a ob xs ea=>
  cases(show u=Value.ref a from rx)
  obtain⟨_,_,_,n,_,h1⟩:=(show ObjOk X.prog X.w H s.heap a (.frz ob (.lst xs))from I.hok a _ ea)
  exact PySem.W.kia_one PySem.W.kitx_list I.kIn ⟨_,h1,rfl⟩ e (λz=>nomatch z) h
 |@tup a xs ea=>
  cases(show u=Value.ref a from rx)
  obtain⟨_,_,_,p⟩:=(show ObjOk X.prog X.w H s.heap a (.tup xs)from I.hok a _ ea)
  obtain⟨o,h1,h2,_⟩:=p;exact PySem.W.kia_one PySem.W.kitx_tuple I.kIn ⟨o,h1,h2⟩ e (λz=>nomatch z) h
 |@dK a kvs ea=>
  cases(show u=Value.ref a from rx)
  obtain⟨_,_,vs,_,p⟩:=(show ObjOk X.prog X.w H s.heap a (.dK kvs)from I.hok a _ ea)
  obtain⟨o,es,ep,h1,h2,_⟩:=p;exact PySem.W.kia_one PySem.W.kitx_dict I.kIn ⟨o,h1,h2.1⟩ e (λz=>nomatch z) h
 |@dT a kvs ea=>
  cases(show u=Value.ref a from rx)
  obtain⟨_,_,xs,_,o,es,ep,h1,h2,_⟩:=(show ObjOk X.prog X.w H s.heap a (.dT kvs)from I.hok a _ ea)
  exact PySem.W.kia_one PySem.W.kitx_dict I.kIn ⟨o,h1,h2.1⟩ e (λz=>nomatch z) h
 |@ins a C dx fs ea cl ha hn A0 hm=>
  cases(show u=Value.ref a from rx);obtain⟨mA,O,_⟩:=Fz I.hok ea;obtain⟨od,J,_⟩:=O.look;exact PySem.W.kia_one (PySem.W.kitx_own (cl.get _) cl.hd ha hn A0 hm) I.kIn J e (λz=>nomatch z) h
end
structure Room(k:Nat)(A:Around):Prop where
 hd:A.handled=none
 dp:A.depth+3*k+5<recursionLimit
 un:A.units+16*k+200<cLine
 gd:A.guards=some []
theorem Room.mono{j k:Nat}{A:Around}(r:Room k A)(h:j<=k):Room j A:=⟨r.hd,by have:=r.dp;lia,by have:=r.un;lia,r.gd⟩
theorem Room.deeper{k:Nat}{A:Around}(r:Room (k+1) A)(env:Env):Room k (A.deeper env):=
 ⟨r.hd,by have:=r.dp;show A.depth+1+3*k+5<_;lia,by have:=r.un;show A.units+3+16*k+200<_;lia,r.gd⟩
theorem Room.depth{k:Nat}{A:Around}(r:Room k A):A.depth<recursionLimit:=by have:=r.dp;lia
theorem Room.units{k:Nat}{A:Around}(r:Room k A):A.units+64<cLine:=by have:=r.un;lia
def J1:TA:=λ_ H Q=>Q [] H
def uD(ta:TE)(tr:TA):TA:=λσ H Q=>ta σ H λx H1=>tr σ H1 λxs H2=>Q (x::xs) H2
section
variable{X:Cx}{e:Expr}{es:List Expr}{te:TE}{t:TA}{pos:Pos}
theorem ao:PA X [] J1:=λ_ _ _ _ H Q I h=>Calls.spliced_nil ⟨[],H,I,.nil,h⟩
theorem aX(ha:PE X e te)(hr:PA X es t)(hs:starEach (e::es) X.env=(false,eval e X.env)::starEach es X.env:=by rfl):PA X (e::es) (uD te t):=by
 intro pos Zt s σ H Q I h;rw[hs];show wpAny _ _ (spliced ((false,eval e X.env)::backTo pos (starEach es X.env))) _ _ s;refine Calls.spliced_cons (thn (ha Zt s σ H _ I h) λu s1=>?_);rintro⟨x,H1,I1,r1,q1⟩
 exact thn (hr pos Zt s1 σ H1 _ I1 q1) λus s2=>by rintro⟨xs,H2,I2,r2,q2⟩;exact⟨x::xs,H2,I2,.cons r1 r2,q2⟩
def J2(t:TA):TE:=λσ H Q=>t σ H λxs H1=>xs.length<=sizeLine/\∀p,H1 p=none->Q (.ref p) (upd H1 p (.tup xs))
def J3(t:TA):TE:=λσ H Q=>t σ H λxs H1=>xs.length<=sizeLine/\∀p,H1 p=none->Q (.ref p) (upd H1 p (.lst xs))
theorem bO{x1}(h:PA X es t):PE X (.Tuple es x1 pos) (J2 t):=by
 intro Zt s σ H Q I hq;refine wpAny_Tuple_spliced (thn (h pos Zt s σ H _ I hq) λus s1 ⟨xs,H1,I1,r,z,q⟩=>⟨by rw[<-r.length];exact z,?_⟩);have hf:H1 s1.heap.objs.size=none:=I1.hok.fresh (zA3 _);refine⟨.ref s1.heap.objs.size,upd H1 s1.heap.objs.size (.tup xs),I1.laid (t':=s1.toks) (λb u e=>zAy _ e) (zA3 _) ?_,rfl,q _ hf⟩;exact⟨z,us,r,⟨_,zB4 _ rfl,rfl,_,rfl⟩⟩
theorem cJ(h:PA X es t):PE X (.List es pos) (J3 t):=by
 intro Zt s σ H Q I hq;refine wpAny_List_spliced (thn (h pos Zt s σ H _ I hq) λus s1 ⟨xs,H1,I1,r,z,q⟩=>⟨by rw[<-r.length];exact z,?_⟩);have hf:H1 s1.heap.objs.size=none:=I1.hok.fresh (zA3 _);refine⟨.ref s1.heap.objs.size,upd H1 s1.heap.objs.size (.lst xs),I1.laid (t':=s1.toks) (λb u e=>zAy _ e) (zA3 _) ?_,rfl,q _ hf⟩;exact⟨z,us,0,r,zB4 _ rfl⟩
end
abbrev Sp:=List V->Hp->VK->XK->Prop
abbrev CXT:=List Env->Hp->Shared->XK->Value->Shared->Prop
structure Env0(P:Program)(w:World)(K:Frag)(mg:Str->Option Value)(base:Heap)(A:Around)(outer:List Env)(s:Shared)(H:Hp):Prop where
 frames:A.frames=some outer
 mod:Mod K mg base
 bs:∀b o,base.get? b=some o->s.heap.get? b=some o/\H b=none
 bsz:base.objs.size<=s.heap.objs.size
 funs:s.heap.FunFrames base outer
 frf:∀b∈frs outer,H b=none
 hok:HOk P w H s.heap
 bare:AllBare s.gens
def CE(outer:List Env)(P:Program)(w:World)(H:Hp)(s:Shared)(Q:VK)(u:Value)(s':Shared):Prop:=
 ∃v H',s'.os=s.os/\AllBare s'.gens/\Un (frs outer) [] H H' s.heap s'.heap/\HOk P w H' s'.heap/\RelV v u/\Q v H'
def CR(CX:CXT)(outer:List Env)(P:Program)(w:World)(H:Hp)(s:Shared)(Q:VK)(E:XK)(r:Result)(s':Shared):Prop:=
 match r with
 |.ok (.ret u)=>CE outer P w H s Q u s'
 |.ok _=>False
 |.error e=>CX outer H s E e s'
structure FnOk(P:Program)(w:World)(K:Frag)(mg:Str->Option Value)(base:Heap)(CX:CXT)(k:Nat)(f:Addr)(fd:FuncData)(ps:List Str)(sp:Sp):Prop where
 len:∀vs H Q E,sp vs H Q E->vs.length=ps.length
 run:∀(A:Around) (outer:List Env) (s:Shared) (H:Hp) (args:Args) (us:List Value) (vs:List V) (Q:VK) (E:XK),Room k A->Env0 P w K mg base A outer s H->BindsTo s fd args (ps.zip us)->Vals vs us->sp vs H Q E->
  codeAny (model P w) A (.call (.ref f) args) (CR CX outer P w H s Q E) s
theorem FnOk.imp{P:Program}{w:World}{K:Frag}{mg:Str->Option Value}{base:Heap}{CX:CXT}{k:Nat}{f:Addr}{fd:FuncData}{ps:List Str}{sp sp':Sp}(F:FnOk P w K mg base CX k f fd ps sp)
  (h:∀vs H Q E,sp' vs H Q E->sp vs H Q E):FnOk P w K mg base CX k f fd ps sp':=
 ⟨λvs H Q E q=>F.len vs H Q E (h _ _ _ _ q),λA outer s H args us vs Q E hr he hb hv hs=>F.run A outer s H args us vs Q E hr he hb hv (h _ _ _ _ hs)⟩
section
variable{X:Cx}{Zt:List (Addr×Obj)}{σ:St}{H:Hp}{s s':Shared}
theorem Inv.env0(I:Inv X Zt σ H s):Env0 X.prog X.w X.K X.mg X.base X.A X.stack s H:=
 ⟨I.ok.frames,I.ok.mod,I.bs,Zak I.ok.bsz I.sz,I.stack,I.stkFree,I.hok,I.bare⟩
theorem Inv.after{Q:VK}{u:Value}(I:Inv X Zt σ H s)(h:CE X.stack X.prog X.w H s Q u s'):EP X Zt σ Q u s':=by
 obtain⟨v,H',os,bare,un,hok,r,q⟩:=h;obtain⟨hh,g,d,t,PY⟩:=s';obtain rfl:PY=s.os:=os;exact⟨v,H',I.call (h':=hh) (g':=g) (d':=d) (t':=t) (ch:=[]) un hok bare (λb z=>absurd z Zy),r,q⟩
end
def Hy(sp:Sp)(rh:List V)(E:XK)(t:TA):TE:=λσ H Q=>t σ H λvs H1=>sp (vs++rh) H1 Q E
def Binds(K:Frag)(fd:FuncData)(ps:List Str)(ds:List Value):Prop:=
 ∀(s:Shared) (us:List Value),K.In s.heap->(us++ds).length=ps.length->BindsTo s fd ⟨us,[]⟩ (ps.zip (us++ds))
theorem Binds.all{K:Frag}{fd:FuncData}{ps:List Str}(h:∀us:List Value,us.length=ps.length->bindArgs fd ⟨us,[]⟩=pure (ps.zip us)):Binds K fd ps []:=λs us _ hl=>by
 rw[zAn]at hl⊢;exact .of_eq (h us hl)
def wA(CX:CXT)(X:Cx)(E:XK):Prop:=∀(Zt:List (Addr×Obj)) (σ:St) (H:Hp) (s:Shared) (e:Value) (s':Shared),Inv X Zt σ H s->CX X.stack H s E e s'->X.xe e s'
section
variable{X:Cx}{CX:CXT}{k:Nat}{f C:Addr}{fd:FuncData}{ps:List Str}{sp:Sp}{rh:List V}{ds:List Value}{E:XK}{x m:Str}{p pos apos:Pos}{e o:Expr}{es:List Expr}{ta:TE}{t:TA}
theorem J5{Zt:List (Addr×Obj)}{σ:St}{H:Hp}{s:Shared}{Q:VK}{us:List Value}{vs:List V}(F:FnOk X.prog X.w X.K X.mg X.base CX k f fd ps sp)(hr:Room k X.A)(hb:Binds X.K fd ps ds)(hd:Vals rh ds)(hx:wA CX X E)
  (I:Inv X Zt σ H s) (r:Vals vs us) (h:sp (vs++rh) H Q E):wpAny (model X.prog X.w) X.A (call (.ref f) us) (EP X Zt σ Q) X.xe s:=by
 have r2:Vals (vs++rh) (us++ds):=r.append hd;have hl:(us++ds).length=ps.length:=by rw[<-r2.length];exact F.len _ _ _ _ h
 refine wpAny_call (codeAny_mono (F.run X.A X.stack s H ⟨us,[]⟩ (us++ds) (vs++rh) Q E hr I.env0 (hb s us I.kIn hl) r2 h) λr s' hq=>?_)
 cases r with
 |error e=>exact hx Zt σ H s e s' I hq
 |ok fl=>
  cases fl with
  |ret u=>exact I.after hq
  |next=>exact False.elim hq
  |brk=>exact False.elim hq
  |cont=>exact False.elim hq
theorem FJ(F:FnOk X.prog X.w X.K X.mg X.base CX k f fd ps sp)(hr:Room k X.A)(hg:Gl X x)(hm:X.mg x=some (.ref f))(hk:PySem.W.keepIn X.K (.ref f)=true)(hb:Binds X.K fd ps ds)(hd:Vals rh ds)(hx:wA CX X E)
  (ha:PA X (e::es) t) (uk:(x==("__debug__":Str))=false:=by decide) (he:starEach (e::es) X.env=(false,eval e X.env)::starEach es X.env:=by rfl) (rj:(backTo pos (starEach es X.env)).any (·.1)=false:=by rfl):
  PE X (.Call (.Name x p) (e::es) [] pos) (Hy sp rh E t):=by
 intro Zt s σ H Q I h;refine wpAny_Call_Name_kw (xT I hg hm ?_ uk);refine PySem.W.callWith_K (h₀:=X.base) I.ok.mod.kin hk (thn (ha pos Zt s σ H _ I h) λus s1 ⟨vs,H1,I1,r,q⟩=>⟨I1.kIn,?_⟩) he rj;exact J5 F hr hb hd hx I1 r q
end
section
variable{X:Cx}{CX:CXT}{k:Nat}{f C:Addr}{fd:FuncData}{ps ks:List Str}{sp:Sp}{E:XK}{x m:Str}{p pos apos PZ:Pos}{e o:Expr}{es:List Expr}{WL:List Keyword}{te ta:TE}{t tk:TA}{nm:Option Str}
variable{g:List Value->List Value->List Value}{gV:List V->List V->List V}
end
structure FnScope(N P:List Str)(sc:Scope):Prop where
 kind:sc.kind=.function
 co:sc.isCoroutine=false
 gen:sc.isGenerator=false
 nd:N.Nodup
 pre:N.take P.length=P
 par:∀x∈P,sc.names.lookup x=some .local\/sc.names.lookup x=some .cell
 nofree:∀y∈sc.names,y.2≠.free
theorem qG{kindOf:Str->Option NameKind}{x:Str}:∀{binds:List (Str×Value)} {m:Str->Option Value},(∀v,(x,v)∉binds)->bindL kindOf binds m x=m x
 |[],_,_=>rfl
 | (n,v)::r,m,h=>by
  unfold bindL;rw[qG λw hw=>h w (Za2 _ hw)];split
  .have:x≠n:=by rintro rfl;exact h v Za1
   simp[this]
  .rfl
theorem qH{kindOf:Str->Option NameKind}{x:Str}:∀{binds:List (Str×Value)} {m:Str->Option Value},(∀v,(x,v)∉binds)->bindC kindOf binds m x=m x
 |[],_,_=>rfl
 | (n,v)::r,m,h=>by
  unfold bindC;rw[qH λw hw=>h w (Za2 _ hw)];split
  .rfl
  .have:x≠n:=by rintro rfl;exact h v Za1
   simp[this]
theorem qI{kindOf:Str->Option NameKind}{x:Str}{v:Value}:∀{P:List Str} {vs:List Value} {i:Nat} {m:Str->Option Value},P.Nodup->P[i]?=some x->vs[i]?=some v->kindOf x=some .local->
  bindL kindOf (P.zip vs) m x=some v
 |[],_,_,_,_,h,_,_=>by simp at h
 |_::_,[],_,_,_,_,h,_=>by simp at h
 |p::P,w::vs,0,m,nd,h1,h2,hk=>by
  simp at h1 h2;subst h1;subst h2;show bindL kindOf ((p,w)::P.zip vs) m p=_;unfold bindL;rw[qG λv hv=>(List.nodup_cons.mp nd).1 (Zaz hv).1,zAx hk];simp
 |p::P,w::vs,i+1,m,nd,h1,h2,hk=>by
  show bindL kindOf ((p,w)::P.zip vs) m x=_;unfold bindL;exact qI (i:=i) (List.nodup_cons.mp nd).2 (by simpa using h1) (by simpa using h2) hk
theorem qJ{kindOf:Str->Option NameKind}{x:Str}{v:Value}:∀{P:List Str} {vs:List Value} {i:Nat} {m:Str->Option Value},P.Nodup->P[i]?=some x->vs[i]?=some v->kindOf x≠some .local->
  bindC kindOf (P.zip vs) m x=some v
 |[],_,_,_,_,h,_,_=>by simp at h
 |_::_,[],_,_,_,_,h,_=>by simp at h
 |p::P,w::vs,0,m,nd,h1,h2,hk=>by
  simp at h1 h2;subst h1;subst h2;show bindC kindOf ((p,w)::P.zip vs) m p=_;unfold bindC;rw[qH λv hv=>(List.nodup_cons.mp nd).1 (Zaz hv).1,zAw hk];simp
 |p::P,w::vs,i+1,m,nd,h1,h2,hk=>by
  show bindC kindOf ((p,w)::P.zip vs) m x=_;unfold bindC;exact qJ (i:=i) (List.nodup_cons.mp nd).2 (by simpa using h1) (by simpa using h2) hk
def start(N:List Str)(vs:List V):St:=vs.map some++List.replicate (N.length-vs.length) none
def zR(CX:CXT)(P:Program)(w:World)(K:Frag)(mg:Str->Option Value)(base:Heap)(N:List Str)(qual:Str)(scope:Scope)(f:Addr)(cd:Value)(A:Around)(outer:List Env)(s:Shared)(H:Hp)(E:XK):Cx where
 prog:=P
 w:=w
 K:=K
 mg:=mg
 base:=base
 A:=A.deeper (envOfC qual scope s.heap.objs.size f cd)
 N:=N
 s₀:=s
 H₀:=H
 env:=envOfC qual scope s.heap.objs.size f cd
 outer:=outer
 stack:=envOfC qual scope s.heap.objs.size f cd::outer
 ex:=[]
 calm:=true
 fn:=λ_=>true
 pn:=[]
 xe:=λe s'=>wpAny (model P w) (A.deeper (envOfC qual scope s.heap.objs.size f cd)) (leaving (envOfC qual scope s.heap.objs.size f cd) e) (λ_ y9=>CX outer H s E e y9) (λe' y9=>CX outer H s E e' y9) s'
theorem uE{sc:Scope}{n:Nat}{x:Str}(h:sc.names.lookup x=some .cell):∃c,(cellsFrom n sc.names []).lookup x=some c:=by
 have q:=PySem.W.cellsFrom_some sc.names n [] (.inl h);exact Option.isSome_iff_exists.mp q
theorem zT{CX:CXT}{P:Program}{w:World}{K:Frag}{mg:Str->Option Value}{base:Heap}{N ps:List Str}{qual:Str}{scope:Scope}{f:Addr}{cd:Value}{A:Around}{outer:List Env}{s s1:Shared}{H:Hp}{E:XK}{us:List Value}{vs:List V}
  (S:FnScope N ps scope) (hd:A.handled=none) (e0:Env0 P w K mg base A outer s H) (hl:vs.length=ps.length) (r:Vals vs us)
  (x:InCallC s s.heap.objs.size (bindL (envOfC qual scope s.heap.objs.size f cd).kindOf (ps.zip us) λ_=>none) (cellsFrom (s.heap.objs.size+1) scope.names []) (bindC (envOfC qual scope s.heap.objs.size f cd).kindOf (ps.zip us) λ_=>none) s1):
  Inv (zR CX P w K mg base N qual scope f cd A outer s H E) [] (start N vs) H s1:=by
 have rj:ps.length<=N.length:=by have:=congrArg List.length S.pre;rw[zAd]at this;lia
 obtain⟨h1,tk,rfl,hk⟩:=x.done;have A2:∀b:Addr,b∉(zR CX P w K mg base N qual scope f cd A outer s H E).ex:=λb z=>absurd (show b∈([]:List Addr)from z) Zy
 refine⟨⟨e0.mod,S.kind,rfl,rfl,zA3 _,λy z c h1 h2=>?_,λy hy=>?_,λy c _ h=>?_,λ_=>hd,Around.frames_deeper e0.frames,.inr ⟨rfl,rfl⟩,λb z=>absurd z (A2 b),e0.bs,e0.bsz,λb _ _=>A2 b,λb z=>absurd z (A2 b),e0.funs,e0.frf⟩,
  rfl,e0.bare,Un.kept hk,⟨_,x.toInCall.ns,λi y v h1 h2 h3=>?_⟩,λy c h=>⟨_,x.cell y c h⟩,e0.hok.fresh (zA3 _),λy c h=>?_,λp hp=>absurd (show p∈([]:List (Addr×Obj))from hp) Zy,e0.hok.kept hk,?_⟩
 .exact name_of_addr x.apart (PySem.mem_of_lookup h1) (PySem.mem_of_lookup h2)
 .have hy:scope.names.lookup y=some .cell\/scope.names.lookup y=some .free:=hy;rcases hy with hy|hy
  .exact uE hy
  .exact absurd rfl (S.nofree _ (PySem.mem_of_lookup hy))
 .exact Nat.le_of_lt (x.above y c (PySem.mem_of_lookup h))
 .have hi:i<vs.length:=by
   unfold start at h2;by_cases hi:i<vs.length
   .exact hi
   .rw[zB7 (by simpa using hi)]at h2;rw[List.getElem?_replicate]at h2;split at h2<;>cases h2
  have ha:vs[i]?=some v:=by
   unfold start at h2;rw[zB8 (by simpa using hi),zAb]at h2
   cases e:vs[i]? with
   |none=>rw[e]at h2;cases h2
   |some a=>rw[e]at h2;cases h2;rfl
  obtain⟨u,hu,rv⟩:=r.get ha
  have hp:ps[i]?=some y:=by
   rw[<-S.pre,List.getElem?_take_of_lt Zz];exact h1
  have Nd:ps.Nodup:=by rw[<-S.pre];exact S.nd.sublist (Za3 _ _)
  refine⟨u,rv,?_⟩;rcases S.par y (zBg hp)with k|k
  .exact .inl ⟨k,qI Nd hp hu k⟩
  .obtain⟨c,e⟩:=uE (n:=s.heap.objs.size+1) k;refine .inr ⟨.inl k,c,e,?_⟩;have q:=x.cell y c e;rw[qJ Nd hp hu (by show scope.names.lookup y≠_;rw[k];decide)]at q;exact q
 .exact e0.hok.fresh (Nat.le_of_lt (x.above y c (PySem.mem_of_lookup h)))
 .unfold start;show _=N.length;rw[zA2,zA1,List.length_replicate];lia
theorem Ka{CX:CXT}{P:Program}{w:World}{K:Frag}{mg:Str->Option Value}{base:Heap}{k:Nat}{f:Addr}{name qual:Str}{params:Arguments}{body:List Stmt}{scope:Scope}{dV kV doc pm ay ct oc:Value}{an od:Option Addr}
  {rl:Array (Option Value)} {N ps:List Str} {sp:Sp} (lk:K.lookup f=some ⟨oc,od,.func (PySem.W.fnOf name qual params body scope dV kV doc pm an ay ct),rl⟩) (kK:PySem.W.codeIn K ay qual=true) (S:FnScope N ps scope)
  (len:∀vs H Q E,sp vs H Q E->vs.length=ps.length)
  (kN:∀(A:Around) (outer:List Env) (s:Shared) (H:Hp) (vs:List V) (Q:VK) (E:XK),Room k (A.deeper (envOfC qual scope s.heap.objs.size f ay))->sp vs H Q E->
   ∃t,PSs (zR CX P w K mg base N qual scope f ay A outer s H E) body t/\t {nx:=λ_ H'=>Q .non H',rt:=Q} (start N vs) H):
  FnOk P w K mg base CX (k+1) f (PySem.W.fnOf name qual params body scope dV kV doc pm an ay ct) ps sp:=by
 refine⟨len,λA outer s H args us vs Q E hr e0 hb r nB=>?_⟩;have hl:=len _ _ _ _ nB;have KX:K.In s.heap:=e0.mod.kin.keeps λb o e=>(e0.bs b o e).1;have lim:s.heap.NoLimit:=e0.mod.nolimit.keeps λb o e=>(e0.bs b o e).1
 have A3:∀y∈ps.zip us,scope.names.lookup y.1=some .local\/(scope.names.lookup y.1=some .cell/\((cellsFrom (s.heap.objs.size+1) scope.names []).lookup y.1).isSome=true):=λ⟨n,v⟩ hy=>by
  rcases S.par n (Zaz hy).1 with q|q
  .exact .inl q
  .exact .inr ⟨q,PySem.W.cellsFrom_some _ _ _ (.inl q)⟩
 refine codeAny_call_function hr.depth (KX _ _ lk) rfl S.co S.gen rfl (PySem.W.codeRec_of KX kK) (hb _ _ _ _ ?_);refine wpAny_newFunctionEnv_cells S.kind A3 λenv he s1 x=>?_;subst he;refine⟨lim.keeps x.toInCall.keep,codeAny_func ?_⟩;obtain⟨t,ht,hq⟩:=kN A outer s H vs Q E (hr.deeper _) nB;have I:Inv (zR CX P w K mg base N qual scope f ay A outer s H E) [] (start N vs) H s1:=zT S hr.hd e0 hl r x;refine wpAny_mono (ht [] s1 (start N vs) H _ I hq) (λfl s' hs=>?_) λe s' hs=>hs
 have fin:∀{av:St} {H':Hp} {v:V} {u:Value},Inv (zR CX P w K mg base N qual scope f ay A outer s H E) [] av H' s'->RelV v u->Q v H'->CE outer P w H s Q u s':=
  λ{av H' v u} J rv q=>⟨v,H',J.os,J.bare,J.base,J.hok,rv,q⟩
 cases fl with
 |ret u=>
  obtain⟨v,av,H',J,rv,q⟩:=hs;exact fin J rv q
 |next=>
  obtain⟨av,H',J,q⟩:=hs;exact fin (v:=V.non) (u:=Value.none) J rfl q
 |brk=>
  obtain⟨_,_,_,q⟩:=hs;exact False.elim q
 |cont=>
  obtain⟨_,_,_,q⟩:=hs;exact False.elim q
section
variable{X:Cx}{x:Str}{p pos:Pos}{e:Expr}{es:List Expr}{t:TA}{id T:String}{r:List V->Hp->VK->Prop}
def tCB(r:List V->Hp->VK->Prop)(t:TA):TE:=λσ H Q=>t σ H λvs H1=>r vs H1 Q
theorem aM(hc:dG X (.builtin id) r)(hg:Gl X x)(hm:X.mg x=none)(hv:bootBuiltins x=some (.builtin id))(ha:PA X (e::es) t)(hn:x≠"__name__":=by decide)(uk:(x==("__debug__":Str))=false:=by decide)
  (he:starEach (e::es) X.env=(false,eval e X.env)::starEach es X.env:=by rfl) (rj:(backTo pos (starEach es X.env)).any (·.1)=false:=by rfl):PE X (.Call (.Name x p) (e::es) [] pos) (tCB r t):=by
 intro Zt s σ H Q I h;refine wpAny_Call_Name_kw (iD I hg hm hv ?_ hn uk);exact PyProof.Rows.callWith_builtin1 (thn (ha pos Zt s σ H _ I h) λus s1=>by rintro⟨vs,H1,I1,r1,q1⟩;exact hc Zt s1 σ H1 vs us Q I1 r1 q1) he rj
theorem cZ(hc:dG X (.type T) r)(hg:Gl X x)(hm:X.mg x=none)(hv:bootBuiltins x=some (.type T))(ha:PA X (e::es) t)(hn:x≠"__name__":=by decide)(uk:(x==("__debug__":Str))=false:=by decide)
  (he:starEach (e::es) X.env=(false,eval e X.env)::starEach es X.env:=by rfl) (rj:(backTo pos (starEach es X.env)).any (·.1)=false:=by rfl):PE X (.Call (.Name x p) (e::es) [] pos) (tCB r t):=by
 intro Zt s σ H Q I h;refine wpAny_Call_Name_kw (iD I hg hm hv ?_ hn uk);exact PyProof.Rows.callWith_type1 (thn (ha pos Zt s σ H _ I h) λus s1=>by rintro⟨vs,H1,I1,r1,q1⟩;exact hc Zt s1 σ H1 vs us Q I1 r1 q1) he rj
end
end L2
namespace HT
open PySem PyProof.Rows
def lexLt:PP->PP->Bool
 |[],[]=>false
 |[],_::_=>true
 |_::_,[]=>false
 |x::xs,y::ys=>if x=y then lexLt xs ys else decide (x<y)
theorem lexLt_cons(x y:Int)(xs ys:PP):lexLt (x::xs) (y::ys)=if x=y then lexLt xs ys else decide (x<y):=rfl
section
open PySem.SeqAt
open PySem.AutoSeq1 (wpAny_loadPart')
open PySem.MeetsSeq PySem.MeetsSeq2 PySem.MeetsSeq3
end
section
variable{prog:Program}{w:World}{A:Around}{E:Value->Shared->Prop}{s:Shared}
theorem cat_tup{t b:Addr}{vs ws:List Value}{Q:Value->Shared->Prop}(ht:IsTup s.heap t vs.toArray)(hb:IsTup s.heap b ws.toArray)(hv:vs≠[])
  (h1:ws=[]->Q (.ref t) s) (h2:ws≠[]->Q (.ref s.heap.objs.size) {s with heap:=s.heap.push {cls:=.type "tuple",data:=.seq (vs++ws).toArray}})
  (hsz:vs.length+ws.length<=sizeLine):wpAny (model prog w) A (binaryOp .Add (.ref t) (.ref b)) Q E s:=by
 obtain⟨⟨cls,dd,data,sl⟩,ho,hc,n,hd⟩:=id ht;obtain⟨⟨Fc,ze,data2,uu⟩,oq,A4,n2,hd2⟩:=id hb;simp only at hc hd A4 hd2;subst hc hd A4 hd2;have e:vs.toArray++ws.toArray=(vs++ws).toArray:=by simp
 by_cases hw:ws=[]
 .exact concat_meets ⟨_,ho,rfl⟩ ⟨_,oq,rfl⟩ noFill_tuple_add seq_tuple_add PySem.F.slot_tuple_add PySem.F.entry_tuple_add (PySem.F.args_tuple_add_2 _ _)
   (tuple_addW1 t b vs.toArray ws.toArray n n2 dd ze sl uu (by simpa using hv) (by simp[hw])) ⟨ho,oq,h1 hw⟩
 .refine concat_meets ⟨_,ho,rfl⟩ ⟨_,oq,rfl⟩ noFill_tuple_add seq_tuple_add PySem.F.slot_tuple_add PySem.F.entry_tuple_add (PySem.F.args_tuple_add_2 _ _)
   (tuple_addW2 t b vs.toArray ws.toArray n n2 dd ze sl uu (by simpa using hv) (by simpa using hw) (by rw[zA8,zA8];exact hsz)) ⟨ho,oq,?_⟩
  rw[e];exact h2 hw
def sIx(n d:Nat):Option Int->Nat
 |none=>d
 |some v=>if v<0 then(v+(n:Int)).toNat else min v.toNat n
theorem sIx_none(n d:Nat):sIx n d none=d:=rfl
theorem sIx_nat(n d k:Nat):sIx n d (some (k:Int))=min k n:=by
 show(if(k:Int)<0 then((k:Int)+(n:Int)).toNat else min (k:Int).toNat n)=min k n;rw[zAw Zz,zAi]
theorem J6(n d:Nat)(hd:d<=n)(o:Option Int):sIx n d o<=n:=by
 cases o with
 |none=>exact hd
 |some v=>
  show(if v<0 then(v+(n:Int)).toNat else min v.toNat n)<=n;by_cases hv:v<0
  .rw[zAx hv];lia
  .rw[zAw hv];exact Nat.min_le_right _ _
theorem xW(v:Int)(n d:Nat):(if v<0 then max (v+(n:Int)) 0 else min v (n:Int))=((sIx n d (some v):Nat):Int):=by
 show(if v<0 then max (v+(n:Int)) 0 else min v (n:Int))=(((if v<0 then(v+(n:Int)).toNat else min v.toNat n):Nat):Int);by_cases hv:v<0
 .simp only[if_pos hv];lia
 .simp only[if_neg hv];lia
theorem wB(lo hi:Option Int)(n:Nat):Builtin.Slice.sliceAdjust lo hi 1 (n:Int)=(((sIx n 0 lo:Nat):Int),((sIx n n hi:Nat):Int)):=by
 have h1:¬((1:Int)<0):=Zz
 unfold Builtin.Slice.sliceAdjust;simp only[h1,if_false];refine Prod.ext ?_ ?_
 .cases lo with
  |none=>rfl
  |some v=>exact xW v n 0
 .cases hi with
  |none=>rfl
  |some v=>exact xW v n n
theorem wC(i j:Nat):Builtin.Slice.slicePlaces (i:Int) (j:Int) 1=j-i:=by
 unfold Builtin.Slice.slicePlaces;have h1:(1:Int)>0:=Zz
 simp only[h1,if_true,Int.ediv_one];split<;>lia
theorem nU{v:Value}{o:Option Int}{Q:Option Int->Shared->Prop}(p:IsPart v o)(h:Q o s):wpAny (model prog w) A (Builtin.Slice.slicePartIndex v) Q E s:=by
 cases p with
 |none=>exact slicePart_none h
 |int i t=>exact slicePart_int h
theorem gP{sl:Addr}{vl vu:Value}{lo hi:Option Int}{n:Nat}{Q:Int×Int×Nat->Shared->Prop}(hs:s.heap.IsSliceOf sl vl vu .none)(pl:IsPart vl lo)(pu:IsPart vu hi)
  (h:Q (((sIx n 0 lo:Nat):Int),1,sIx n n hi-sIx n 0 lo) s):wpAny (model prog w) A (Builtin.Slice.sliceApplied (.ref sl) (pure (n:Int))) Q E s:=by
 obtain⟨os,uS,DV,A5⟩:=id hs;unfold Builtin.Slice.sliceApplied Builtin.Slice.sliceFields;refine zAv (zAv (wpAny_field uS A5 (x:=vl) rfl (zAv (wpAny_field uS A5 (x:=vu) rfl (zAv (wpAny_field uS A5 (x:=.none) rfl (zAz ?_)))))));refine zAv (slicePart_none ?_);show wpAny _ _ (if((1:Int)==0)=true then _ else _) _ _ s;rw[zAw Zx];refine zAv (nU pl (zAv (nU pu (zAv (zAz ?_)))));show wpAny _ _ (match Builtin.Slice.sliceAdjust lo hi 1 (n:Int)with | (lo,hi)=>pure (lo,(1:Int),Builtin.Slice.slicePlaces lo hi 1)) _ _ s;rw[wB lo hi n];show wpAny _ _ (pure (((sIx n 0 lo:Nat):Int),(1:Int),Builtin.Slice.slicePlaces ((sIx n 0 lo:Nat):Int) ((sIx n n hi:Nat):Int) 1)) _ _ s;rw[wC];exact zAz h
theorem BP(xs:Array Value)(i k:Nat):((List.range k).filterMap λ(m:Nat)=>xs[((i:Int)+(m:Int)*1).toNat]?).toArray=((xs.toList.drop i).take k).toArray:=by
 have e:(λ(m:Nat)=>xs[((i:Int)+(m:Int)*1).toNat]?)=λm=>xs[i+m]?:=by
  funext m;have:((i:Int)+(m:Int)*1).toNat=i+m:=Zz
  rw[this]
 rw[e];have:=pick_run xs i k;rw[List.filterMap_map]at this;have e2:((λx=>xs[x]?)∘λx=>i+x)=λm=>xs[i+m]?:=rfl;rw[e2]at this;rw[this]
theorem getItem_tuple_cut{t sl:Addr}{items:Array Value}{vl vu:Value}{lo hi:Option Int}{Q:Value->Shared->Prop}(ht:IsTup s.heap t items)(hs:s.heap.IsSliceOf sl vl vu .none)(pl:IsPart vl lo)(pu:IsPart vu hi)
  (hw:¬(sIx items.size 0 lo=0/\sIx items.size items.size hi=items.size))
  (h:Q (.ref s.heap.objs.size) {s with heap:=s.heap.push {cls:=.type "tuple",data:=.seq ((items.toList.drop (sIx items.size 0 lo)).take (sIx items.size items.size hi-sIx items.size 0 lo)).toArray}})
  (hsz:items.size<=sizeLine):wpAny (model prog w) A (getItem (.ref t) (.ref sl)) Q E s:=by
 have iN:sizeOk (.seq ((items.toList.drop (sIx items.size 0 lo)).take (sIx items.size items.size hi-sIx items.size 0 lo)).toArray):=by
  show((items.toList.drop (sIx items.size 0 lo)).take (sIx items.size items.size hi-sIx items.size 0 lo)).toArray.size<=sizeLine;rw[zA8,zAd,Zam,zA9];lia
 have hj:sIx items.size items.size hi<=items.size:=J6 _ _ (zA3 _) hi;obtain⟨os,uS,DV,A5⟩:=id hs
 have Fh:s.TypeIs (.ref sl) "slice":=⟨os,uS,DV⟩
 unfold getItem
 try with_reducible refine wpAny_holding ?_
 first|refine zAv (zAz ?_)|skip
 refine zAv (wpAny_sequenceKey ht.typeIs Zx ?_)
 refine zAv (wpAny_callSpecial?_slot (name:=Str.ofString "__getitem__") ht.typeIs PyProof.Rows.slot_tuple_getitem
  (wpAny_call_entry PyProof.Rows.slot_tuple_getitem ht.typeIs entry_tuple_getitem ?_ (args_tuple_getitem _ _)))
 show wpAny _ _ (Builtin.Tuple.tupleItemsOf (.ref t)>>=_) _ _ s;refine zAv (tupleItemsOf_ ht ?_);refine zAv (wpAny_typeOf Fh ?_);rw[zAx Zx];refine zAv (gP hs pl pu ?_)
 have P0:¬((((sIx items.size 0 lo:Nat):Int)==0&&(1:Int)==1&&(sIx items.size items.size hi-sIx items.size 0 lo)==items.size)=true):=by
  intro q;rw[zAc,zAc]at q;have q1:((sIx items.size 0 lo:Nat):Int)=0:=eq_of_beq q.1.1;have q2:sIx items.size items.size hi-sIx items.size 0 lo=items.size:=eq_of_beq q.2;exact hw ⟨Zz,Zz⟩
 show wpAny _ _ (if(((sIx items.size 0 lo:Nat):Int)==0&&(1:Int)==1&&(sIx items.size items.size hi-sIx items.size 0 lo)==items.size)=true then _ else _) _ _ s;rw[zAw P0,BP]
 first
  |exact zAv (m:=Builtin.Tuple.tupleExact _) (Zac (zAz ⟨_,rfl,zAz h⟩) iN)
  |exact zAv (m:=Builtin.Tuple.tupleExact _) (Zac (zAv (zAz (zAz ⟨_,rfl,zAz h⟩))) iN)
  |exact zAv (zAv (m:=Builtin.Tuple.tupleExact _) (Zac (zAz (zAz ⟨_,rfl,zAz h⟩)) iN))
  |exact zAv (zAv (m:=Builtin.Tuple.tupleExact _) (Zac (zAz ⟨_,rfl,zAz h⟩) iN))
end
end HT
namespace L2
open PySem PySem.Spec PyProof.Rows
variable{H:Hp}{xs:List V}{us:List Value}{s:Shared}{σ:St}
abbrev TO:=St->Hp->(Option Int->Hp->Prop)->Prop
def PO(X:Cx)(e:Option Expr)(t:TO):Prop:=
 ∀(Zt:List (Addr×Obj)) (s:Shared) (σ:St) (H:Hp) (Q:Option Int->Hp->Prop),Inv X Zt σ H s->t σ H Q->
  wpAny (model X.prog X.w) X.A (evalPart e X.env) (λu s'=>∃o H',Inv X Zt σ H' s'/\IsPart u o/\Q o H') X.xe s
def FN:TO:=λ_ H Q=>Q none H
def Kc(t:TE):TO:=λσ H Q=>t σ H λx H1=>∃i,x=.int i/\Q (some i) H1
theorem intsAre_of{ns:PP}:∀{us:List Value},Vals (ns.map V.int) us->IntsAre us ns:=by
 induction ns with
 |nil=>intro us r;rw[List.map_nil]at r;cases r;exact .nil
 |cons n ns ih=>
  intro us r;rw[zAk]at r
  cases r with
  |cons r1 r2=>
   obtain⟨t,e⟩:=r1;subst e;exact .cons n t (ih r2)
section
variable{X:Cx}{e:Expr}{te:TE}{lo hi:Option Expr}{tl th:TO}{pos p2:Pos}
theorem jb:PO X none FN:=by
 intro Zt s σ H Q I h;rw[evalPart_none];exact zAz ⟨none,H,I,.none,h⟩
theorem jc(h:PE X e te):PO X (some e) (Kc te):=by
 intro Zt s σ H Q I hw;rw[evalPart_some];refine thn (h Zt s σ H _ I hw) λu s1=>?_;rintro⟨x,H1,I1,r1,q1⟩;obtain⟨i,rfl,q⟩:=q1;obtain⟨t,rfl⟩:=r1;exact⟨some i,H1,I1,.int i t,q⟩
def SlR(X:Cx)(r:V->Option Int->Option Int->Hp->VK->Prop):Prop:=
 ∀(Zt:List (Addr×Obj)) (s:Shared) (σ:St) (H:Hp) (x:V) (v vl vu:Value) (lo hi:Option Int) (sl:Addr) (Q:VK),Inv X Zt σ H s->RelV x v->s.heap.IsSliceOf sl vl vu .none->IsPart vl lo->IsPart vu hi->r x lo hi H Q->
  ∃T id,typeLookup (.type T) "__getitem__"=pure (some (.builtin id))/\s.TypeIs v T/\wpAny (model X.prog X.w) X.A (getItem v (.ref sl)) (EP X Zt σ Q) X.xe s
def tSl(r:V->Option Int->Option Int->Hp->VK->Prop)(te:TE)(tl th:TO):TE:=λσ H Q=>te σ H λx H1=>tl σ H1 λl H2=>th σ H2 λu H3=>r x l u H3 Q
theorem gQ{r:V->Option Int->Option Int->Hp->VK->Prop}(hr:SlR X r)(he:PE X e te)(hl:PO X lo tl)(hu:PO X hi th):PE X (.Subscript e (.Slice lo hi none p2) pos) (tSl r te tl th):=by
 intro Zt s σ H Q I h;refine Subscript_ (thn (he Zt s σ H _ I h) λv s1=>?_);rintro⟨x,H1,I1,r1,q1⟩;refine wpAny_Slice (thn (hl Zt s1 σ H1 _ I1 q1) λvl s2 ⟨l,H2,I2,pl,q2⟩=>thn (hu Zt s2 σ H2 _ I2 q2) λvu s3=>?_);rintro⟨u,H3,I3,pu,q3⟩;rw[evalPart_none];refine zAz ?_;have I4:Inv X Zt σ H3 {s3 with heap:=s3.heap.push {cls:=.type "slice",data:=.fields #[vl,vu,.none]}}:=I3.kept (t':=s3.toks) λb ob q=>zAy _ q;obtain⟨T,id,hT,ht,hg⟩:=hr Zt {s3 with heap:=s3.heap.push {cls:=.type "slice",data:=.fields #[vl,vu,.none]}} σ H3 x v vl vu l u s3.heap.objs.size Q I4 r1 (Heap.IsSliceOf.new ..) pl pu q3;show wpAny (model X.prog X.w) X.A (subscriptTail e (.Slice lo hi none p2) v (.ref s3.heap.objs.size)) (EP X Zt σ Q) X.xe {s3 with heap:=s3.heap.push {cls:=.type "slice",data:=.fields #[vl,vu,.none]}};exact tail_any (ops:=[.ref s3.heap.objs.size,v]) ht hT hg (by with_unfolding_all rfl)
def iH(xs:List V)(lo hi:Option Int):List V:=(xs.drop (HT.sIx xs.length 0 lo)).take (HT.sIx xs.length xs.length hi-HT.sIx xs.length 0 lo)
theorem mj(xs:List V)(lo hi:Option Int):(iH xs lo hi).length<=xs.length:=by
 unfold iH;rw[zAd,Zam];lia
inductive RSlTI(K:Frag)(x:V)(lo:Option Int)(hi:Option Int)(H:Hp)(Q:VK):Prop
 |mk:∀a xs,(x=.ref a)->(SqT K H a xs)->(¬(HT.sIx xs.length 0 lo=0/\HT.sIx xs.length xs.length hi=xs.length))->(∀p,H p=none->Q (.ref p) (upd H p (.tup (iH xs lo hi))))->RSlTI K x lo hi H Q
def Ms(K:Frag):V->Option Int->Option Int->Hp->VK->Prop:=λx lo hi H Q=>RSlTI K x lo hi H Q
theorem J7:SlR X (Ms X.K):=by
 intro Zt s σ H x v vl vu lo hi sl Q I rx hs pl pu h;obtain⟨a,xs,rfl,hx,hw,q⟩:=h;cases rx;obtain⟨Zs,r,ht,hz⟩:=I.tuple hx;have hlen:Zs.toArray.size=xs.length:=by rw[zA8];exact r.length.symm
 refine⟨"tuple",_,PyProof.Rows.slot_tuple_getitem.lookup,ht.typeIs,?_⟩;refine HT.getItem_tuple_cut ht hs pl pu (by rw[hlen];exact hw) ?_ (by rw[hlen];exact hz);rw[hlen];refine⟨.ref s.heap.objs.size,_,I.laid (t':=s.toks) (o:=.tup (iH xs lo hi)) (λb ob q=>zAy _ q) (zA3 _) ?_,rfl,q _ (I.hok.fresh (zA3 _))⟩;exact⟨Zak (mj xs lo hi) hz,_,(r.drop (HT.sIx xs.length 0 lo)).take (HT.sIx xs.length xs.length hi-HT.sIx xs.length 0 lo),IsTup.new _ _⟩
inductive RCatTI(K:Frag)(x:V)(y:V)(H:Hp)(Q:VK):Prop
 |mk:∀a b xs ys,(x=.ref a)->(y=.ref b)->(SqT K H a xs)->(SqT K H b ys)->(xs≠[])->(xs.length+ys.length<=sizeLine)->((ys=[]->Q (.ref a) H))->((ys≠[]->∀p,H p=none->Q (.ref p) (upd H p (.tup (xs++ys)))))->RCatTI K x y H Q
def HB(K:Frag):R2:=λx y H Q=>RCatTI K x y H Q
theorem Vals.nil_iff(r:Vals xs us):us=[]↔xs=[]:=by
 cases r with
 |nil=>simp
 |cons _ _=>simp
theorem sy:OpR X (binaryOp .Add) (HB X.K):=by
 intro Zt s σ H x y v u Q I rx ry h;obtain⟨a,b,xs,ys,rfl,rfl,ha,hb,hx,hz,q1,q2⟩:=h;cases rx;cases ry;obtain⟨Zs,r1,p1,_⟩:=I.tuple ha;obtain⟨cq,r2,p2,_⟩:=I.tuple hb;refine HT.cat_tup p1 p2 (λz=>hx (r1.nil_iff.mp z)) (λz=>⟨.ref a,H,I,rfl,q1 (r2.nil_iff.mp z)⟩) (λz=>?_) (by rw[<-r1.length,<-r2.length];exact hz);refine⟨.ref s.heap.objs.size,_,I.laid (t':=s.toks) (o:=.tup (xs++ys)) (λb ob q=>zAy _ q) (zA3 _) ?_,rfl,q2 (λw=>z (r2.nil_iff.mpr w)) _ (I.hok.fresh (zA3 _))⟩;exact⟨by rw[zA2];exact hz,_,r1.append r2,IsTup.new _ _⟩
end
def ixN(n:Nat)(i:Int):Option Nat:=if 0<=i then(if i<n then some i.toNat else none)else if -(n:Int)<=i then some (i+n).toNat else none
def atI{α:Type}(xs:List α)(i:Int):Option α:=(ixN xs.length i).bind λj=>xs[j]?
theorem xX{n:Nat}{i:Int}{j:Nat}(h:ixN n i=some j):seqIndex? i n=some j/\j<n/\-(n:Int)<=i/\i<n:=by
 unfold ixN at h;by_cases h0:0<=i
 .rw[zAx h0]at h;by_cases h1:i<n
  .rw[zAx h1]at h;have e:i.toNat=j:=zAl h;exact⟨by rw[seqIndex_of h0 h1,e],Zz,Zz,h1⟩
  .rw[zAw h1]at h;cases h
 .rw[zAw h0]at h;by_cases h1:-(n:Int)<=i
  .rw[zAx h1]at h;have e:(i+n).toNat=j:=zAl h;exact⟨by rw[seqIndex_neg Zz h1,e],Zz,h1,Zz⟩
  .rw[zAw h1]at h;cases h
theorem xY{α:Type}{xs:List α}{i:Int}{v:α}(h:atI xs i=some v):∃j,seqIndex? i xs.length=some j/\xs[j]?=some v/\j<xs.length/\-(xs.length:Int)<=i/\i<xs.length:=by
 unfold atI at h
 cases e:ixN xs.length i with
 |none=>rw[e]at h;cases h
 |some j=>
  rw[e]at h;obtain⟨h1,h2,h3,h4⟩:=xX e;exact⟨j,h1,h,h2,h3,h4⟩
theorem cB{α:Type}{xs:List α}{j:Nat}{v:α}(h:xs[j]?=some v):atI xs (j:Int)=some v:=by
 have hj:j<xs.length:=(zAa.mp h).1
 have e:ixN xs.length (j:Int)=some j:=by
  unfold ixN;rw[zAx Zz,zAx Zz];simp
 unfold atI;rw[e];exact h
def sE(b:Expr):Prop:=∀o i,subscripted b false o i=operate [o,i] (getItem o i)
def IxR(X:Cx)(r:R2):Prop:=
 ∀(value slice:Expr) (Zt:List (Addr×Obj)) (s:Shared) (σ:St) (H:Hp) (x y:V) (v u:Value) (Q:VK),Inv X Zt σ H s->RelV x v->RelV y u->r x y H Q->
  subscripted slice false v u=operate [v,u] (getItem v u)->wpAny (model X.prog X.w) X.A (subscriptTail value slice v u) (EP X Zt σ Q) X.xe s
def MtR(X:Cx)(id:String)(r:V->List V->Hp->VK->Prop):Prop:=
 ∀(Zt:List (Addr×Obj)) (s:Shared) (σ:St) (H:Hp) (x:V) (xs:List V) (v:Value) (us:List Value) (Q:VK),Inv X Zt σ H s->RelV x v->Vals xs us->r x xs H Q->
  wpAny (model X.prog X.w) X.A (call (.builtin id) (v::us)) (EP X Zt σ Q) X.xe s
section
variable{X:Cx}{a b:Expr}{ta tb:TE}{pos:Pos}
theorem HF{r:R2}(hr:IxR X r)(ha:PE X a ta)(hb:PE X b tb)(hs:sE b):PE X (.Subscript a b pos) (tOp r ta tb):=by
 intro Zt s σ H Q I h;exact Subscript_ (J0 ha hb I h λv u s2 x y H2 I2 rx ry q=>hr a b Zt s2 σ H2 x y v u Q I2 rx ry q (hs _ _))
inductive RIxLI(K:Frag)(x:V)(y:V)(H:Hp)(Q:VK):Prop
 |mk:∀p xs i v,(x=.ref p)->(y=.int i)->(SqL K H p xs)->(atI xs i=some v)->(Q v H)->RIxLI K x y H Q
def Kd(K:Frag):R2:=λx y H Q=>RIxLI K x y H Q
inductive RIxTI(K:Frag)(x:V)(y:V)(H:Hp)(Q:VK):Prop
 |mk:∀p xs i v,(x=.ref p)->(y=.int i)->(SqT K H p xs)->(atI xs i=some v)->(Q v H)->RIxTI K x y H Q
def Ke(K:Frag):R2:=λx y H Q=>RIxTI K x y H Q
theorem bA:IxR X (Kd X.K):=by
 intro value slice Zt s σ H x y v u Q I rx ry h hs;obtain⟨p,xs,i,z,rfl,rfl,hq,he,q⟩:=h;cases rx;obtain⟨t,rfl⟩:=ry;obtain⟨Zs,r,pl,hz⟩:=I.list hq;obtain⟨j,h1,h2,h3,h4,h5⟩:=xY he;obtain⟨w,ew,fE⟩:=r.get h2;have hl:=r.length;have hn:=nR
 have fin:EP X Zt σ Q w s:=⟨z,H,I,fE,q⟩
 by_cases h0:0<=i
 .have hj:i.toNat=j:=by
   rw[seqIndex_of h0 h5]at h1;exact zAl h1
  exact item_listR pl.isList h0 Zz (by rw[hj];simpa using ew) fin hs
 .have hj:(i+(Zs.toArray.size:Int)).toNat=j:=by
   rw[seqIndex_neg Zz h4]at h1;rw[zA8,<-hl];exact zAl h1
  exact subscriptTail_builtinR (x:=w) pl.isList.typeIs slot_list_getitem.lookup
   (wpAny_getItem_list_neg (Q:=λr s'=>r=w/\EP X Zt σ Q r s') pl.isList Zz (by rw[zA8]<;>lia) Zz (by rw[hj];simpa using ew) ⟨rfl,fin⟩) hs
theorem bR:IxR X (Ke X.K):=by
 intro value slice Zt s σ H x y v u Q I rx ry h hs;obtain⟨p,xs,i,z,rfl,rfl,hq,he,q⟩:=h;cases rx;obtain⟨t,rfl⟩:=ry;obtain⟨Zs,r,pl,hz⟩:=I.tuple hq;obtain⟨j,h1,h2,h3,h4,h5⟩:=xY he;obtain⟨w,ew,fE⟩:=r.get h2;have hl:=r.length;have hn:=nR
 have fin:EP X Zt σ Q w s:=⟨z,H,I,fE,q⟩
 exact subscriptTail_builtinR (x:=w) pl.typeIs slot_tuple_getitem.lookup
  (getItem_tuple (j:=j) (Q:=λr s'=>r=w/\EP X Zt σ Q r s') pl Zz Zz (by rw[zA8,<-hl];exact h1) (by simpa using ew) ⟨rfl,fin⟩) hs
theorem wG(Zs:List Value)(n j:Nat)(u:Value):Obj.mapSeq (·.setIfInBounds j u) {cls:=.type "list",data:=.seq Zs.toArray n}={cls:=.type "list",data:=.seq (Zs.set j u).toArray n}:=by
 simp[Obj.mapSeq]
theorem Inv.lst{Zt:List (Addr×Obj)}{p:Addr}(I:Inv X Zt σ H s)(h:H p=some (.lst xs)):
  ∃(Zs:List Value) (n:Nat),Vals xs Zs/\s.heap.get? p=some {cls:=.type "list",data:=.seq Zs.toArray n}/\xs.length<=sizeLine:=by
 obtain⟨z,Zs,n,r,e⟩:=I.hok p _ h;exact⟨Zs,n,r,e,z⟩
theorem Inv.lstUpd{Zt:List (Addr×Obj)}{p:Addr}{ys:List V}{Zs its':List Value}{n n':Nat}{f:Obj->Obj}(I:Inv X Zt σ H s)(h:H p=some (.lst xs))
  (ho:s.heap.get? p=some {cls:=.type "list",data:=.seq Zs.toArray n}) (hf:f {cls:=.type "list",data:=.seq Zs.toArray n}={cls:=.type "list",data:=.seq its'.toArray n'}) (r:Vals ys its') (hz:ys.length<=sizeLine) (t:Nat):
  Inv X Zt σ (upd H p (.lst ys)) {s with heap:=s.heap.update p f,toks:=t}:=by
 have e:(s.heap.update p f).get? p=some {cls:=.type "list",data:=.seq its'.toArray n'}:=by
  rw[Heap.get?_update_self f ho (by rw[hf]<;>rfl),hf]
 refine I.write (x:=p) (e:=p) (by rw[h];trivial) (.inl rfl) (λb u hb q=>(Heap.get?_update_other _ _ (Ne.symm hb)).trans q) ⟨_,e⟩ ?_;exact⟨hz,its',n',r,e⟩
inductive RSetLI(o:V)(i:V)(v:V)(H:Hp)(Q:Hp->Prop):Prop
 |mk:∀p xs k j,(o=.ref p)->(i=.int k)->(H p=some (.lst xs))->(ixN xs.length k=some j)->(Q (upd H p (.lst (xs.set j v))))->RSetLI  o i v H Q
def Kf:V->V->V->Hp->(Hp->Prop)->Prop:=λo i v H Q=>RSetLI  o i v H Q
theorem set_list:Fw X Kf:=by
 intro Zt s σ H o i v ov iv u Q I ro ri rv h;obtain⟨p,xs,k,j,rfl,rfl,hp,hj,q⟩:=h;cases ro;obtain⟨t,rfl⟩:=ri;obtain⟨Zs,n,r,ho,hz⟩:=I.lst hp;obtain⟨h1,h2,h3,h4⟩:=xX hj;have hl:=r.length;have hn:=nR
 have I':Inv X Zt σ (upd H p (.lst (xs.set j v))) {s with heap:=s.heap.update p (Obj.mapSeq (·.setIfInBounds j u))}:=
  I.lstUpd hp ho (wG Zs n j u) (r.set rv j) (by rw[List.length_set];exact hz) s.toks
 by_cases h0:0<=k
 .have hk:k.toNat=j:=by
   rw[seqIndex_of h0 h4]at h1;exact zAl h1
  exact PySem.W.ki_setAt ho h0 Zz (by rw[zA8,<-hl];exact h4) (by rw[hk];exact⟨_,I',q⟩)
 .have hk:(k+(Zs.toArray.size:Int)).toNat=j:=by
   rw[seqIndex_neg Zz h3]at h1;rw[zA8,<-hl];exact zAl h1
  exact PySem.W.ki_setBack ho Zz (by rw[zA8,<-hl];exact h3) Zz (by rw[hk];exact⟨_,I',q⟩)
theorem sG(lo hi:Option Int)(n:Nat):(sliceBounds lo hi none n).1=((HT.sIx n 0 lo:Nat):Int)/\(sliceBounds lo hi none n).2.1=((HT.sIx n n hi:Nat):Int)/\(sliceBounds lo hi none n).2.2=1:=by
 refine⟨?_,?_,rfl⟩
 .cases lo with
  |none=>simp[sliceBounds,HT.sIx]
  |some i=>
   simp only[sliceBounds,HT.sIx,Option.getD_none,show(1:Int)>0 by decide,if_true];by_cases h:i<0
   .simp only[h,if_true]<;>lia
   .simp only[h,if_false]<;>lia
 .cases hi with
  |none=>simp[sliceBounds,HT.sIx]
  |some i=>
   simp only[sliceBounds,HT.sIx,Option.getD_none,show(1:Int)>0 by decide,if_true];by_cases h:i<0
   .simp only[h,if_true]<;>lia
   .simp only[h,if_false]<;>lia
theorem pW(Zs:List Value)(lo hi:Option Int):slicePick Zs.toArray lo hi none=((Zs.drop (HT.sIx Zs.length 0 lo)).take (HT.sIx Zs.length Zs.length hi-HT.sIx Zs.length 0 lo)).toArray:=by
 obtain⟨h1,h2,h3⟩:=sG lo hi Zs.toArray.size;unfold slicePick;rw[h1,h2,h3];simp only[sliceRange_one,pick_run,List.size_toArray]<;>rfl
inductive RSlLI(K:Frag)(x:V)(lo:Option Int)(hi:Option Int)(H:Hp)(Q:VK):Prop
 |mk:∀a xs,(x=.ref a)->(SqL K H a xs)->(∀p,H p=none->Q (.ref p) (upd H p (.lst (iH xs lo hi))))->RSlLI K x lo hi H Q
def Kg(K:Frag):V->Option Int->Option Int->Hp->VK->Prop:=λx lo hi H Q=>RSlLI K x lo hi H Q
theorem sI:SlR X (Kg X.K):=by
 intro Zt s σ H x v vl vu lo hi sl Q I rx hs pl pu h;obtain⟨a,xs,rfl,hx,q⟩:=h;cases rx;obtain⟨Zs,r,ht,hz⟩:=I.list hx;have hlen:=r.length;refine⟨"list",_,slot_list_getitem.lookup,ht.isList.typeIs,?_⟩;refine wpAny_getItem_list_slice ht.isList hs pl pu .none Zy ?_ (by rw[zA8]<;>lia);rw[pW,<-hlen];refine⟨.ref s.heap.objs.size,_,I.laid (t':=s.toks) (o:=.lst (iH xs lo hi)) (λb ob q=>zAy _ q) (zA3 _) ?_,rfl,q _ (I.hok.fresh (zA3 _))⟩;exact⟨Zak (mj xs lo hi) hz,_,0,(r.drop (HT.sIx xs.length 0 lo)).take (HT.sIx xs.length xs.length hi-HT.sIx xs.length 0 lo),zB4 _ rfl⟩
theorem bY:dG X (.builtin "len") (λxs H Q=>∃p ys,xs=[.ref p]/\(SqL X.K H p ys\/SqT X.K H p ys)/\Q (.int ys.length) H):=by
 intro Zt s σ H xs us Q I r h;obtain⟨p,ys,rfl,hq,q⟩:=h;obtain⟨u,rfl,rx⟩:=vals1 r;cases rx;have hn:=nR;rcases hq with hq|hq
 .obtain⟨Zs,r',pl,hz⟩:=I.list hq;have hlen:=r'.length;exact Calls.call_len_list pl.isList (by simp only[List.size_toArray]<;>lia) ⟨.int ys.length,H,I.tok _,⟨s.toks+1,by rw[zA8,hlen]⟩,q⟩
 .obtain⟨Zs,r',pl,hz⟩:=I.tuple hq;have hlen:=r'.length;exact len_tuple pl (by simp only[List.size_toArray]<;>lia) ⟨.int ys.length,H,I.tok _,⟨s.toks+1,by rw[zA8,hlen]⟩,q⟩
theorem sJ:dG X (.type "list") (λxs H Q=>∃p ys,xs=[.ref p]/\(SqL X.K H p ys\/SqT X.K H p ys)/\∀l,H l=none->Q (.ref l) (upd H l (.lst ys))):=by
 intro Zt s σ H xs us Q I r h;obtain⟨p,ys,rfl,hq,q⟩:=h;obtain⟨u,rfl,rx⟩:=vals1 r;cases rx
 have fin:∀(Zs:List Value),Vals ys Zs->ys.length<=sizeLine->∀(h':Heap) (c':Nat),(∀b o',s.heap.get? b=some o'->h'.get? b=some o')->
   h'.get? s.heap.objs.size=some {cls:=.type "list",dict:=none,data:=.seq Zs.toArray c',slots:=#[]}->EP X Zt σ Q (.ref s.heap.objs.size) {s with heap:=h'}:=λZs r' hz h' c' kp e=>
  ⟨.ref s.heap.objs.size,_,I.laid (t':=s.toks) kp (zA3 _) (show ObjOk X.prog X.w _ h' _ (.lst ys)from⟨hz,Zs,c',r',e⟩),rfl,q _ (I.hok.fresh (zA3 _))⟩
 rcases hq with hq|hq
 .obtain⟨Zs,r',pl,hz⟩:=I.list hq;have hlen:=r'.length;obtain⟨o,ho,hc,n,hd⟩:=pl.isList;exact call_list_seq p (.inl rfl) ho hc hd (λh' c' kp e=>fin Zs r' hz h' c' kp e) (by simp only[List.size_toArray]<;>lia)
 .obtain⟨Zs,r',pl,hz⟩:=I.tuple hq;have hlen:=r'.length;obtain⟨o,ho,hc,n,hd⟩:=pl;exact call_list_seq p (.inr rfl) ho hc hd (λh' c' kp e=>fin Zs r' hz h' c' kp e) (by simp only[List.size_toArray]<;>lia)
theorem cP:dG X (.type "tuple") (λxs H Q=>∃p ys,xs=[.ref p]/\((SqL X.K H p ys/\∀l,H l=none->Q (.ref l) (upd H l (.tup ys)))\/(SqT X.K H p ys/\Q (.ref p) H))):=by
 intro Zt s σ H xs us Q I r h;obtain⟨p,ys,rfl,h⟩:=h;obtain⟨u,rfl,rx⟩:=vals1 r;cases rx;rcases h with⟨hq,q⟩|⟨hq,q⟩
 .obtain⟨Zs,r',pl,hz⟩:=I.list hq;have hlen:=r'.length;refine call_tuple_list pl.isList (λh' kp=>?_) (by simp only[List.size_toArray]<;>lia);have I1:Inv X Zt σ H {s with heap:=h'}:=I.kept (t':=s.toks) kp
  have I2:Inv X Zt σ (upd H h'.objs.size (.tup ys)) {s with heap:=h'.push {cls:=.type "tuple",data:=.seq Zs.toArray}}:=
   I1.laid (t':=s.toks) (λb o e=>zAy _ e) (zA3 _) (show ObjOk X.prog X.w _ _ _ (.tup ys)from⟨hz,Zs,r',IsTup.new _ _⟩)
  exact⟨.ref h'.objs.size,_,I2,rfl,q _ (I1.hok.fresh (zA3 _))⟩
 .obtain⟨Zs,r',pl,hz⟩:=I.tuple hq;exact call_tuple_same pl ⟨.ref p,H,I,rfl,q⟩
def tyV(K:Frag)(T:String)(x:V)(H:Hp):Prop:=match x with
 |.str _=>T="str"
 |.int _=>T="int"
 |.ref p=>(T="list"/\∃xs,SqL K H p xs)\/(T="tuple"/\∃o,K.lookup p=some o/\o.cls=.type "tuple"/\o.dict=none) \/
   (T="dict"/\((∃kvs,H p=some (.dK kvs))\/∃kvs,H p=some (.dT kvs)))\/(T="set"/\∃S n,H p=some (.set S n))
 |_=>False
theorem J8{Zt:List (Addr×Obj)}{T:String}{x:V}{v:Value}(I:Inv X Zt σ H s)(r:RelV x v)(ty:tyV X.K T x H):
  s.TypeIs v T/\∀a,v=.ref a->∃ob,s.heap.get? a=some ob/\ob.dict=none:=by
 cases x with
 |str z=>
  obtain⟨t,rfl⟩:=r;cases(show T="str" from ty);exact⟨typeIs_str s z t,λ_ e=>nomatch e⟩
 |int i=>
  obtain⟨t,rfl⟩:=r;cases(show T="int" from ty);exact⟨typeIs_int s i t,λ_ e=>nomatch e⟩
 |ref p=>
  cases r;rcases ty with⟨rfl,xs,hq⟩|⟨rfl,o,hk,hc,hd⟩|⟨rfl,hk⟩|⟨rfl,S,n,hk⟩
  .obtain⟨Zs,_,pl,_⟩:=I.list hq;refine⟨pl.isList.typeIs,λa e=>?_⟩;cases e;obtain⟨o,n,e,c,hd,_⟩:=pl;exact⟨o,e,hd⟩
  .refine⟨⟨o,I.kIn p o hk,hc⟩,λa e=>?_⟩;cases e;exact⟨o,I.kIn _ o hk,hd⟩
  .have z:∃o,s.heap.get? p=some o/\o.ExactDict:=by
    rcases hk with⟨kvs,hk⟩|⟨kvs,hk⟩
    .obtain⟨_,_,_,_,o,_,_,e,ex,_⟩:=I.hok p _ hk;exact⟨o,e,ex⟩
    .obtain⟨_,_,_,_,o,_,_,e,ex,_⟩:=I.hok p _ hk;exact⟨o,e,ex⟩
   obtain⟨o,e,ex⟩:=z;refine⟨⟨o,e,ex.1⟩,λa e2=>?_⟩;cases e2;exact⟨o,e,ex.2.1⟩
  .obtain⟨o,_,_,_,e,ex,_⟩:=I.hok p _ hk;refine⟨⟨o,e,ex.1⟩,λa e2=>?_⟩;cases e2;exact⟨o,e,ex.2.1⟩
 |_=>exact False.elim ty
def tBM(K:Frag)(T:String)(r:V->List V->Hp->VK->Prop)(to:TE)(t:TA):TE:=λσ H Q=>to σ H λx H1=>tyV K T x H1/\t σ H1 λxs H2=>r x xs H2 Q
variable{o e:Expr}{es:List Expr}{to:TE}{t:TA}{name:Str}{apos cv:Pos}{T id:String}{r:V->List V->Hp->VK->Prop}
theorem gC(pa:PlainAttrs T)(slot:Slot T name id)(P1:typeOf (.builtin id)=pure (.type "method_descriptor"))(hm:MtR X id r)(ho:PE X o to)(ha:PA X (e::es) t)
  (A6:attributeBase o name X.env (eval o X.env)=eval o X.env:=by rfl)
  (Fm:((backTo cv (starEach (e::es) X.env)).all (λx=>!x.1)&&(backToKw cv (keywordEach [] X.env)).all (λx=>x.1.isSome)
   && decide ((e::es).length+([]:List Keyword).length+(if([]:List Keyword).isEmpty then 0 else 1)<30))=true:=by rfl)
  (A7:(apos.endLine==cv.line)=true:=by rfl) (hs:starEach (e::es) X.env=(false,eval e X.env)::starEach es X.env:=by rfl) (u7:(backTo cv (starEach es X.env)).any (·.1)=false:=by rfl):
  PE X (.Call (.Attribute o name apos) (e::es) [] cv) (tBM X.K T r to t):=by
 intro Zt s σ H Q I h;refine wpAny_Call_method_late A6 Fm A7 rfl (thn (ho Zt s σ H _ I h) λv s1=>?_);rintro⟨x,H1,I1,r1,ty,q1⟩;obtain⟨h1,h2⟩:=J8 I1 r1 ty;refine⟨T,id,pa,slot,P1,h1,h2,?_⟩;have hA:=ha cv Zt s1 σ H1 _ I1 q1;rw[hs]at hA⊢;refine Calls.callWith_builtin (by show(false||(backTo cv (starEach es X.env)).any (·.1))=false;rw[u7]<;>rfl) (Calls.evalArgs_plain ?_);exact thn hA λus s2=>by rintro⟨vs,H2,I2,r2,q2⟩;exact hm Zt s2 σ H2 x vs v us Q I2 r1 r2 q2
end
def MtM(X:Cx)(id:String)(r:V->List V->Hp->VK->Prop):Prop:=
 ∀(Zt:List (Addr×Obj)) (s:Shared) (σ:St) (H:Hp) (x:V) (xs:List V) (v:Value) (us:List Value) (Q:VK),Inv X Zt σ H s->RelV x v->Vals xs us->r x xs H Q->
  wpAny (model X.prog X.w) X.A (call (.builtin id) (v::us)) (EP X Zt σ Q) X.xe s
theorem Vals.one:∀{x:V} {us:List Value},Vals [x] us->∃u,us=[u]/\RelV x u
 |_,_,.cons r .nil=>⟨_,rfl,r⟩
theorem Vals.zero:∀{us:List Value},Vals [] us->us=[]
 |_,.nil=>rfl
theorem Vals.reverse(h:Vals xs us):Vals xs.reverse us.reverse:=by
 induction h with
 |nil=>exact .nil
 |cons r t ih=>rw[List.reverse_cons,List.reverse_cons];exact Vals.append ih (.cons r .nil)
theorem Vals.rep(h:Vals xs us):∀k:Nat,Vals (List.replicate k xs).flatten (List.replicate k us).flatten
 |0=>.nil
 |k+1=>by
  rw[List.replicate_succ,List.replicate_succ,List.flatten_cons,List.flatten_cons];exact Vals.append h (Vals.rep h k)
theorem foldl_rep(Zs:List Value):∀(k:Nat) (acc:List Value),
  List.foldl (λx1 x2=>x1++x2) acc.toArray (List.replicate k Zs.toArray)=(acc++(List.replicate k Zs).flatten).toArray
 |0,acc=>by simp
 |k+1,acc=>by
  have e:acc.toArray++Zs.toArray=(acc++Zs).toArray:=by simp
  have e2:(acc++Zs)++(List.replicate k Zs).flatten=acc++(List.replicate (k+1) Zs).flatten:=by
   rw[List.replicate_succ,List.flatten_cons,zAf]
  rw[<-e2,<-foldl_rep Zs k (acc++Zs),<-e,List.replicate_succ,List.foldl_cons]
section
variable{X:Cx}{Zt:List (Addr×Obj)}{σ:St}{H:Hp}{s:Shared}{l b:Addr}{xs ys zs:List V}
theorem Inv.lset{Zs its':List Value}{n:Nat}{f:Array Value->Array Value}{t':Nat}(I:Inv X Zt σ H s)(hH:H l=some (.lst xs))
  (e:s.heap.get? l=some {cls:=.type "list",data:=.seq Zs.toArray n}) (hf:f Zs.toArray=its'.toArray) (hv:Vals ys its') (hz:ys.length<=sizeLine):
  Inv X Zt σ (upd H l (.lst ys)) {s with heap:=s.heap.update l (Obj.mapSeq f),toks:=t'}:=by
 have q:=PySem.IsL.update e f;rw[hf]at q;refine I.write (x:=l) (e:=l) (by rw[hH];exact trivial) (.inl rfl) (λb' u hb hu=>(Heap.get?_update_other s.heap (Obj.mapSeq f) (Ne.symm hb)).trans hu) ⟨_,q⟩ ?_;exact⟨hz,its',_,hv,q⟩
theorem Inv.lnew{Zs:List Value}{t':Nat}(I:Inv X Zt σ H s)(hv:Vals ys Zs)(hz:ys.length<=sizeLine):
  Inv X Zt σ (upd H s.heap.objs.size (.lst ys)) {s with heap:=s.heap.push {cls:=.type "list",data:=.seq Zs.toArray},toks:=t'}:=
 I.laid (λ_ _ q=>zAy _ q) (zA3 _) ⟨hz,Zs,0,hv,zB4 _ rfl⟩
theorem Inv.fresh(I:Inv X Zt σ H s):H s.heap.objs.size=none:=I.hok.fresh (zA3 _)
theorem Inv.lstM(I:Inv X Zt σ H s)(hH:H l=some (.lst xs)):xs.length<=sizeLine/\∃(Zs:List Value) (n:Nat),Vals xs Zs/\xs.length=Zs.length/\s.heap.get? l=some {cls:=.type "list",data:=.seq Zs.toArray n}:=by
 obtain⟨z,Zs,n,r,e⟩:=I.hok l _ hH;exact⟨z,Zs,n,r,r.length,e⟩
theorem nW{n:Nat}(h:n<=sizeLine):Builtin.List.listTooLong n=false:=by
 unfold Builtin.List.listTooLong;exact zB2 Zz
end
section
variable{X:Cx}
inductive RAppendI(x:V)(vs:List V)(H:Hp)(Q:VK):Prop
 |mk:∀l xs y,(x=.ref l)->(vs=[y])->(H l=some (.lst xs))->(xs.length<sizeLine)->(Q .non (upd H l (.lst (xs++[y]))))->RAppendI  x vs H Q
def FP:V->List V->Hp->VK->Prop:=λx vs H Q=>RAppendI  x vs H Q
theorem cN:MtM X "list.append" FP:=by
 intro Zt s σ H x vs v us Q I rx rv h;obtain⟨l,xs,y,rfl,rfl,hH,hz,q⟩:=h;cases rx;obtain⟨u,rfl,ru⟩:=rv.one;obtain⟨z,Zs,n,r,hl,e⟩:=I.lstM hH;refine call_meets F.slot_list_append ⟨_,e,rfl⟩ F.entry_list_append (F.args_list_append_2 _ _) (PySem.list_append l Zs.toArray n u (by rw[zA8];lia)) ⟨e,?_⟩;refine⟨.non,_,I.lset (its':=Zs++[u]) hH e Zy (r.append (.cons ru .nil)) ?_,rfl,q⟩;rw[zA2,List.length_singleton];lia
inductive RExtendI(x:V)(vs:List V)(H:Hp)(Q:VK):Prop
 |mk:∀l b xs zs,(x=.ref l)->(vs=[.ref b])->(H l=some (.lst xs))->(H b=some (.lst zs))->(xs.length+zs.length<=sizeLine)->(Q .non (upd H l (.lst (xs++zs))))->RExtendI  x vs H Q
def FQ:V->List V->Hp->VK->Prop:=λx vs H Q=>RExtendI  x vs H Q
theorem zU:MtM X "list.extend" FQ:=by
 intro Zt s σ H x vs v us Q I rx rv h;obtain⟨l,b,xs,zs,rfl,rfl,hH,hB,hz,q⟩:=h;cases rx;obtain⟨u,rfl,ru⟩:=rv.one;cases ru;obtain⟨z,Zs,n,r,hl,e⟩:=I.lstM hH;obtain⟨z2,cq,n2,r2,iX,e2⟩:=I.lstM hB;have hsz:Zs.toArray.size+cq.toArray.size<=sizeLine:=by rw[zA8,zA8];lia
 have gu:¬(!Zs.toArray.isEmpty&&Builtin.List.listTooLong (Zs.toArray.size+cq.toArray.size))=true:=by
  rw[nW hsz,Bool.and_false];exact zAg
 refine call_meets F.slot_list_extend ⟨_,e,rfl⟩ F.entry_list_extend (F.args_list_extend_2 _ _)
  (AutoSeq1.list_extend_list_list_0 l Zs.toArray n b cq.toArray n2 gu (by rw[zA8];lia) Zz) ⟨e,e2,?_⟩
 refine⟨.non,_,I.lset (its':=Zs++cq) hH e Zy (r.append r2) ?_,rfl,q⟩;rw[zA2];lia
inductive RCatI(x:V)(y:V)(H:Hp)(Q:VK):Prop
 |mk:∀l b xs zs,(x=.ref l)->(y=.ref b)->(H l=some (.lst xs))->(H b=some (.lst zs))->(xs.length+zs.length<=sizeLine)->(∀p,H p=none->Q (.ref p) (upd H p (.lst (xs++zs))))->RCatI  x y H Q
def Mt:R2:=λx y H Q=>RCatI  x y H Q
theorem J9:OpR X (binaryOp .Add) Mt:=by
 intro Zt s σ H x y v u Q I rx ry h;obtain⟨l,b,xs,zs,rfl,rfl,hH,hB,hz,q⟩:=h;cases rx;cases ry;obtain⟨z,Zs,n,r,hl,e⟩:=I.lstM hH;obtain⟨z2,cq,n2,r2,iX,e2⟩:=I.lstM hB;refine PySem.P.add_list e e2 ?_ (by rw[zA8,zA8];lia);have ea:Zs.toArray++cq.toArray=(Zs++cq).toArray:=by simp
 rw[ea];exact⟨.ref _,_,I.lnew (t':=s.toks) (r.append r2) (by rw[zA2];lia),rfl,q _ I.fresh⟩
inductive RRepI(x:V)(y:V)(H:Hp)(Q:VK):Prop
 |mk:∀l k xs,(x=.ref l)->(y=.int k)->(H l=some (.lst xs))->(-(2^63)<=k)->(k<2^63)->(xs.length*k.toNat<=sizeLine)->(∀p,H p=none->Q (.ref p) (upd H p (.lst (List.replicate k.toNat xs).flatten)))->RRepI  x y H Q
def Mu:R2:=λx y H Q=>RRepI  x y H Q
theorem len_rep{α:Type}(xs:List α)(k:Nat):(List.replicate k xs).flatten.length=k*xs.length:=by
 induction k with
 |zero=>simp
 |succ k ih=>rw[List.replicate_succ,List.flatten_cons,zA2,ih,Nat.succ_mul,Nat.add_comm]
theorem Ja:OpR X (binaryOp .Mult) Mu:=by
 intro Zt s σ H x y v u Q I rx ry h;obtain⟨l,k,xs,rfl,rfl,hH,h1,h2,hz,q⟩:=h;cases rx;obtain⟨t,rfl⟩:=ry;obtain⟨z,Zs,n,r,hl,e⟩:=I.lstM hH;have hlen:Zs.toArray.size*k.toNat<=sizeLine:=by rw[zA8,<-hl];exact hz
 have Fn:¬Zs.toArray.size*k.toNat>(2^63-1) / 8:=by
  have:(sizeLine:Nat)<=(2^63-1) / 8:=by decide
  lia
 have Fs:¬(!Builtin.List.listFitsIndex k)=true:=by
  rw[fitsIndex_both h1 h2];exact zAg
 have gu:¬Builtin.List.listTooLong (Zs.toArray.size*k.toNat)=true:=by
  rw[nW hlen];exact zAg
 have Fu:List.foldl (λx1 x2=>x1++x2) #[] (List.replicate (if Zs.toArray.isEmpty=true then 0 else k.toNat) Zs.toArray)=(List.replicate k.toNat Zs).flatten.toArray:=by
  have f0:∀m:Nat,List.foldl (λx1 x2=>x1++x2) #[] (List.replicate m Zs.toArray)=(List.replicate m Zs).flatten.toArray:=λm=>by
   have:=foldl_rep Zs m [];rw[List.nil_append]at this;exact this
  rw[f0]
  cases Zs with
  |nil=>simp
  |cons a r'=>rw[zAw Zy]
 refine wpAny_binaryOp_repeat_ref (T:="list") (U:="int") Zx ⟨_,e,rfl⟩ (λs'=>typeIs_int s' k t) noFill_list_mul F.fills_int_mul F.slot_int_rmul repeat_list F.slot_int_index.lookup
  (call_meets F.slot_int_rmul (typeIs_int s k t) F.entry_int_rmul (F.args_int_rmul_2 _ _) (int___rmul___int_list k t l Zs.toArray n)
   ⟨e,rfl,⟨_,e,rfl⟩,call_meets F.slot_list_mul ⟨_,e,rfl⟩ F.entry_list_mul (F.args_list_mul_2 _ _) (AutoListH.list___mul___list_int_3 l Zs.toArray n k t Fs Fn gu) ⟨e,?_⟩⟩)
 rw[Fu];exact⟨.ref _,_,I.lnew (t':=s.toks) (r.rep k.toNat) (by rw[len_rep,Nat.mul_comm];exact hz),rfl,q _ I.fresh⟩
end
section
variable{prog:Program}{w:World}{A:Around}{E:Value->Shared->Prop}{s:Shared}
set_option maxRecDepth 100000 in
end
section
variable{X:Cx}
end
end L2
namespace Att
open PySem PySem.W PySem.Calls PyProof.Rows
theorem mL{P:Params}{h:Heap}:∀(ns:PP) (vs:List Value),WellAll P h vs (ns.map WData.int)->IntsAre vs ns:=by
 intro ns
 induction ns with
 |nil=>
  intro vs w;rw[List.map_nil]at w;cases w;exact .nil
 |cons n ns ih=>
  intro vs w;rw[zAk]at w
  cases w with
  |cons a b=>
   cases a;exact .cons _ _ (ih _ b)
theorem zV{l:OpenLaw}{n:Nat}(hn:l.most=some n){P:Params}{h:Heap}{args:List WData}{vals:List Value}
  (ot:l.row.toRowW.claim.pre args=true) (FA:WellAll P h vals args):
  ∃a vs ns,vals=[Value.ref a]/\args=[WData.list (ns.map WData.int)]/\h.get? a=some {cls:=.type "list",data:=.seq vs.toArray}/\IntsAre vs ns/\ns.length<=n:=by
 have P2:WShape.hasAll [] args [.list .int]=true:=(pre_splitW ot).1;have hc:l.pre.holds [] {args:=args}=true:=(pre_splitW ot).2;obtain⟨d,r,rfl,h1,h2⟩:=hasAllW_cons P2;obtain rfl:=hasAllW_nil h2;obtain⟨xs,rfl,h3⟩:=hasW_list h1;obtain⟨ns,rfl⟩:=items_int h3
 have hlen:ns.length<=n:=by
  unfold OpenLaw.pre at hc
  have h4:(WTm.not (.lt (.lit (.int (n:Int))) (.len (.arg 0)))).holds [] {args:=[.list (ns.map .int)]}=true:=by
   have h4:=(holds_andW hc).1;rw[hn]at h4;exact h4
  have h5:=condW_of h4 (w_not (w_lt w_lit (w_len_list (w_arg rfl))));rw[zA1]at h5;refine Nat.le_of_not_lt λq=>?_;have q':(n:Int)<((ns.length:Nat):Int):=Zz
  first
   | (rw[zAt q']at h5;exact absurd h5 Zx)
   | (simp at h5;lia)
 cases FA with
 |cons w1 w2=>
  cases w2
  cases w1 with
  |list ho fF=>exact⟨_,_,ns,rfl,rfl,ho,mL ns _ fF,hlen⟩
theorem zW(l:OpenLaw)(args:List WData):l.row.toRowW.claim.post args (.bool true) args=true:=
 postW_of (r:=l.row.toRowW) (X:=(true==true))
  (show WShape.has [] (.bool true) .bool=true by first|rfl|decide|simp[WShape.has,WShape.arms,WShape.armsAll])
  (show(WTm.eq .res (.lit (.bool true))).value [] {args:=args,res:=some (.bool true),after:=args}=some (.bool (true==true))from w_eq_bool (w_res rfl) w_lit) rfl
theorem attach_call{l:OpenLaw}{n:Nat}{q:Program}{loose:List Str}{XP:(Str->Option Value)->Heap->Prop}{YP:World->Heap->Prop}{d:DefRec}
  (hn:l.most=some n) (A8:d.params.defaults=[])
  (call:∀(w:World) (s₀ s₁:Shared) (mg mb:Str->Option Value) (fa:Addr) (o:Obj) (pm cd doc:Value) (a:Addr) (vs:List Value) (ns:PP),
   Ground q loose [] XP w s₀ mg mb s₁.heap->YP w s₁.heap->
   s₁.heap.get? fa=some o->o.data=.func (docDef d.name d.params d.body d.scope pm cd doc)->s₁.heap.CodeRec cd d.name->mg d.name=some (.ref fa)->
   s₁.heap.get? a=some {cls:=.type "list",data:=.seq vs.toArray}->IntsAre vs ns->ns.length<=n->s₁.gens=#[]->
   codeAny (model l.prog w) callerA (.call (.ref fa) ⟨[.ref a],[]⟩) (λr s'=>r=.ok (.ret (.bool true))/\OldK s₁.heap s'.heap/\s'.os=s₁.os/\AllBare s'.gens) s₁):
  WalkO q loose XP YP l.row.toRowW d [] (λf vs=>PySem.call f vs):=by
 intro w s₀ s₁ mg mb G Y fa o pm cd doc dV kV ho hd kK hD hmg hg args vals as ot P4 kP FA fh;obtain rfl:dV=.none:=Dflts.none hD A8;obtain rfl:kV=.none:=Dflts.noKw hD;obtain⟨a,vs,ns,rfl,rfl,va,hints,hlen⟩:=zV hn ot FA;refine enter_call (codeAny_mono (call w s₀ s₁ mg mb fa o pm cd doc a vs ns G Y ho (fd_plain hd) kK hmg va hints hlen hg) λr s' hq=>?_);obtain⟨rfl,h2,h3,h4⟩:=hq;exact⟨.inl ⟨.bool true,.bool true,[],rfl,λ_=>rfl,.bool true,zW l _,λ_=>⟨List.Pairwise.nil,λ_ hm=>(nomatch hm)⟩⟩,h2,h3,h4⟩
section
variable{prog:Program}{w:World}{A:Around}{E:Value->Shared->Prop}{s:Shared}{K:Frag}
end
end Att
namespace L2
open PySem PySem.Spec PyProof.Rows
variable{f:Addr}{fd:FuncData}{H:Hp}{B:Prop}{qual:Str}
theorem lz:∀{vs:List Value} {ns:PP},IntsAre vs ns->Vals (ns.map V.int) vs
 |_,_,.nil=>.nil
 |_,_,.cons n t h=>.cons ⟨t,rfl⟩ (lz h)
def Only(H:Hp):Prop:=∀b,H b=none\/∃o xs,H b=some (.frz o (.lst xs))
theorem BR{P:Program}{w:World}{K:Frag}{mg mb:Str->Option Value}{CX:CXT}{k:Nat}{fa a:Addr}{x:Str}{sp:Sp}{s₁:Shared}{vs:List Value}{ns:PP}
  (KX:K.In s₁.heap) (Nl:s₁.heap.Ns mainGlobals mg) (hb:s₁.heap.Ns builtinsNs mb) (P5:∀x:Str,x≠"__name__"->mb x=bootBuiltins x) (FC:s₁.heap.NoLimit) (hg:s₁.gens=#[])
  (ha:s₁.heap.get? a=some {cls:=.type "list",data:=.seq vs.toArray}) (hi:IntsAre vs ns) (hl:ns.length<=sizeLine) (hr:Room k callerA)
  (F:∀base:Heap,K.In base->base.Ns mainGlobals mg->FnOk P w K mg base CX k fa fd [x] sp) (A9:∀(s:Shared) (u:Value),BindsTo s fd ⟨[u],[]⟩ [(x,u)])
  (nB:∀H:Hp,Only H->SqL K H a (ns.map V.int)->sp [.ref a] H (λv _=>v=.bl true) λ_ _ _=>False)
  (FD:∀H e s',CX [] H s₁ (λ_ _ _=>False) e s'->False):
  codeAny (model P w) callerA (.call (.ref fa) ⟨[.ref a],[]⟩) (λr s'=>r=.ok (.ret (.bool true))/\OldK s₁.heap s'.heap/\s'.os=s₁.os/\AllBare s'.gens) s₁:=by
 have rv:=lz hi;have FE:=hi.length
 have core:∀H:Hp,Only H->SqL K H a (ns.map V.int)->HOk P w H s₁.heap->(∀b,H b≠none->b=a)->(H a≠none->K.lookup a=none)->
   codeAny (model P w) callerA (.call (.ref fa) ⟨[.ref a],[]⟩) (λr s'=>r=.ok (.ret (.bool true))/\OldK s₁.heap s'.heap/\s'.os=s₁.os/\AllBare s'.gens) s₁:=by
  intro H hO hS hok hA hK;have iO:∀{b:Addr} {o:Obj},s₁.heap.get? b=some o->H b=none->(rY s₁.heap H).get? b=some o:=λe n=>Bv e n
  have A2:∀{b:Addr} {o:Obj} {es:Array DictEntry} {ep:Nat},s₁.heap.get? b=some o->o.data=.dict es ep->H b=none:=λ{b o es ep} e d=>by
   cases q:H b with
   |none=>rfl
   |some u=>
    have e':b=a:=hA b (by rw[q];simp);subst e';rw[ha]at e;cases e;have d':Data.seq vs.toArray _=Data.dict es ep:=d;cases d'
  have DZ:∀{b:Addr} {m:Str->Option Value},s₁.heap.Ns b m->(rY s₁.heap H).Ns b m:=λ{b m} ⟨o,es,ep,e,d,r⟩=>⟨o,es,ep,iO e (A2 e d),d,r⟩
  have Nn:K.In (rY s₁.heap H):=λb o e=>iO (KX b o e) (by
   cases q:H b with
   |none=>rfl
   |some u=>
    have e':b=a:=hA b (by rw[q];simp);subst e'
    rw[hK (by rw[q];simp)]at e;cases e)
  have hM:Mod K mg (rY s₁.heap H):=⟨Nn,DZ Nl,⟨mb,DZ hb,P5⟩,let⟨mc,h1,h2⟩:=FC;⟨mc,DZ h1,h2⟩⟩
  have e0:Env0 P w K mg (rY s₁.heap H) callerA [] s₁ H:=⟨rfl,hM,λb o e=>Fp e,Nat.le_of_eq (zH _ _),trivial,λb hb=>absurd (show b∈([]:List Addr)from hb) Zy,hok,.of_eq hg⟩
  refine codeAny_mono ((F _ Nn (DZ Nl)).run callerA [] s₁ H ⟨[.ref a],[]⟩ [.ref a] [.ref a] _ _ hr e0 (A9 s₁ (.ref a)) (.cons rfl .nil) (nB H hO hS)) λr s' h=>?_
  cases r with
  |error e=>exact(FD H e s' h).elim
  |ok fl=>
   cases fl with
   |next=>exact False.elim h
   |brk=>exact False.elim h
   |cont=>exact False.elim h
   |ret u=>
    obtain⟨v,H',os,bare,un,FF,r',q⟩:=h;have q':v=.bl true:=q;subst q';obtain rfl:u=Value.bool true:=r';refine⟨rfl,OldK.of_keep λb o e=>?_,os,bare⟩
    cases q:H b with
    |none=>exact un.keep b o e q (by intro z;exact absurd (show b∈([]:List Addr)from z) Zy) Zy
    |some u=>
     rcases hO b with z|⟨ob,xs,z⟩
     .rw[q]at z;cases z
     .have z2:=un.frzs b ob _ z;obtain⟨e1,_⟩:=hok b _ z;obtain⟨e2,_⟩:=FF b _ z2;rw[e]at e1;cases e1;exact e2
 cases hk:K.lookup a with
 |some o=>
  have e:=KX a o hk;rw[ha]at e;cases e;refine core (λ_=>none) (λ_=>.inl rfl) (.inr ⟨_,vs.toArray,_,hk,rfl,rfl,rfl,by rw[zA8,FE];exact hl,by simpa using rv⟩) (λb u z=>by have z':(none:Option HO)=some u:=z;cases z') (λb z=>absurd rfl z) λz=>absurd rfl z
 |none=>
  refine core (λb=>if b=a then some (.frz {cls:=.type "list",data:=.seq vs.toArray} (.lst (ns.map V.int)))else none) (λb=>?_) (.inl (.inr ⟨{cls:=.type "list",data:=.seq vs.toArray},zAx rfl⟩)) (λb u z=>?_) (λb z=>?_) λ_=>hk
  .by_cases hb:b=a
   .exact .inr ⟨_,_,zAx hb⟩
   .exact .inl (zAw hb)
  .by_cases hb:b=a
   .have z':=(zAx hb).symm.trans z;cases z';subst hb;exact⟨ha,by rw[zA1];exact hl,vs,_,rv,ha⟩
   .have z':=(zAw hb).symm.trans z;cases z'
  .by_cases hb:b=a
   .exact hb
   .exact absurd (zAw hb) z
theorem walk_of{l:PySem.W.OpenLaw}{n k:Nat}{q:Program}{loose:List Str}{XP:(Str->Option Value)->Heap->Prop}{YP:World->Heap->Prop}{d:DefRec}{K:Params->Frag}{CX:World->CXT}{sp:World->Sp}{x:Str}
  (hn:l.most=some n) (ve:n<=sizeLine) (A8:d.params.defaults=[]) (hr:Room k callerA)
  (hY:∀(w:World) (h:Heap),YP w h->(K w.params).In h)
  (F:∀(w:World) (mg:Str->Option Value) (fa:Addr) (h:Heap),(K w.params).In h->h.Ns mainGlobals mg->mg d.name=some (.ref fa)->
   ∃fd:FuncData,(∀(s:Shared) (u:Value),BindsTo s fd ⟨[u],[]⟩ [(x,u)]) /\
    ∀base:Heap,(K w.params).In base->base.Ns mainGlobals mg->FnOk l.prog w (K w.params) mg base (CX w) k fa fd [x] (sp w))
  (nB:∀(w:World) (H:Hp) (a:Addr) (ns:PP),ns.length<=n->Only H->SqL (K w.params) H a (ns.map V.int)->sp w [.ref a] H (λv _=>v=.bl true) λ_ _ _=>False)
  (FD:∀(w:World) (H:Hp) (s:Shared) (e:Value) (s':Shared),CX w [] H s (λ_ _ _=>False) e s'->False):
  PySem.W.WalkO q loose XP YP l.row.toRowW d [] (λf vs=>PySem.call f vs):=by
 refine Att.attach_call hn A8 λw s₀ s₁ mg mb fa o pm cd doc a vs ns G Y ho hd kK hmg va hints hlen hg=>?_;have KX:=hY w _ Y;obtain⟨fd,hb,hF⟩:=F w mg fa _ KX G.T.g hmg;exact BR KX G.T.g G.T.b G.T.builtins G.T.nolimit hg va hints (Zak hlen ve) hr hF hb (λH hO hS=>nB w H a ns hlen hO hS) λH e s'=>FD w H s₁ e s'
def gD(s:Stmt):Arguments:=match s with
 |.FunctionDef _ a _ _ _ _ _ _ _ _=>a
 |_=>{posonlyargs:=[],args:=[],vararg:=none,kwonlyargs:=[],kw_defaults:=[],kwarg:=none,defaults:=[]}
def fO(s:Stmt):List Stmt:=match s with
 |.FunctionDef _ _ b _ _ _ _ _ _ _=>b
 |_=>[]
def aJ(s:Stmt):Scope:=match s with
 |.FunctionDef _ _ _ _ _ _ sc _ _ _=>sc
 |_=>{kind:=.function,names:=[],isGenerator:=false,isCoroutine:=false}
abbrev CX0:CXT:=λ_ _ _ _ _ _=>False
abbrev E0:XK:=λ_ _ _=>False
theorem Kh{X:Cx}:wA CX0 X E0:=λ_ _ _ _ _ _ _ h=>h.elim
structure Fun(K:Frag)(x qual:Str)(st:Stmt)(f:Addr)(fd:FuncData):Prop where
 ex:∃(oc:Value) (od:Option Addr) (kV doc pm:Value) (an:Option Addr) (ay ct:Value) (rl:Array (Option Value)),
  fd=PySem.W.fnOf x qual (gD st) (fO st) (aJ st) .none kV doc pm an ay ct/\K.lookup f=some ⟨oc,od,.func fd,rl⟩/\PySem.W.codeIn K ay qual=true
 kp:PySem.W.keepIn K (.ref f)=true
section
variable{P:Program}{w:World}{K:Frag}{mg:Str->Option Value}{base:Heap}{f:Addr}{fd:FuncData}
theorem Fun.ok{x:Str}{st:Stmt}{N ps:List Str}{k:Nat}{sp:Sp}(F:Fun K x qual st f fd)(S:FnScope N ps (aJ st))(len:∀vs H Q E,sp vs H Q E->vs.length=ps.length)
  (kN:∀(ay:Value) (A:Around) (outer:List Env) (s:Shared) (H:Hp) (vs:List V) (Q:VK) (E:XK),Room k (A.deeper (envOfC qual (aJ st) s.heap.objs.size f ay))->sp vs H Q E->
   ∃t,PSs (zR CX0 P w K mg base N qual (aJ st) f ay A outer s H E).nox (fO st) t/\t {nx:=λ_ H'=>Q .non H',rt:=Q} (start N vs) H):FnOk P w K mg base CX0 (k+1) f fd ps sp:=by
 obtain⟨oc,od,kV,doc,pm,an,ay,ct,rl,rfl,lk,kK⟩:=F.ex;refine Ka lk kK S len λA outer s H vs Q E hr nB=>?_;obtain⟨t,h,q⟩:=kN ay A outer s H vs Q E hr nB;exact⟨t,h.nox,q⟩
theorem Fun.binds{x:Str}{st:Stmt}{ps:List Str}(F:Fun K x qual st f fd)
  (h:∀(kV doc pm:Value) (an:Option Addr) (ay ct:Value) (us:List Value),us.length=ps.length->bindArgs (PySem.W.fnOf x qual (gD st) (fO st) (aJ st) .none kV doc pm an ay ct) ⟨us,[]⟩=pure (ps.zip us)):Binds K fd ps []:=by
 obtain⟨oc,od,kV,doc,pm,an,ay,ct,rl,rfl,lk,kK⟩:=F.ex;exact .all (h kV doc pm an ay ct)
theorem BV{x:Str}{st:Stmt}{oc:Value}{od an:Option Addr}{rl:Array (Option Value)}{kV doc pm ay ct:Value}(l:K.lookup f=some ⟨oc,od,.func (PySem.W.fnOf x qual (gD st) (fO st) (aJ st) .none kV doc pm an ay ct),rl⟩)
  (c:PySem.W.codeIn K ay qual=true) (k:PySem.W.keepIn K (.ref f)=true):Fun K x qual st f (PySem.W.fnOf x qual (gD st) (fO st) (aJ st) .none kV doc pm an ay ct):=⟨⟨oc,od,kV,doc,pm,an,ay,ct,rl,rfl,l,c⟩,k⟩
end
theorem eO{A:Around}{k:Nat}(hr:Room k A):A.units+1<cLine:=Nat.lt_of_le_of_lt (Nat.add_le_add_left (by decide:1<=64) _) hr.units
section
variable{X:Cx}
theorem pv(i:Nat){x:Str}{pos:Pos}(hN:X.N[i]?=some x:=by rfl)(hv:Vis X.env.scope x:=by first|exact Or.inl rfl|exact Or.inr (Or.inl rfl)|exact Or.inr (Or.inr rfl))(hd:(x==("__debug__":Str))=false:=by decide)
  (kK:(x==("__classdict__":Str))=false:=by decide):PE X (.Name x pos) (Fq i):=Iz hN hv hd kK
end
theorem bZ{A:Prop}(h:B):if false=true then A else B:=by
 rw[zAw zAg];exact h
theorem cC{A:Prop}(h:A):if true=true then A else B:=by
 rw[zAx rfl];exact h
theorem BW{c A:Prop}[Decidable c](h1:c->A)(h2:¬c->B):if c then A else B:=by
 by_cases h:c
 .rw[zAx h];exact h1 h
 .rw[zAw h];exact h2 h
def Same(H H':Hp):Prop:=∀b o,H b=some o->H' b=some o
theorem Same.refl(H:Hp):Same H H:=λ_ _ h=>h
theorem Same.trans{H1 H2:Hp}(a:Same H H1)(b:Same H1 H2):Same H H2:=λc o h=>b c o (a c o h)
theorem Same.free{H':Hp}(e:Same H H'){l:Addr}(h:H' l=Option.none):H l=Option.none:=by
 cases q:H l with
 |none=>rfl
 |some o=>
  rw[e l o q]at h;cases h
theorem Same.seq{K:Frag}{H':Hp}{a:Addr}{xs:List V}(e:Same H H')(h:SqL K H a xs):SqL K H' a xs:=by
 rcases h with(h|⟨o,h⟩)|h
 .exact .inl (.inl (e _ _ h))
 .exact .inl (.inr ⟨o,e _ _ h⟩)
 .exact .inr h
end L2
inductive Xe3{A B C:Type}(p:A->B->C->Prop):Prop
 |mk:∀a b c,p a b c->Xe3 p
inductive Xe4{A B C D:Type}(p:A->B->C->D->Prop):Prop
 |mk:∀a b c d,p a b c d->Xe4 p
inductive Xe5{A B C D E:Type}(p:A->B->C->D->E->Prop):Prop
 |mk:∀a b c d e,p a b c d e->Xe5 p
inductive Xe6{A B C D E F:Type}(p:A->B->C->D->E->F->Prop):Prop
 |mk:∀a b c d e f,p a b c d e f->Xe6 p
inductive Xe7{A B C D E F G:Type}(p:A->B->C->D->E->F->G->Prop):Prop
 |mk:∀a b c d e f g,p a b c d e f g->Xe7 p
inductive Xe8{A B C D E F G H:Type}(p:A->B->C->D->E->F->G->H->Prop):Prop
 |mk:∀a b c d e f g h,p a b c d e f g h->Xe8 p
inductive Xe9{A B C D E F G H I:Type}(p:A->B->C->D->E->F->G->H->I->Prop):Prop
 |mk:∀a b c d e f g h i,p a b c d e f g h i->Xe9 p
inductive Xe14{A B C D E F G H I J K L M N:Type}(p:A->B->C->D->E->F->G->H->I->J->K->L->M->N->Prop):Prop
 |mk:∀a b c d e f g h i j k l m n,p a b c d e f g h i j k l m n->Xe14 p
inductive Xa2(a b:Prop):Prop
 |mk:a->b->Xa2 a b
inductive Xa3(a b c:Prop):Prop
 |mk:a->b->c->Xa3 a b c
inductive Xa4(a b c d:Prop):Prop
 |mk:a->b->c->d->Xa4 a b c d
inductive Xa5(a b c d e:Prop):Prop
 |mk:a->b->c->d->e->Xa5 a b c d e
inductive Xa6(a b c d e f:Prop):Prop
 |mk:a->b->c->d->e->f->Xa6 a b c d e f
inductive Xa7(a b c d e f g:Prop):Prop
 |mk:a->b->c->d->e->f->g->Xa7 a b c d e f g
inductive Xa8(a b c d e f g h:Prop):Prop
 |mk:a->b->c->d->e->f->g->h->Xa8 a b c d e f g h
namespace L2
open PySem PySem.Spec PyProof.Rows
variable{S:Addr->Prop}{X:Cx}{br:Env}{elt iter tg:Expr}{H H':Hp}{J:It}{kvs:List (Key×V)}{xs:List (List Key×Addr×Value)}{fp:List Addr}{ifs:List Expr}{ds:List PyData}{pos':Pos}{P:Program}{s:Shared}{σ:St}{te:TE}{tt:TT}{v:V}{E:Value->Shared->Prop}
def dC(cells:List (Str×Addr)):List (Str×NameKind)->List (Str×Addr)->List (Str×Addr)
 |[],acc=>acc
 | (n,k)::r,acc=>dC cells r (if k=.free then(n,(cells.lookup n).getD 0)::acc else acc)
theorem qK{env:Env}:∀(l:List (Str×NameKind)) (acc:List (Str×Addr)),(∀p∈l,p.2=NameKind.free->(env.cells.lookup p.1).isSome=true)->
  (forIn l acc λ(x:Str×NameKind) (r:List (Str×Addr))=>(if(x.2==NameKind.free)=true then do let a <-cellOf env x.1;pure (ForInStep.yield ((x.1,a)::r))else pure (ForInStep.yield r):Sem (ForInStep (List (Str×Addr)))))=pure (dC env.cells l acc)
 |[],acc,_=>rfl
 | (n,k)::r,acc,h=>by
  rw[List.forIn_cons];have ih:=λa=>qK (env:=env) r a λp hp=>h p (Za2 _ hp);by_cases hk:k=.free
  .subst hk;have hs:=h (n,.free) Za1 rfl;obtain⟨c,hc⟩:=Option.isSome_iff_exists.mp hs;have e1:cellOf env n=pure c:=by unfold cellOf;rw[show env.cells.lookup n=some c from hc]
   have e2:dC env.cells ((n,.free)::r) acc=dC env.cells r ((n,c)::acc):=by
    show dC env.cells r (if NameKind.free=NameKind.free then(n,(env.cells.lookup n).getD 0)::acc else acc)=_;rw[zAx rfl,show env.cells.lookup n=some c from hc];rfl
   rw[e2];simp only[beq_self_eq_true,if_true,e1,pure_bind];exact ih _
  .have hb:(k==NameKind.free)=false:=by simpa using hk
   have e2:dC env.cells ((n,k)::r) acc=dC env.cells r acc:=by
    show dC env.cells r (if k=NameKind.free then _ else acc)=_;rw[zAw hk]
   rw[e2];simp only[hb,Bool.false_eq_true,if_false,pure_bind];exact ih _
theorem mY{scope:Scope}{env:Env}(h:∀p∈scope.names,p.2=NameKind.free->(env.cells.lookup p.1).isSome=true):closureFor scope env=pure (dC env.cells scope.names []):=by
 have e:=qK (env:=env) scope.names [] h;unfold closureFor;simp only[bind_pure];exact e
theorem nY{cells:List (Str×Addr)}{x:Str}{c:Addr}:∀(l:List (Str×NameKind)) (acc:List (Str×Addr)),(∀p∈l,p.2=NameKind.free->(cells.lookup p.1).isSome=true)->(dC cells l acc).lookup x=some c->
  acc.lookup x=some c\/cells.lookup x=some c
 |[],_,_,h=>.inl h
 | (n,k)::r,acc,hf,h=>by
  have h':(dC cells r (if k=.free then(n,(cells.lookup n).getD 0)::acc else acc)).lookup x=some c:=h;rcases nY r _ (λp hp=>hf p (Za2 _ hp)) h' with e|e
  .by_cases hk:k=.free
   .rw[zAx hk]at e;obtain⟨d,hd⟩:=Option.isSome_iff_exists.mp (hf (n,k) Za1 hk);rw[show cells.lookup n=some d from hd]at e;rw[List.lookup_cons]at e
    cases hx:x==n with
    |true=>
     rw[hx]at e;have:x=n:=by simpa using hx
     subst this;exact .inr (hd.trans (by simpa using e))
    |false=>
     rw[hx]at e;exact .inl e
   .rw[zAw hk]at e;exact .inl e
  .exact .inr e
theorem nZ{cells:List (Str×Addr)}{x:Str}:∀(l:List (Str×NameKind)) (acc:List (Str×Addr)),((∃k,(x,k)∈l/\k=NameKind.free)\/(∃c,acc.lookup x=some c))->∃c,(dC cells l acc).lookup x=some c
 |[],_,h=>by
  rcases h with⟨k,hk,_⟩|h
  .exact absurd hk Zy
  .exact h
 | (n,k)::r,acc,h=>by
  show ∃c,(dC cells r (if k=.free then(n,(cells.lookup n).getD 0)::acc else acc)).lookup x=some c;refine nZ r _ ?_;rcases h with⟨k',hk,e⟩|⟨c,hc⟩
  .rcases zAo.mp hk with z|z
   .cases z;refine .inr ?_;rw[zAx e];exact⟨_,by rw[List.lookup_cons,beq_self_eq_true]⟩
   .exact .inl ⟨k',z,e⟩
  .refine .inr ?_;by_cases hk:k=.free
   .rw[zAx hk,List.lookup_cons]
    cases hx:x==n with
    |true=>exact⟨_,rfl⟩
    |false=>exact⟨c,hc⟩
   .rw[zAw hk];exact⟨c,hc⟩
theorem mq{scope:Scope}{env:Env}{x:Str}{k:NameKind}(hc:∀p∈scope.names,p.2≠NameKind.cell)(h:(relabel scope env).names.lookup x=some k)(hk:k=.cell\/k=.free):∃k',(x,k')∈scope.names/\k'=NameKind.free:=by
 have m:=PySem.mem_of_lookup h;obtain⟨⟨n,k0⟩,hm,e⟩:=zA5.mp m;dsimp only at e;split at e
 .rename_i c
  cases e
  have:(k0==NameKind.free)=true:=by
   cases q:(k0==NameKind.free)with
   |true=>rfl
   |false=>rw[q]at c;simp at c
  exact⟨k0,hm,by simpa using this⟩
 .cases e;rcases hk with z|z
  .exact absurd z (hc _ hm)
  .exact⟨_,hm,z⟩
def cxC(X:Cx)(scope:Scope)(Nc:List Str)(C:Addr)(fp:List Addr)(Zt:List (Addr×Obj))(s₂:Shared)(H₂:Hp):Cx where
 prog:=X.prog
 w:=X.w
 K:=X.K
 mg:=X.mg
 base:=X.base
 A:=X.A
 N:=Nc
 s₀:=s₂
 H₀:=H₂
 env:=compEnvC scope (dC X.env.cells scope.names []) C X.env
 outer:=X.stack
 stack:=X.stack
 ex:=fp
 fn:=λ_=>false
 calm:=X.calm
 pn:=X.pn++Zt
 xe:=λ_ _=>False
def Caps(X:Cx)(br:Env):List Str->List (Option Nat)->Prop
 |[],[]=>True
 |_::N,none::r=>Caps X br N r
 |x::N,some i::r=>(X.N[i]?=some x/\(X.env.kindOf x=some .cell\/X.env.kindOf x=some .free)/\br.cells.lookup x=X.env.cells.lookup x/\(br.kindOf x=some .cell\/br.kindOf x=some .free))/\Caps X br N r
 |_,_=>False
def capσ(σ:St)(src:List (Option Nat)):St:=src.map λo=>match o with|none=>none|some i=>(σ[i]?).join
theorem Caps.len:∀{N:List Str} {src:List (Option Nat)},Caps X br N src->src.length=N.length
 |[],[],_=>rfl
 |[],_::_,h=>h.elim
 |_::_,[],h=>h.elim
 |_::N,none::r,h=>by
  have h':Caps X br N r:=h;have:=Caps.len (N:=N) (src:=r) h';simp[this]
 |_::N,some _::r,h=>by
  have:=Caps.len (N:=N) (src:=r) h.2;simp[this]
theorem Caps.get{x:Str}:∀{N:List Str} {src:List (Option Nat)} {j i:Nat},Caps X br N src->N[j]?=some x->src[j]?=some (some i)->
  X.N[i]?=some x/\(X.env.kindOf x=some .cell\/X.env.kindOf x=some .free)/\br.cells.lookup x=X.env.cells.lookup x/\(br.kindOf x=some .cell\/br.kindOf x=some .free)
 |[],[],_,_,_,e,_=>by simp at e
 |[],_::_,_,_,h,_,_=>h.elim
 |_::_,[],_,_,h,_,_=>h.elim
 |_::_,none::_,0,_,_,_,e=>by simp at e
 |_::N,none::r,j+1,_,h,e1,e2=>by
  have h':Caps X br N r:=h;exact Caps.get (N:=N) (src:=r) (j:=j) h' (by simpa using e1) (by simpa using e2)
 |_::_,some _::_,0,_,h,e1,e2=>by
  simp at e1 e2;subst e1 e2;exact h.1
 |_::_,some _::_,j+1,_,h,e1,e2=>Caps.get (j:=j) h.2 (by simpa using e1) (by simpa using e2)
structure CScope(X:Cx)(scope:Scope):Prop where
 kind:scope.kind=.function
 cell:scope.names.all (λp=>p.2 != .cell)=true
 names:scope.names.all (λp=>p.2 != .local||scope.names.lookup p.1==some .local)=true
 free:scope.names.all (λp=>p.2 != .free||(X.env.cells.lookup p.1).isSome)=true
section
variable{X:Cx}{scope:Scope}
theorem CScope.hcell(S:CScope X scope):∀p∈scope.names,p.2≠NameKind.cell:=λp hp=>by
 have:=Zaf.mp S.cell p hp;simpa using this
theorem CScope.hnames(S:CScope X scope):∀p∈scope.names,p.2=.local->scope.names.lookup p.1=some .local:=λp hp e=>by
 have:=Zaf.mp S.names p hp;simpa[e]using this
theorem CScope.hfree(S:CScope X scope):∀p∈scope.names,p.2=NameKind.free->(X.env.cells.lookup p.1).isSome=true:=λp hp e=>by
 have:=Zaf.mp S.free p hp;simpa[e]using this
end
def PTs(X:Cx)(ifs:List Expr)(t:TT):Prop:=
 ∀(Zt:List (Addr×Obj)) (s:Shared) (σ:St) (H:Hp) (Q:Bool->Hp->Prop),Inv X Zt σ H s->t σ H Q->
  wpAny (model X.prog X.w) X.A (forIn ifs true λc r=>if r=true then do let ok <-isTrue c X.env (eval c X.env);pure (ForInStep.yield ok)else pure (ForInStep.yield r)) (TP X Zt σ Q) X.xe s
def sO:TT:=λ_ H Q=>Q true H
theorem bx:PTs X [] sO:=λ_ _ _ H _ I h=>wpAny_tests_nil ⟨H,I,h⟩
theorem fP{c:Expr}{t:TT}(h:PT X c t):PTs X [c] t:=λZt s σ H Q I q=>wpAny_tests_one (h Zt s σ H Q I q)
def jm(J:It)(g:TG)(tt:TT)(te:TE)(Fin:List V->Hp->Prop)(cE:St)(H0:Hp):Prop:=
 ∃W:Nat->Nat->List V->St->Hp->Prop,(∃m,W 0 m [] cE H0)/\∀i m ys σ H,W i m ys σ H->ys.length<sizeLine /\
  ((J.stop i H/\Fin ys H)\/(J.go i H/\∀x H',J.yld i H x H'->g x σ H' λaS H2=>tt aS H2 λb H3=>
   if b=true then te aS H3 λy H4=>∃m',m'<m/\W (i+1) m' (ys++[y]) aS H4 else ∃m',m'<m/\W (i+1) m' ys aS H3))
abbrev TM:=List V->St->Hp->(List V->St->Hp->Prop)->Prop
abbrev pZ(us:List Value)(k:Nat):Obj:={cls:=.type "list",data:=.seq us.toArray k}
def Apart(X:Cx)(D:Addr):Prop:=D≠X.env.locals/\D∉X.fs/\X.s₀.heap.objs.size<=D/\(∀x c,X.env.cells.lookup x=some c->c≠D)/\∀p∈X.pn,p.1≠D
structure Fil(X:Cx)(Zt:List (Addr×Obj))(D:Addr)(σ:St)(H:Hp)(s:Shared)(ys:List V):Prop where
 inv:Inv X Zt σ H s
 nD:H D=none
 np:∀p∈Zt,p.1≠D
 obj:∃us k,s.heap.get? D=some (pZ us k)/\Vals ys us
def PM(X:Cx)(D:Addr)(M:Sem Fin->Sem Fin)(tm:TM):Prop:=
 ∀(Zt:List (Addr×Obj)) (s:Shared) (σ:St) (H:Hp) (Q:List V->St->Hp->Prop) (ys:List V),Fil X Zt D σ H s ys->ys.length<sizeLine->tm ys σ H Q->∀(c:Sem Fin) (R:Fin->Shared->Prop) (E:Value->Shared->Prop),
  (∀s' cK av H',Fil X Zt D av H' s' cK->Q cK av H'->wpAny (model X.prog X.w) X.A c R E s')->wpAny (model X.prog X.w) X.A (M c) R E s
def tmE(te:TE):TM:=λys σ H Q=>te σ H λy H'=>Q (ys++[y]) σ H'
def FT(elt:Expr)(D:Addr)(env:Env):Sem Fin->Sem Fin:=λc=>(do let _ <-call (.builtin "list.append") [.ref D,<-eval elt env])>>=λ_=>c
theorem thx{α:Type}{t:Sem α}{Q Q':α->Shared->Prop}{M:Model}{A:Around}(h:wpAny M A t Q (λ_ _=>False) s)(hQ:∀a s,Q a s->Q' a s):wpAny M A t Q' E s:=wpAny_mono h hQ λ_ _ x=>x.elim
theorem wH{D:Addr}(ap:Apart X D)(hx:X.xe=λ_ _=>False)(he:PE X elt te):PM X D (FT elt D X.env) (tmE te):=by
 intro Zt s σ H Q ys F hsz h c R E hc;obtain⟨I,nD,np,us,k,oD,rv⟩:=F;obtain⟨a1,a2,a3,a4,a5⟩:=ap
 have I':Inv X (Zt++[(D,pZ us k)]) σ H s:=I.pins_of λp hp=>(zA6.mp hp).elim (λz=>I.pin p (zB1 _ z)) λz=>by
  rw[Zae.mp z];exact⟨oD,nD,a1,a2,λv z=>by cases z⟩
 have D0:=he _ s σ H _ I' h;rw[hx]at D0;refine zAv (zAv (thx D0 λxv s8=>?_));rintro⟨y,H8,I8,r8,q8⟩;have pD:=I8.pin (D,pZ us k) (zB1 _ (zB1 _ (Zae.mpr rfl)));refine zAv (append_at (hsz:=by rw[zA8,<-rv.length];exact Nat.le_of_lt hsz) pD.1 λh9 P6 P7=>zAz ?_);refine hc _ _ _ _ ⟨I8.unpinned.turned (t':=s8.toks) (λb o hb e=>P6.extBut b o hb e) pD.2.1 a1 (.inr a3) a4 λp hp=>?_,pD.2.1,np,us++[xv],k+1,?_,rv.append (.cons r8 .nil)⟩ q8
 .exact(zA6.mp hp).elim (a5 p) (np p)
 .show h9.get? D=_;rw[P7,List.push_toArray]
def uF(J:It)(g:TG)(tt:TT)(tm:TM)(Fin:List V->St->Hp->Prop)(D1:List V)(cE:St)(H0:Hp):Prop:=
 ∃W:Nat->Nat->List V->St->Hp->Prop,(∃m,W 0 m D1 cE H0)/\∀i m ys σ H,W i m ys σ H->ys.length<sizeLine /\
  ((J.stop i H/\Fin ys σ H)\/(J.go i H/\∀x H',J.yld i H x H'->g x σ H' λaS H2=>tt aS H2 λb H3=>
   if b=true then tm ys aS H3 λcK av H4=>∃m',m'<m/\W (i+1) m' cK av H4 else ∃m',m'<m/\W (i+1) m' ys aS H3))
def my(tg:Expr)(ifs:List Expr)(p:Pos)(it:Value)(env:Env)(M:Sem Fin->Sem Fin)(c:Sem Fin):Sem Fin:=do
 standAt p
 match <-pyNext it with
 |none=>pure (.done .next)
 |some v=>
  letOwnedTupleGo tg it v
  assign tg env v
  let ok <-forIn ifs true λc r=>if r=true then do let ok <-isTrue c env (eval c env);pure (ForInStep.yield ok)else pure (ForInStep.yield r)
  if ok=true then M c else c
theorem BX{gens:List Comprehension}{scope:Scope}{pos p:Pos}{d:Nat}{it D:Addr}{M:Sem Fin->Sem Fin}{g:TG}{tm:TM}(hc:X.calm=true)(hx:X.xe=λ_ _=>False)
  (ap:Apart X D) (ht:compTurn (.ListComp elt gens scope pos) d (.ref it) (.ref D) X.env=my tg ifs p (.ref it) X.env M (again (.compLoop (.ListComp elt gens scope pos) d (.ref it) (.ref D) X.env)))
  (hg:PG X tg g) (ja:PTs X ifs tt) (hm:PM X D M tm)
  {Zt:List (Addr×Obj)}    {ys:List V}  {tn:Nat->Heap->Prop}  (F:Fil X Zt D σ H s ys) (T:Turn X.prog X.w X.K tg J fp it tn) (st:tn 0 s.heap) (hf:∀b∈fp,iG X Zt H b/\b≠D)
  {Q:List V->St->Hp->Prop} (hW:uF J g tt tm Q ys σ H) {R:Result->Shared->Prop} (hR:∀s' cK av H',Fil X Zt D av H' s' cK->cK.length<sizeLine->Q cK av H'->R (.ok .next) s'):
  codeAny (model X.prog X.w) X.A (.compLoop (.ListComp elt gens scope pos) d (.ref it) (.ref D) X.env) R s:=by
 obtain⟨W,⟨m0,w0⟩,step⟩:=hW;refine codeAny_loop rfl (λn s'=>∃i ys av H',Fil X Zt D av H' s' ys/\tn i s'.heap/\(∀b∈fp,H' b=none)/\W i n ys av H') (λn s3 hI=>?_) m0 ⟨0,ys,σ,H,F,st,λb hb=>(hf b hb).1.1,w0⟩;obtain⟨i,ys,iF,H3,⟨I3,hJ,np,us,k,P8,vi⟩,iL,AZ,w3⟩:=hI;show wpAny _ _ ((compTurn (.ListComp elt gens scope pos) d (.ref it) (.ref D) X.env).onRaise (λx=>do noteFrame x X.env;theTreesLotGoes x)) _ _ s3;refine wpAny_noted ?_;rw[ht];obtain⟨a1,a2,a3,a4,a5⟩:=ap;obtain⟨hsz,vj⟩:=step i n ys iF H3 w3
 have Nw:Inv X (Zt++[(D,pZ us k)]) iF H3 s3:=I3.pins_of λp hp=>(zA6.mp hp).elim (λz=>I3.pin p (zB1 _ z)) λz=>by
  rw[Zae.mp z];exact⟨P8,hJ,a1,a2,λv z=>by cases z⟩
 have vn:∀{H':Hp},(∀b∈fp,H' b=none)->∀b∈fp,iG X (Zt++[(D,pZ us k)]) H' b:=λ{H'} hn b hb=>by
  obtain⟨⟨_,f1,f2,f3,f4,f5⟩,f6⟩:=hf b hb;refine⟨hn b hb,f1,f2,f3,f4,λq hq=>?_⟩;rw[<-zAf]at hq;rcases zA6.mp hq with z|z
  .exact f5 q z
  .rw[Zae.mp z];exact f6.symm
 refine zAv (wpAny_standAt (zAv ?_));rcases vj with⟨stop,fin⟩|⟨go,turn⟩
 .refine thx (T.done X rfl rfl rfl hc i _ s3 iF H3 (λ_ _=>False) Nw (vn AZ) iL stop) λr s4=>?_;rintro⟨hr,I4⟩;subst hr;have pD:=I4.pin (D,pZ us k) (zB1 _ (zB1 _ (Zae.mpr rfl)));exact zAz (hR s4 ys iF H3 ⟨I4.unpinned,hJ,np,us,k,pD.1,vi⟩ hsz fin)
 .refine thx (T.item X rfl rfl rfl hc i _ s3 iF H3 (λ_ _=>False) Nw (vn AZ) iL go) λr s4=>?_;rintro⟨u,hr,h4⟩;subst hr;refine zAv (thx h4 λ_ s5=>?_);rintro⟨x,H5,I5,r5,y5,ui,E7⟩;have E8:=I5.pinned (vn E7) (T.obj _ _ ui);have NA:=hg _ s5 iF H5 x u _ E8 r5 (turn x H5 y5);rw[hx]at NA;refine zAv (thx NA λ_ s6=>?_);rintro⟨y8,H6,I6,q6⟩;have fI:=ja _ s6 y8 H6 _ I6 q6;rw[hx]at fI;refine zAv (thx fI λokb s7=>?_);rintro⟨H7,I7,q7⟩;have pD:=I7.pin (D,pZ us k) (zB1 _ (List.mem_append_left _ (zB1 _ (Zae.mpr rfl))));have NC:Inv X (Zt++jq fp s5.heap) y8 H7 s7:=I7.pins_of λq hq=>(zA6.mp hq).elim (λz=>I7.pin q (zB1 _ (List.mem_append_left _ (List.mem_append_left _ z)))) λz=>I7.pin q (zB1 _ (zB1 _ z));have ND:∀q∈Zt++jq fp s5.heap,q.1≠D:=λq hq=>(zA6.mp hq).elim (np q) λz=>(hf _ (qD z).1).2
  have back:∀{H8:Hp} {s8:Shared} {Bi:St} {Bn:List V},Fil X (Zt++jq fp s5.heap) D Bi H8 s8 Bn->Fil X Zt D Bi H8 s8 Bn/\tn (i+1) s8.heap/\∀b∈fp,H8 b=none:=λ{H8 s8 Bi Bn} F8=>by
   obtain⟨I8,n8,_,o8⟩:=F8;have pf:∀b∈fp,∀o,s5.heap.get? b=some o->s8.heap.get? b=some o:=λb hb o e=>(I8.pin (b,o) (zB1 _ (zB1 _ (ie hb e)))).1;refine⟨⟨I8.unpinned,n8,np,o8⟩,T.keep _ _ _ ui pf,λb hb=>?_⟩;obtain⟨o,e,_⟩:=T.obj _ _ ui b hb;exact(I8.pin (b,o) (zB1 _ (zB1 _ (ie hb e)))).2.1
  cases okb with
  |false=>
   obtain⟨m',FG,w7⟩:=q7;obtain⟨b1,b2,b3⟩:=back ⟨NC,pD.2.1,ND,us,k,pD.1,vi⟩;exact zAz ⟨rfl,m',FG,i+1,ys,y8,H7,b1,b2,b3,w7⟩
  |true=>
   refine hm _ s7 y8 H7 _ ys ⟨NC,pD.2.1,ND,us,k,pD.1,vi⟩ hsz q7 _ _ _ λs8 Bn Bi H8 F8 q8=>?_;obtain⟨m',FG,w8⟩:=q8;obtain⟨b1,b2,b3⟩:=back F8;exact zAz ⟨rfl,m',FG,i+1,Bn,Bi,H8,b1,b2,b3,w8⟩
theorem o9{prog:Program}{w:World}{A:Around}{R:Result->Shared->Prop}{gens:List Comprehension}{c:Comprehension}{scope:Scope}{pos:Pos}{d:Nat}{it acc:Value}{env:Env}(hd:gens[d]?=some c)(ha:c.is_async=0)
  (h0:codeAny (model prog w) A (.compLoop (.ListComp elt gens scope pos) d it acc env) R s)
  (h:wpAny (model prog w) A (pyIter it) (λNF s'=>codeAny (model prog w) A (.compLoop (.ListComp elt gens scope pos) d NF acc env) R s') (λ_ _=>False) s):
  codeAny (model prog w) A (.compStart (.ListComp elt gens scope pos) d it acc env) R s:=by
 refine codeAny_of_tree ?_;show wpAny _ _ ((compStart (.ListComp elt gens scope pos) d it acc env).onRaise (λx=>do noteFrame x env;standAt theWindowsPlace)) _ _ s;refine wpAny_notedAt ?_;have e:(clausesOf (.ListComp elt gens scope pos))[d]?=some c:=hd;unfold compStart;rw[e];have e2:(Option.elim (some c) false λx=>x.is_async != 0)=false:=by show(c.is_async != 0)=false;rw[ha];rfl
 rw[e2];show wpAny _ _ (ask>>=_) _ _ s;refine zAv (wpAny_askSetting (wpAny_ite ?_));split
 .exact zAz (And.intro rfl h0)
 .refine zAv (wpAny_rule (zAv (wpAny_standAt (zAv (thx h λNF s' h'=>zAz (And.intro rfl h'))))))
def Jb(elt:Expr)(gens:List Comprehension)(scope:Scope)(pos:Pos)(d:Nat)(iter:Expr)(D:Addr)(env:Env):Sem Fin->Sem Fin:=λc=>do
 let x <-eval iter env
 standAt iter.pos
 let x <-foldedSetIterable iter env x
 let it <-holding [x] (pyIter x)
 let _ <-runOwn (.compStart (.ListComp elt gens scope pos) d it (.ref D) env) env
 c
section
variable{elt tg iter P9 rq:Expr}{gens:List Comprehension}{ifs FH:List Expr}{scope:Scope}{pos:Pos}{d:Nat}{it:Value}{D:Addr}{env:Env}
theorem lA(hg:gens[d]?=some ⟨tg,iter,ifs,0⟩)(hn:gens[d+1]?=none):compTurn (.ListComp elt gens scope pos) d it (.ref D) env=my tg ifs iter.pos it env (FT elt D env) (again (.compLoop (.ListComp elt gens scope pos) d it (.ref D) env)):=by
 unfold compTurn my FT;simp only[hg,hn];rfl
theorem xZ(hg:gens[d]?=some ⟨tg,iter,ifs,0⟩)(hn:gens[d+1]?=some ⟨P9,rq,FH,0⟩):compTurn (.ListComp elt gens scope pos) d it (.ref D) env=my tg ifs iter.pos it env (Jb elt gens scope pos (d+1) rq D env) (again (.compLoop (.ListComp elt gens scope pos) d it (.ref D) env)):=by
 unfold compTurn my Jb;simp only[hg,hn];rfl
end
def tmG(wi:TI)(g:TG)(tt:TT)(tm:TM):TM:=λys σ H Q=>wi σ H λJ H1=>uF J g tt tm Q ys σ H1
theorem BZ{gens:List Comprehension}{scope:Scope}{pos p:Pos}{d:Nat}{D:Addr}{M:Sem Fin->Sem Fin}{wi:TI}{g:TG}{tm:TM}(hc:X.calm=true)(hx:X.xe=λ_ _=>False)(ap:Apart X D)
  (hd:gens[d]?=some ⟨tg,iter,ifs,0⟩) (ht:∀it,compTurn (.ListComp elt gens scope pos) d (.ref it) (.ref D) X.env=my tg ifs p (.ref it) X.env M (again (.compLoop (.ListComp elt gens scope pos) d (.ref it) (.ref D) X.env)))
  (hi:PI X tg iter wi) (hg:PG X tg g) (ja:PTs X ifs tt) (hm:PM X D M tm) (hs:∀x,foldedSetIterable iter X.env x=pure x:=by intro _;rfl):PM X D (Jb elt gens scope pos d iter D X.env) (tmG wi g tt tm):=by
 intro Zt s σ H Q ys F hsz h c R E hk;obtain⟨I,nD,np,us,k,oD,rv⟩:=F;have Qa:=ap;obtain⟨a1,a2,a3,a4,a5⟩:=ap
 have I':Inv X (Zt++[(D,pZ us k)]) σ H s:=I.pins_of λp hp=>(zA6.mp hp).elim (λz=>I.pin p (zB1 _ z)) λz=>by
  rw[Zae.mp z];exact⟨oD,nD,a1,a2,λv z=>by cases z⟩
 have hX:=hi _ s σ H _ I' h;rw[hx]at hX;refine zAv (thx hX λv s1 h1=>zAv (wpAny_standAt ?_));rw[hs v];refine zAv (zAz (zAv (wpAny_holding (thx h1 λua s2=>?_))));rintro⟨it,fp,tn,J,H2,e,I2,T,st2,f2,hW⟩;subst e;have pD:=I2.pin (D,pZ us k) (zB1 _ (zB1 _ (Zae.mpr rfl)))
 have hf:∀b∈fp,iG X Zt H2 b/\b≠D:=λb hb=>by
  obtain⟨f0,f1,f2,f3,f4,f5⟩:=f2 b hb;exact⟨⟨f0,f1,f2,f3,f4,λq hq=>f5 q (by rw[<-zAf];exact List.mem_append_left _ hq)⟩,(f5 (D,pZ us k) Zy).symm⟩
 have L:=λR hR=>BX (R:=R) hc hx Qa (ht it) hg ja hm ⟨I2.unpinned,pD.2.1,np,us,k,pD.1,rv⟩ T st2 hf hW hR;refine zAv (wpAny_runOwn ?_);refine o9 hd rfl (L _ λs' cK av H' F' _ q=>hk s' cK av H' F' q) ?_;exact T.self _ 0 _ _ _ st2 (L _ λs' cK av H' F' _ q=>hk s' cK av H' F' q)
theorem oh{gens:List Comprehension}{scope:Scope}{pos p:Pos}{Nc:List Str}{src:List (Option Nat)}{g:TG}{tm:TM}{M:Addr->Env->Sem Fin->Sem Fin}(hc:X.calm=true)(S:CScope X scope)
  (hd:gens[0]?=some ⟨tg,iter,ifs,0⟩) (kQ:∀it D env,compTurn (.ListComp elt gens scope pos) 0 (.ref it) (.ref D) env=my tg ifs p (.ref it) env (M D env) (again (.compLoop (.ListComp elt gens scope pos) 0 (.ref it) (.ref D) env)))
  (bg:∀C,Caps X (compEnvC scope (dC X.env.cells scope.names []) C X.env) Nc src)
  (hb:∀C fp Zt s₂ H₂,PG (cxC X scope Nc C fp Zt s₂ H₂) tg g/\PTs (cxC X scope Nc C fp Zt s₂ H₂) ifs tt/\∀D,Apart (cxC X scope Nc C fp Zt s₂ H₂) D->PM (cxC X scope Nc C fp Zt s₂ H₂) D (M D (cxC X scope Nc C fp Zt s₂ H₂).env) tm)
  {Zt:List (Addr×Obj)} {s₂:Shared}  {H₂:Hp} {it:Addr}  {tn:Nat->Heap->Prop}  (ah:Inv X Zt σ H₂ s₂) (T:Turn X.prog X.w X.K tg J fp it tn) (st:tn 0 s₂.heap) (hf:∀b∈fp,iG X Zt H₂ b)
  {Fin:List V->Hp->Prop} (hW:uF J g tt tm (λys _ H=>Fin ys H) [] (capσ σ src) H₂) {RR:Value->Addr->Result->Shared->Prop} 
  (Bz:∀D C s' ys H' m,Fin ys H'->H' D=none->Inv X Zt σ (upd H' D (.lst ys)) s'->s'.heap.Ns C m->iG X Zt (upd H' D (.lst ys)) C->RR (.ref D) C (.ok .next) s'):
  wpAny (model X.prog X.w) X.A (newList []) (λacc s₃=>wpAny (model X.prog X.w) X.A (newFunctionEnv scope X.env.globals (dC X.env.cells scope.names []) [] X.env.qual none .none (some X.env)) (λgv kR=>
   codeAny (model X.prog X.w) X.A (.compStart (.ListComp elt gens scope pos) 0 (.ref it) acc {gv with scope:=relabel scope X.env}) (RR acc gv.locals) kR) E s₃) E s₂:=by
 refine Zac (wpAny_newFunctionEnv S.hcell (by intro y hy;simp at hy) (λdA bo c8=>?_) S.kind);dsimp only at bo c8⊢;generalize vt:s₂.heap.push {cls:=.type "list",dict:=none,data:=.seq ([]:List Value).toArray}=HH at bo c8⊢;generalize fN:s₂.heap.objs.size=D at bo c8⊢;have hC:HH.objs.size=D+1:=by rw[<-vt,Heap.size_push,fN]
 generalize Qb:HH.objs.size=C at bo c8 hC⊢;have zh:D≠C:=Zz
 have below:∀b,b<s₂.heap.objs.size->b≠C/\b≠D:=λb hb=>by rw[fN]at hb;exact⟨by rw[hC];exact zBd (Nat.lt_succ_of_lt hb),zBd hb⟩
 have aE:∀{b o},s₂.heap.get? b=some o->b≠C/\b≠D:=λ{b o} e=>below b (zB0 e);have old:∀b o,s₂.heap.get? b=some o->dA.get? b=some o:=λb o e=>c8.extBut b o (aE e).1 (zAy _ (vt▸zAy _ e));have vw:dA.get? D=some {cls:=.type "list",data:=.seq ([]:List Value).toArray}:=c8.extBut _ _ zh (zAy _ (vt▸fN▸zB4 _ rfl))
 have D5:∀b∈fp,∃o,s₂.heap.get? b=some o:=λb hb=>by obtain⟨o,e,_⟩:=T.obj _ _ st b hb;exact⟨o,e⟩
 have oz:∀b∈fp,b≠C/\b≠D:=λb hb=>by obtain⟨o,e⟩:=D5 b hb;exact aE e
 have sub:∀{x c},(dC X.env.cells scope.names []).lookup x=some c->X.env.cells.lookup x=some c:=λ{x c} e=>by
  rcases nY scope.names [] S.hfree e with z|z
  .simp at z
  .exact z
 have BA:∀{b o},s₂.heap.get? b=some o->b<D:=λ{b o} e=>by rw[<-fN];exact zB0 e
 have fresh:∀a,D<=a->H₂ a=none:=λa ha=>ah.hok.fresh (by rw[fN];exact ha)
 have fk:∀{x c},X.env.cells.lookup x=some c->∃o,s₂.heap.get? c=some o:=λ{x c} e=>by obtain⟨v,o,ho,_⟩:=ah.cell x c e;exact⟨o,ho⟩
 have vx:∀b∈frs X.stack,∃o,s₂.heap.get? b=some o:=λb hb=>by
  rcases zAo.mp (ah.stkSub b hb)with e|hb
  .rw[e];obtain⟨m,⟨o,_,_,ho,_⟩,_⟩:=ah.loc;exact⟨o,ho⟩
  .obtain⟨_,o,ho,_⟩:=ah.funs.mem hb;exact⟨o,ho⟩
 have vE:∀a,D<=a->a∉frs X.stack:=λa ha hb=>by
  obtain⟨o,e⟩:=vx a hb;exact absurd (zB5 (BA e) ha) (Zau _)
 have BB:∀b∈fp,b∉frs X.stack:=λb hb z=>by
  obtain⟨_,f1,f2,_⟩:=hf b hb;rcases zAo.mp (ah.stkSub b z)with e|e
  .exact f1 e
  .exact f2 e
 generalize bS:cxC X scope Nc C fp Zt s₂ H₂=X';obtain⟨hg,ht,hm⟩:=hb C fp Zt s₂ H₂;rw[bS]at hg ht hm
 have FI:X'.Ok:=by
  subst bS;refine⟨ah.ok.mod,S.kind,ah.ok.glob,ah.ok.blt,?_,?_,?_,?_,ah.ok.hd,ah.ok.frames,.inl rfl,?_,ah.bs,Zak ah.ok.bsz ah.sz,?_,BB,ah.stack,ah.stkFree⟩
  .show s₂.heap.objs.size<=C;lia
  .exact λx y c e1 e2=>ah.ok.inj x y c (sub e1) (sub e2)
  .intro x hx;have hx:(relabel scope X.env).names.lookup x=some .cell\/(relabel scope X.env).names.lookup x=some .free:=hx
   have:∃k',(x,k')∈scope.names/\k'=NameKind.free:=by
    rcases hx with z|z
    .exact mq S.hcell z (.inl rfl)
    .exact mq S.hcell z (.inr rfl)
   exact nZ scope.names [] (.inl this)
  .intro x c z;exact absurd z (by show¬(false=true);simp)
  .intro b hb;exact⟨(oz b hb).1,λx c e=>(hf b hb).2.2.2.2.1 x c (sub e)⟩
  .intro b o e hb;obtain⟨_,_,_,f3,_⟩:=hf b hb;rcases f3 with z|z
   .exact ah.ok.noex b o e z
   .exact absurd (zB5 (zB0 (ah.ok.bs b o e).1) z) (Zau _)
 have eP:X'.prog=X.prog:=by subst bS;rfl
 have ew:X'.w=X.w:=by subst bS;rfl
 have eK:X'.K=X.K:=by subst bS;rfl
 have eA:X'.A=X.A:=by subst bS;rfl
 have eE:X'.xe=λ_ _=>False:=by subst bS;rfl
 have eL:X'.env.locals=C:=by subst bS;rfl
 have eN:X'.env=compEnvC scope (dC X.env.cells scope.names []) C X.env:=by subst bS;rfl
 have ec:X'.calm=true:=by subst bS;exact hc
 have eS:X'.s₀=s₂:=by subst bS;rfl
 have eH:X'.H₀=H₂:=by subst bS;rfl
 have ef:X'.fs=frs X.stack:=by subst bS;rfl
 have ex:X'.ex=fp:=by subst bS;rfl
 have ep:X'.pn=X.pn++Zt:=by subst bS;rfl
 have I0:Inv X' [] (capσ σ src) H₂ {s₂ with heap:=dA,toks:=s₂.toks+([]:List (Str×Value)).length}:=by
  refine⟨FI,by rw[eS],ah.bare,by rw[eS,eH];exact Un.kept old,⟨_,by rw[eL];exact bo,?_⟩,?_,by rw[eL];exact fresh _ Zz,?_,?_,by rw[eP,ew];exact ah.hok.kept old,?_⟩
  .intro j x v e1 e2 e3;have e1:Nc[j]?=some x:=by subst bS;exact e1
   have e4:∃i,src[j]?=some (some i)/\(σ[i]?).join=some v:=by
    unfold capσ at e2;rw[zAb]at e2
    cases q:src[j]? with
    |none=>rw[q]at e2;cases e2
    |some o=>
     rw[q]at e2
     cases o with
     |none=>simp at e2
     |some i=>exact⟨i,rfl,by simpa using e2⟩
   obtain⟨i,e5,e6⟩:=e4;obtain⟨c1,c2,c3,c4⟩:=(bg C).get e1 e5
   have e7:σ[i]?=some (some v):=by
    cases q:σ[i]? with
    |none=>rw[q]at e6;simp at e6
    |some o=>rw[q]at e6;simp at e6;rw[e6]
   obtain⟨m,_,hl⟩:=ah.loc;obtain⟨u,r,l⟩:=hl i x v c1 e7 (.inr (by rcases c2 with z|z;exact .inl z;exact .inr z));refine⟨u,r,?_⟩;rcases l with⟨k,_⟩|⟨_,c,e,z⟩
   .rcases c2 with c2|c2<;>(rw[k]at c2;cases c2)
   .refine .inr ⟨by rw[eN];exact c4,c,by rw[eN];exact c3.trans e,?_⟩;obtain⟨o,ho,hd⟩:=z;exact⟨o,old c o ho,hd⟩
  .intro x c e;rw[eN]at e;obtain⟨v,o,ho,hd⟩:=ah.cell x c (sub e);exact⟨v,o,old c o ho,hd⟩
  .intro x c e;rw[eN]at e;exact ah.freeC x c (sub e)
  .intro p hp;rw[ep,zAn]at hp;obtain⟨e,n,ne,nf,d⟩:=ah.pin p hp;refine⟨old _ _ e,n,by rw[eL];exact(aE e).1,?_,d⟩;rw[ef];intro z;rcases zAo.mp (ah.stkSub _ z)with q|q
   .exact ne q
   .exact nf q
  .have:=(bg C).len;subst bS;show(capσ σ src).length=Nc.length;unfold capσ;rw[zA1,this]
 have FK:∀p∈X'.pn,p.1≠D:=λp hp=>by
  rw[ep]at hp;exact(aE (ah.pin p hp).1).2
 have kS:∀x c,X'.env.cells.lookup x=some c->c≠D:=λx c e=>by
  rw[eN]at e;obtain⟨o,ho⟩:=fk (sub e);exact(aE ho).2
 have vn:∀{P:List (Addr×Obj)} {H:Hp},(∀p∈P,p.1=D)->(∀b∈fp,H b=none)->∀b∈fp,iG X' P H b:=λ{P H} hP hn b hb=>by
  refine⟨hn b hb,by rw[eL];exact(oz b hb).1,by rw[ef];exact BB b hb,.inl (by rw[ex];exact hb),λx c e=>?_,λp hp=>?_⟩
  .rw[eN]at e;exact(hf b hb).2.2.2.2.1 x c (sub e)
  .rcases zA6.mp hp with z|z
   .rw[ep]at z;exact(hf b hb).2.2.2.2.2 p z
   .rw[hP p z];exact(oz b hb).2.symm
 have ap:Apart X' D:=⟨by rw[eL];exact zh,by rw[ef];exact vE _ (zA3 _),by rw[eS,fN];exact zA3 _,kS,FK⟩
 have T':Turn X'.prog X'.w X'.K tg J fp it tn:=by rw[eP,ew,eK];exact T
 have loop:∀s₃:Shared,s₃={s₂ with heap:=dA,toks:=s₂.toks+([]:List (Str×Value)).length}->
   codeAny (model X.prog X.w) X.A (.compLoop (.ListComp elt gens scope pos) 0 (.ref it) (.ref D) (compEnvC scope (dC X.env.cells scope.names []) C X.env)) (RR (.ref D) C) s₃:=by
  rintro s₃ rfl
  have L:=BX (X:=X') (R:=RR (.ref D) C) ec eE ap (kQ it D X'.env) hg ht (hm D ap) ⟨I0,fresh _ (zA3 _),λp hp=>absurd hp Zy,[],_,vw,.nil⟩ T' (T.keep _ _ _ st λb _ o e=>old b o e)
   (λb hb=>⟨vn (λp hp=>absurd hp Zy) (λb hb=>(hf b hb).1) b hb,(oz b hb).2⟩) hW ?_
  .rw[eP,ew,eA,eN]at L;exact L
  rintro s4 ys iF H3 ⟨I4,hJ,_,us,k,oD,vi⟩ hsz fin;obtain⟨mC,BC,_⟩:=I4.loc;rw[eL]at BC;have gy:=I4.base;rw[eS,eH,ef,ex]at gy;have hlen:ys.length<=sizeLine:=Nat.le_of_lt hsz
  have vF:HOk X.prog X.w (upd H3 D (.lst ys)) s4.heap:=λb u e=>by
   by_cases hb:b=D
   .subst hb;rw[aj]at e;cases e;exact⟨hlen,us,k,vi,oD⟩
   .rw[az hb]at e;have z:=I4.hok b u e;rw[eP,ew]at z
    exact z.stay (λc v _ q=>q) (λc q=>by rw[az (aA q hJ)];exact q) λc xs q=>by rw[az (aA q hJ)];exact q
  have un:Un (frs X.stack) fp H₂ (upd H3 D (.lst ys)) s₂.heap s4.heap:=⟨gy.keep,gy.slot,λb o e n hx=>by rw[az (aE e).2];exact gy.free b o e n hx,gy.there,
   λb xs e=>by
    have z:=gy.tups b xs e
    rw[az (aA z hJ)];exact z,
   λb o u e=>by
    have z:=gy.frzs b o u e
    rw[az (aA z hJ)];exact z,
   λb ps e=>by
    obtain⟨mo,z⟩:=gy.tbls b ps e
    exact⟨mo,by rw[az (aA z hJ)];exact z⟩⟩
  have J4:Inv X Zt σ (upd H3 D (.lst ys)) s4:=ah.call' (ch:=fp) (by have:=I4.os;rw[eS]at this;exact this) un vF I4.bare λb hb=>by
   obtain⟨_,f1,f2,f3,f4,f5⟩:=hf b hb;exact⟨f3,f1,f4,f5⟩
  refine Bz D C s4 ys H3 mC fin hJ J4 BC ⟨?_,?_,?_,.inr ?_,?_,?_⟩
  .rw[az zh.symm];have:=I4.free;rw[eL]at this;exact this
  .have:=ah.lt;rw[fN]at this;exact Nat.ne_of_gt (zB5 this (by rw[hC];exact Zar _))
  .intro z;obtain⟨_,o,ho,_⟩:=ah.funs.mem z;exact(aE ho).1 rfl
  .have:=ah.sz;rw[fN]at this;lia
  .intro x c e z;obtain⟨o,ho⟩:=fk e;exact(aE ho).1 z
  .intro p hp z;exact(aE (ah.pin p hp).1).1 z
 exact o9 hd rfl (loop _ rfl) (T.self _ 0 _ _ _ (T.keep _ _ _ st λb _ o e=>old b o e) (loop _ rfl))
theorem qL{scope:Scope}{pos:Pos}{Nc:List Str}{src:List (Option Nat)}{g:TG}(hc:X.calm=true)(S:CScope X scope)
  (bg:∀C,Caps X (compEnvC scope (dC X.env.cells scope.names []) C X.env) Nc src)
  (hb:∀C fp Zt s₂ H₂,PG (cxC X scope Nc C fp Zt s₂ H₂) tg g/\PTs (cxC X scope Nc C fp Zt s₂ H₂) ifs tt/\PE (cxC X scope Nc C fp Zt s₂ H₂) elt te)
  {Zt:List (Addr×Obj)} {s₂:Shared}  {H₂:Hp} {it:Addr}  {tn:Nat->Heap->Prop}  (ah:Inv X Zt σ H₂ s₂) (T:Turn X.prog X.w X.K tg J fp it tn) (st:tn 0 s₂.heap) (hf:∀b∈fp,iG X Zt H₂ b)
  {Fin:List V->Hp->Prop} (hW:jm J g tt te Fin (capσ σ src) H₂) {RR:Value->Addr->Result->Shared->Prop} 
  (Bz:∀D C s' ys H' m,Fin ys H'->H' D=none->Inv X Zt σ (upd H' D (.lst ys)) s'->s'.heap.Ns C m->iG X Zt (upd H' D (.lst ys)) C->RR (.ref D) C (.ok .next) s'):
  wpAny (model X.prog X.w) X.A (newList []) (λacc s₃=>wpAny (model X.prog X.w) X.A (newFunctionEnv scope X.env.globals (dC X.env.cells scope.names []) [] X.env.qual none .none (some X.env)) (λgv kR=>
   codeAny (model X.prog X.w) X.A (.compStart (.ListComp elt [⟨tg,iter,ifs,0⟩] scope pos) 0 (.ref it) acc {gv with scope:=relabel scope X.env}) (RR acc gv.locals) kR) E s₃) E s₂:=by
 exact oh (gens:=[⟨tg,iter,ifs,0⟩]) (p:=iter.pos) (M:=λD env=>FT elt D env) (tm:=tmE te) hc S rfl (λit D env=>lA rfl rfl) bg (λC fp Zt s₂ H₂=>⟨(hb C fp Zt s₂ H₂).1,(hb C fp Zt s₂ H₂).2.1,λD ap=>wH ap rfl (hb C fp Zt s₂ H₂).2.2⟩) ah T st hf hW Bz
def yc(wi:TI)(src:List (Option Nat))(g:TG)(tt:TT)(te:TE):TE:=λσ H Q=>wi σ H λJ H1=>jm J g tt te (λys H'=>∀D,H' D=none->Q (.ref D) (upd H' D (.lst ys))) (capσ σ src) H1
section
variable{X:Cx}{tg iter elt:Expr}{ifs:List Expr}{scope:Scope}{pos:Pos}{Nc:List Str}{wi:TI}{g:TG}{tt:TT}{te:TE}
theorem bB(Nc:List Str)(src:List (Option Nat))(hc:X.calm=true)(hi:PI X tg iter wi)
  (hb:∀C fp Zt s₂ H₂,PG (cxC X scope Nc C fp Zt s₂ H₂) tg g/\PTs (cxC X scope Nc C fp Zt s₂ H₂) ifs tt/\PE (cxC X scope Nc C fp Zt s₂ H₂) elt te)
  (bg:∀C,Caps X (compEnvC scope (dC X.env.cells scope.names []) C X.env) Nc src) (S:CScope X scope)
  (hs:∀x,foldedSetIterable iter X.env x=pure x:=by intro _;rfl):PE X (.ListComp elt [⟨tg,iter,ifs,0⟩] scope pos) (yc wi src g tt te):=by
 intro Zt s σ H Q I h;rw[eval_ListComp];refine wpAny_comprehension_free (use:=none) rfl hs (mY S.hfree) S.kind S.hnames ?_;refine thn (hi Zt s σ H _ I h) λv s1 h1=>thn h1 λua s2 h2=>?_;obtain⟨it,fp,tn,J,H2,e,I2,T,st2,f2,hW⟩:=h2;subst e;refine qL (RR:=λacc C=>compPost (model X.prog X.w) X.A X.xe none (EP X Zt σ Q) acc C) hc S bg hb I2 T st2 f2 hW ?_;intro D C s' ys H' m fin nD J' hn fC;obtain⟨f0,f1,_,f3,f4,f5⟩:=fC;refine⟨m,hn,λFO hZ=>?_⟩;exact⟨.ref D,_,J'.turned (t':=s'.toks) (λb o hb e=>hZ.extBut b o hb e) f0 f1 f3 f4 f5,rfl,fin D nD⟩
def Jc(wi:TI)(src:List (Option Nat))(g:TG)(tt:TT)(te:TE)(i:Nat):TS:=λD σ H=>yc wi src g tt te σ H λv H'=>D.nx (σ.set i (some v)) H'
theorem ig{i:Nat}{x:Str}{BD:Pos}(Nc:List Str)(src:List (Option Nat))(hc:X.calm=true)(hN:X.N.Nodup)(hX:X.N[i]?=some x)(hx:Loc X.env.scope x)(hi:PI X tg iter wi)
  (hb:∀C fp Zt s₂ H₂,PG (cxC X scope Nc C fp Zt s₂ H₂) tg g/\PTs (cxC X scope Nc C fp Zt s₂ H₂) ifs tt/\PE (cxC X scope Nc C fp Zt s₂ H₂) elt te)
  (bg:∀C,Caps X (compEnvC scope (dC X.env.cells scope.names []) C X.env) Nc src) (S:CScope X scope)
  (Qd:swapsWith (.ListComp elt [⟨tg,iter,ifs,0⟩] scope pos) (some (.Name x pos')) BD.line X.env=pure true:=by rfl)
  (hf:X.fn x=true\/X.env.scope.names.lookup x=some .local:=by first|exact .inl rfl|exact .inr rfl|assumption)
  (hs:∀x,foldedSetIterable iter X.env x=pure x:=by intro _;rfl):PS X (.Assign [.Name x pos'] (.ListComp elt [⟨tg,iter,ifs,0⟩] scope pos) BD) (Jc wi src g tt te i):=by
 intro Zt s σ H D I h;rw[exec_Assign_Name_used _ _ _ _ Qd];refine zAv (wpAny_standAt (zAv ?_));show wpAny _ _ (do let _ <-comprehension (.ListComp elt [⟨tg,iter,ifs,0⟩] scope pos) scope X.env _ (newList []) false (eval iter X.env) (some (assign (.Name x pos') X.env))) _ _ s;refine zAv (thn (wpAny_comprehension_free (use:=some (assign (.Name x pos') X.env)) (Q:=λ_ s'=>∃av H',Inv X Zt av H' s'/\D.nx av H') rfl hs (mY S.hfree) S.kind S.hnames ?_) λ_ s' hq=>zAz (zAz hq));refine thn (hi Zt s σ H _ I h) λv s1 h1=>thn h1 λua s2 h2=>?_;obtain⟨it,fp,tn,J,H2,e,I2,T,st2,f2,hW⟩:=h2;subst e;refine qL (RR:=λacc C=>compPost (model X.prog X.w) X.A X.xe (some (assign (.Name x pos') X.env)) (λ_ s'=>∃av H',Inv X Zt av H' s'/\D.nx av H') acc C) hc S bg hb I2 T st2 f2 hW ?_;intro A C s' ys H' m fin nD J' hn fC;obtain⟨f0,f1,WM,f3,f4,f5⟩:=fC;refine wpAny_assign_Name (qz J' hN hX hx (v:=.ref A) rfl (λy9 Qe Qf=>?_) hf)
 have ve:∃m',y9.heap.Ns C m':=by
  obtain⟨a,sb,ha⟩:=Qf
  have gz:C≠a:=by
   rcases ha with z|z
   .rw[z];exact f1
   .exact λq=>f4 x a z q.symm
  exact⟨m,hn.sameBut sb gz⟩
 obtain⟨m',ve⟩:=ve;refine⟨m',ve,λFO hZ=>?_⟩;exact⟨_,_,Qe.turned (t':=y9.toks) (λb o hb e=>hZ.extBut b o hb e) f0 f1 f3 f4 f5,fin A nD⟩
end
section
variable{X:Cx}
theorem iI:dG X (.builtin "isinstance") (λxs H Q=>∃x t n b,xs=[x,.ty n]/\TyOf X.K H x t/\PySem.W.kitOne X.K t (.type n)=some b/\Q (.bl b) H):=by
 intro Zt s σ H xs us Q I r h;obtain⟨x,t,n,b,rfl,ty,e,q⟩:=h;obtain⟨u,c,rfl,ru,rc⟩:=vals2 r;obtain rfl:c=Value.type n:=rc
 exact zQ I ru ty e λtk=>⟨.bl b,H,I.tok _,rfl,q⟩
theorem uG{prog:Program}{w:World}{A:Around}(bs:List Bool):TruthOf prog w A (λi v=>∃b,bs[i]?=some b/\v=Value.bool b) (λi=>(bs[i]?).getD false):=by
 intro i v s Q E hP hQ;obtain⟨b,hb,rfl⟩:=hP;dsimp only at hQ;rw[hb]at hQ;exact wpAny_truthy_bool hQ
theorem all_range(bs:List Bool):(List.range bs.length).all (λi=>(bs[i]?).getD false)=bs.all id:=by
 apply Bool.eq_iff_iff.mpr;rw[Zaf,Zaf];constructor
 .intro h b hb;obtain⟨i,hi,e⟩:=List.getElem_of_mem hb;have:=h i (Za5.mpr hi);rw[zA0 hi,e]at this;exact this
 .intro h i hi;have hi:=Za5.mp hi;rw[zA0 hi];exact h _ (zAh hi)
theorem ou:∀{bs:List Bool} {us:List Value},Vals (bs.map V.bl) us->us=bs.map Value.bool
 |[],_,.nil=>rfl
 |_::bs,_,.cons r t=>by
  rw[ou (bs:=bs) t,show _=Value.bool _ from r];rfl
theorem fZ(hc:X.calm=true):dG X (.builtin "all") (λxs H Q=>∃(p:Addr) (bs:List Bool),xs=[.ref p]/\SqL X.K H p (bs.map V.bl)/\Q (.bl (bs.all id)) H):=by
 intro Zt s σ H xs us Q I r h;obtain⟨p,bs,rfl,hq,q⟩:=h;obtain⟨u,rfl,ru⟩:=vals1 r;cases ru;obtain⟨Zs,rv,pl,hz⟩:=I.list hq;have ei:=ou rv;subst ei;have aI:p<s.heap.objs.size:=by obtain⟨_,e,_⟩:=pl.isList;exact zB0 e
 refine call_all_walk (wpAny_pyIter_list pl.isList ?_);have W:=Walks.list (prog:=X.prog) (w:=X.w) (A:=X.A.in1) (I.ok.hd hc) s.heap.objs.size p (zBd aI) (bs.map Value.bool).toArray;refine⟨_,_,_,_,_,_,_,rfl,{sub:=W.sub,frame:=W.frame,item:=λi s Q E hi st hQ=>W.item i s Q E hi st λv h' tk hP=>hQ v h' tk ?_,done:=W.done,self:=W.self},⟨⟨_,zB4 _ rfl,rfl,rfl⟩,pl.isList.push _⟩,uG bs,λh' tk k=>?_⟩
 .have BF:(bs.map Value.bool).toArray[i]?=some v:=hP;rw[List.getElem?_toArray,zAb]at BF
  cases e:bs[i]? with
  |none=>rw[e]at BF;cases BF
  |some b=>rw[e]at BF;exact⟨b,rfl,(zAl BF).symm⟩
 .have hsz:(bs.map Value.bool).toArray.size=bs.length:=by simp
  rw[hsz,all_range];refine⟨.bl _,H,?_,rfl,q⟩;refine I.kept (h':=h') (t':=tk) λb o e=>k b o ?_ (zAy _ e);intro z;have:b=s.heap.objs.size:=by simpa using z
  exact absurd (zB0 e) (by rw[this];exact Zau _)
end
theorem lB{K:Frag}:PySem.W.kitOne K (.type "NoneType") (.type "int")=some false:=by kernel_rfl
theorem jJ{K:Frag}:PySem.W.kitOne K (.type "NoneType") (.type "bool")=some false:=by kernel_rfl
theorem jr{K:Frag}:PySem.W.kitOne K (.type "NoneType") (.type "tuple")=some false:=by kernel_rfl
theorem sS{K:Frag}:PySem.W.kitOne K (.type "bool") (.type "int")=some true:=by kernel_rfl
theorem q9{K:Frag}:PySem.W.kitOne K (.type "bool") (.type "bool")=some true:=by kernel_rfl
theorem oA{K:Frag}:PySem.W.kitOne K (.type "bool") (.type "tuple")=some false:=by kernel_rfl
theorem uH{K:Frag}:PySem.W.kitOne K (.type "int") (.type "int")=some true:=by kernel_rfl
theorem sV{K:Frag}:PySem.W.kitOne K (.type "int") (.type "bool")=some false:=by kernel_rfl
theorem qb{K:Frag}:PySem.W.kitOne K (.type "int") (.type "tuple")=some false:=by kernel_rfl
theorem uI{K:Frag}:PySem.W.kitOne K (.type "str") (.type "int")=some false:=by kernel_rfl
theorem sW{K:Frag}:PySem.W.kitOne K (.type "str") (.type "bool")=some false:=by kernel_rfl
theorem qd{K:Frag}:PySem.W.kitOne K (.type "str") (.type "tuple")=some false:=by kernel_rfl
theorem sX{K:Frag}:PySem.W.kitOne K (.type "list") (.type "int")=some false:=by kernel_rfl
theorem qe{K:Frag}:PySem.W.kitOne K (.type "list") (.type "bool")=some false:=by kernel_rfl
theorem oE{K:Frag}:PySem.W.kitOne K (.type "list") (.type "tuple")=some false:=by kernel_rfl
theorem qg{K:Frag}:PySem.W.kitOne K (.type "tuple") (.type "int")=some false:=by kernel_rfl
theorem oF{K:Frag}:PySem.W.kitOne K (.type "tuple") (.type "bool")=some false:=by kernel_rfl
theorem mO{K:Frag}:PySem.W.kitOne K (.type "tuple") (.type "tuple")=some true:=by kernel_rfl
theorem sY{K:Frag}:PySem.W.kitOne K (.type "dict") (.type "int")=some false:=by kernel_rfl
theorem qi{K:Frag}:PySem.W.kitOne K (.type "dict") (.type "bool")=some false:=by kernel_rfl
theorem oG{K:Frag}:PySem.W.kitOne K (.type "dict") (.type "tuple")=some false:=by kernel_rfl
section
variable{κ:Type}[DecidableEq κ]
def cD(kvs:List (κ×V))(k:κ):Option V:=(kvs.find? λkv=>decide (kv.1=k)).map (·.2)
def putK(kvs:List (κ×V))(k:κ)(v:V):List (κ×V):=
 if(kvs.any λkv=>decide (kv.1=k))=true then kvs.map (λkv=>if kv.1=k then(kv.1,v)else kv)else kvs++[(k,v)]
theorem cT{p:κ×V}{r:List (κ×V)}{k:κ}(e:p.1=k):cD (p::r) k=some p.2:=by simp[cD,List.find?_cons,e]
theorem cU{p:κ×V}{r:List (κ×V)}{k:κ}(e:¬p.1=k):cD (p::r) k=cD r k:=by simp[cD,List.find?_cons,e]
theorem fB(k:κ):∀kvs:List (κ×V),(kvs.any λkv=>decide (kv.1=k))=(cD kvs k).isSome
 |[]=>rfl
 |p::r=>by
  rw[List.any_cons];by_cases e:p.1=k
  .simp only[cT e,decide_eq_true e,Bool.true_or,Option.isSome_some]
  .rw[cU e,zB2 e,Bool.false_or];exact fB k r
theorem uJ(k j:κ)(y:V):∀kvs:List (κ×V),cD (kvs.map λkv=>if kv.1=k then(kv.1,y)else kv) j=(cD kvs j).map λx=>if j=k then y else x
 |[]=>rfl
 |p::r=>by
  have ih:=uJ k j y r;rw[zAk];by_cases h:p.1=k
  .rw[zAx h];by_cases e:p.1=j
   .rw[cT (p:=(p.1,y)) e,cT e,Option.map_some,zAx (e.symm.trans h)]
   .rw[cU (p:=(p.1,y)) e,cU e,ih]
  .rw[zAw h];by_cases e:p.1=j
   .rw[cT (p:=p) e,cT e,Option.map_some,zAw (λz=>h (e.trans z))]
   .rw[cU (p:=p) e,cU e,ih]
theorem qM(k j:κ)(y:V):∀kvs:List (κ×V),cD kvs k=none->cD (kvs++[(k,y)]) j=if j=k then some y else cD kvs j
 |[],_=>by
  by_cases e:k=j
  .rw[zAx e.symm];exact cT (p:=(k,y)) e
  .rw[zAw (λz=>e z.symm)];exact cU (p:=(k,y)) e
 |p::r,hn=>by
  rw[List.cons_append]
  have hk:¬p.1=k:=λz=>by rw[cT z]at hn;cases hn
  rw[cU hk]at hn;have ih:=qM k j y r hn;by_cases e:p.1=j
  .rw[cT e,cT e,zAw (λz=>hk (e.trans z))]
  .rw[cU e,cU e,ih]
theorem fD(kvs:List (κ×V))(k j:κ)(y:V):cD (putK kvs k y) j=if j=k then some y else cD kvs j:=by
 unfold putK;by_cases a:(kvs.any λkv=>decide (kv.1=k))=true
 .rw[zAx a,uJ];rw[fB]at a;by_cases e:j=k
  .obtain⟨x,hx⟩:=Option.isSome_iff_exists.mp a;rw[zAx e,e,hx,Option.map_some,zAx rfl]
  .rw[zAw e]
   cases cD kvs j with
   |none=>rfl
   |some x=>rw[Option.map_some,zAw e]
 .rw[zAw a];refine qM k j y kvs ?_;rw[fB]at a
  cases q:cD kvs k with
  |none=>rfl
  |some x=>rw[q]at a;exact(a rfl).elim
theorem cV(kvs:List (κ×V))(k:κ)(v:V):(putK kvs k v).length<=kvs.length+1:=by
 unfold putK;split
 .rw[zA1];lia
 .rw[zA2,zAe,List.length_nil];lia
theorem Ca{kvs:List (κ×V)}{k:κ}(v:V)(h:cD kvs k=none):putK kvs k v=kvs++[(k,v)]:=by
 unfold putK;rw[fB,h];exact zAw Zx
theorem RelO.isSome_eq{o:Option V}{u:Option Value}(r:RelO o u):o.isSome=u.isSome:=by
 cases o with
 |none=>cases u with
  |none=>rfl
  |some _=>exact(show False from r).elim
 |some _=>cases u with
  |none=>exact(show False from r).elim
  |some _=>rfl
theorem RelO.getD{o:Option V}{u:Option Value}{d:V}{d':Value}(r:RelO o u)(rd:RelV d d'):RelV (o.getD d) (u.getD d'):=by
 cases o with
 |none=>cases u with
  |none=>exact rd
  |some _=>exact(show False from r).elim
 |some _=>cases u with
  |none=>exact(show False from r).elim
  |some _=>exact r
theorem KV.val{kvs:List (κ×V)}{vs:List (κ×Value)}(r:KV kvs vs)(k:κ):RelO (cD kvs k) (valueAt vs k):=by
 unfold KV at r
 induction r with
 |nil=>exact True.intro
 |@cons p q ps qs h t ih=>
  obtain⟨h1,h2⟩:=h;by_cases e:p.1=k
  .have e':q.1=k:=h1.symm.trans e;have b:valueAt (q::qs) k=some q.2:=by simp[valueAt,List.find?_cons,e']
   rw[cT e,b];exact h2
  .have e':¬q.1=k:=λz=>e (h1.trans z);have b:valueAt (q::qs) k=valueAt qs k:=by simp[valueAt,List.find?_cons,e']
   rw[cU e,b];exact ih
theorem KV.any{kvs:List (κ×V)}{vs:List (κ×Value)}(r:KV kvs vs)(k:κ):(kvs.any λkv=>decide (kv.1=k))=vs.any λkv=>decide (kv.1=k):=by
 unfold KV at r
 induction r with
 |nil=>rfl
 |cons h t ih=>rw[List.any_cons,List.any_cons,ih,h.1]
theorem KV.repl{kvs:List (κ×V)}{vs:List (κ×Value)}(r:KV kvs vs)(k:κ){y:V}{u:Value}(ry:RelV y u):
  KV (kvs.map λkv=>if kv.1=k then(kv.1,y)else kv) (vs.map λkv=>if kv.1=k then(kv.1,u)else kv):=by
 unfold KV at r⊢
 induction r with
 |nil=>exact .nil
 |@cons p q ps qs h t ih=>
  rw[zAk,zAk];refine .cons ?_ ih;obtain⟨h1,h2⟩:=h;by_cases e:p.1=k
  .rw[zAx e,zAx (h1.symm.trans e)];exact⟨h1,ry⟩
  .rw[zAw e,zAw (λz=>e (h1.trans z))];exact⟨h1,h2⟩
theorem KV.put{kvs:List (κ×V)}{vs:List (κ×Value)}(r:KV kvs vs)(k:κ){y:V}{u:Value}(ry:RelV y u):KV (putK kvs k y) (stored vs k u):=by
 unfold putK stored;rw[r.any k];by_cases e:(vs.any λkv=>decide (kv.1=k))=true
 .rw[zAx e,zAx e];exact r.repl k ry
 .rw[zAw e,zAw e];exact Paired.snoc r ⟨rfl,ry⟩
theorem KV.length{kvs:List (κ×V)}{vs:List (κ×Value)}(r:KV kvs vs):kvs.length=vs.length:=Paired.length r
end
theorem uK{w:World}{k:Key}{u:Value}(r:RelV (kV k) u):(bF P w).is k u=true:=by
 cases k with
 |inl i=>obtain⟨t,e⟩:=(show ∃t,u=Value.int i t from r);subst e;exact ur P w i t
 |inr x=>obtain⟨t,e⟩:=(show ∃t,u=Value.str x t from r);subst e;exact ut P w x t
theorem qN{P:Program}{w:World}:∀{ks:List Key} {us:List Value},Vals (ks.map kV) us->ItemsAre (bF P w) ks us
 |[],_,r=>by rw[List.map_nil]at r;cases r;exact .nil
 |k::ks,_,r=>by
  rw[zAk]at r
  cases r with
  |cons h t=>exact .cons (uK h) (qN t)
abbrev KT(H:Hp):List (List Key×V)->List (List Key×Addr×Value)->Prop:=Paired λp q=>p.1=q.1/\H q.2.1=some (.tup (p.1.map kV))/\RelV p.2 q.2.2
theorem KT.val{kvs:List (List Key×V)}(r:KT H kvs xs)(k:List Key):RelO (cD kvs k) ((atKey xs k).map (·.2)):=by
 induction r with
 |nil=>exact True.intro
 |@cons p q ps qs h t ih=>
  obtain⟨h1,_,h2⟩:=h;by_cases e:p.1=k
  .have e':q.1=k:=h1.symm.trans e;have b:atKey (q::qs) k=some q.2:=by simp[atKey,List.find?_cons,e']
   rw[cT e,b];exact h2
  .have e':¬q.1=k:=λz=>e (h1.trans z);have b:atKey (q::qs) k=atKey qs k:=by simp[atKey,List.find?_cons,e']
   rw[cU e,b];exact ih
theorem KT.repl{kvs:List (List Key×V)}(r:KT H kvs xs)(k:List Key){y:V}{u:Value}(ry:RelV y u):
  KT H (kvs.map λkv=>if kv.1=k then(kv.1,y)else kv) (xs.map (putAt k u)):=by
 induction r with
 |nil=>exact .nil
 |@cons p q ps qs h t ih=>
  rw[zAk,zAk];refine .cons ?_ ih;obtain⟨h1,h2,h3⟩:=h;unfold putAt;by_cases e:p.1=k
  .rw[zAx e,zAx (h1.symm.trans e)];exact⟨h1,h2,ry⟩
  .rw[zAw e,zAw (λz=>e (h1.trans z))];exact⟨h1,h2,h3⟩
theorem KT.put{kvs:List (List Key×V)}(r:KT H kvs xs)(k:List Key){b:Addr}{y:V}{u:Value}(hb:H b=some (.tup (k.map kV)))(ry:RelV y u):
  KT H (putK kvs k y) (storedH xs k b u):=by
 have e:(kvs.any λkv=>decide (kv.1=k))=(atKey xs k).isSome:=by
  rw[fB,(r.val k).isSome_eq,Option.isSome_map]
 unfold putK storedH;rw[e];by_cases q:(atKey xs k).isSome=true
 .rw[zAx q,zAx q];exact r.repl k ry
 .rw[zAw q,zAw q];exact Paired.snoc r ⟨rfl,hb,ry⟩
theorem KT.keeps{kvs:List (List Key×V)}(r:KT H kvs xs)(ht:∀b ys,H b=some (.tup ys)->H' b=some (.tup ys)):KT H' kvs xs:=
 Paired.mapP r λ_ _ z=>⟨z.1,ht _ _ z.2.1,z.2.2⟩
section
variable{P:Program}{w:World}{H:Hp}{h:Heap}{a:Addr}
theorem HJ{u:HO}(ok:HOk P w H h)(e:Rd H a u):ObjOk P w H h a u:=e.ok ok
theorem uL(ok:HOk P w H h)(e:Rd H a (.dK kvs)):kvs.length<=sizeLine/\(a==sysModules)=false/\∃vs,KV kvs vs/\h.DictOf (bF P w) a vs:=
 show ObjOk P w H h a (.dK kvs)from HJ ok e
theorem HN(ok:HOk P w H h)(e:H a=some (.dK kvs)):kvs.length<=sizeLine/\(a==sysModules)=false/\∃vs,KV kvs vs/\h.DictOf (bF P w) a vs:=uL ok (.inl e)
theorem sZ{ks:List Key}(ok:HOk P w H h)(e:H a=some (.tup (ks.map kV))):(tupleKind (bF P w)).is h ks a:=by
 obtain⟨_,Zs,r,o,h1,h2,n,h3⟩:=(show ObjOk P w H h a (.tup (ks.map kV))from ok a _ e)
 exact⟨o,Zs.toArray,n,h1,h2,h3,by simpa using qN r⟩
theorem uM{kvs:List (List Key×V)}(ok:HOk P w H h)(e:Rd H a (.dT kvs)):kvs.length<=sizeLine/\(a==sysModules)=false /\
  ∃xs,KT H kvs xs/\h.DictOfH (tupleKind (bF P w)) a xs:=by
 obtain⟨z,y,xs,r,o,es,ep,h1,h2,h3,h4,h5⟩:=(show ObjOk P w H h a (.dT kvs)from HJ ok e)
 refine⟨z,y,xs,r,o,es,ep,h1,h2,h3,h4,λx hx=>?_,h5⟩
 have all:∀{l:List (List Key×V)} {m:List (List Key×Addr×Value)},KT H l m->∀x∈m,(tupleKind (bF P w)).is h x.1 x.2.1:=by
  intro l m q
  induction q with
  |nil=>intro x hx;exact nomatch hx
  |@cons p q ps qs hq t ih=>
   intro x hx;rcases zAo.mp hx with e|hx
   .subst e;exact sZ ok (by rw[<-hq.1];exact hq.2.1)
   .exact ih x hx
 exact all r x hx
theorem Cd{kvs:List (List Key×V)}(ok:HOk P w H h)(e:H a=some (.dT kvs)):kvs.length<=sizeLine/\(a==sysModules)=false /\
  ∃xs,KT H kvs xs/\h.DictOfH (tupleKind (bF P w)) a xs:=uM ok (.inl e)
end
def DGet(H:Hp)(a:Addr)(y:V)(r:Option V):Prop:=
 (∃kvs k,Rd H a (.dK kvs)/\y=kV k/\r=cD kvs k)\/∃kvs k b,Rd H a (.dT kvs)/\y=.ref b/\H b=some (.tup (k.map kV))/\r=cD kvs k
def DPut(H:Hp)(a:Addr)(y v:V)(H':Hp):Prop:=
 (∃kvs k,H a=some (.dK kvs)/\y=kV k/\kvs.length<sizeLine/\H'=upd H a (.dK (putK kvs k v))) \/
 ∃kvs k b,H a=some (.dT kvs)/\y=.ref b/\H b=some (.tup (k.map kV))/\kvs.length<sizeLine/\H'=upd H a (.dT (putK kvs k v))
theorem DGet.k{H:Hp}{a:Addr}{kvs:List (Key×V)}{k:Key}(e:H a=some (.dK kvs)):DGet H a (kV k) (cD kvs k):=.inl ⟨kvs,k,.inl e,rfl,rfl⟩
theorem DGet.t{a b:Addr}{kvs:List (List Key×V)}{k:List Key}(e:H a=some (.dT kvs))(eb:H b=some (.tup (k.map kV))):DGet H a (.ref b) (cD kvs k):=.inr ⟨kvs,k,b,.inl e,rfl,eb,rfl⟩
theorem DPut.k{H:Hp}{a:Addr}{kvs:List (Key×V)}{k:Key}{v:V}(e:H a=some (.dK kvs))(hl:kvs.length<sizeLine):DPut H a (kV k) v (upd H a (.dK (putK kvs k v))):=.inl ⟨kvs,k,e,rfl,hl,rfl⟩
theorem DPut.t{a b:Addr}{kvs:List (List Key×V)}{k:List Key}(e:H a=some (.dT kvs))(eb:H b=some (.tup (k.map kV)))(hl:kvs.length<sizeLine):
  DPut H a (.ref b) v (upd H a (.dT (putK kvs k v))):=.inr ⟨kvs,k,b,e,rfl,eb,hl,rfl⟩
section
variable{X:Cx}{Zt:List (Addr×Obj)}{σ:St}{H:Hp}{s:Shared}{a:Addr}{y v:V}{u r:Value}{o:Option V}{A:Around}{E:Value->Shared->Prop}
theorem Inv.big(I:Inv X Zt σ H s):sysModules<s.heap.objs.size:=by
 have h:mainGlobals<s.heap.objs.size:=(I.mod.glob.keeps I.bk).lt;exact Nat.lt_trans Zx h
theorem zZ{Q:Value->Shared->Prop}(hu:A.units+1<cLine)(I:Inv X Zt σ H s)(g:DGet H a y (some v))(ry:RelV y u)(h:∀w' s',Inv X Zt σ H s'->RelV v w'->Q w' s'):
  wpAny (model X.prog X.w) A (getItem (.ref a) u) Q E s:=by
 rcases g with⟨kvs,k,e,ey,l⟩|⟨kvs,k,b,e,ey,eb,l⟩
 .subst ey;obtain⟨z,hd,vs,rel,dd⟩:=uL I.hok e;obtain⟨w',hw,fE⟩:=RelO.some_of (v:=v) (o:=valueAt vs k) (by rw[l];exact rel.val k);exact wpAny_getItem_of (uK ry) dd.mapOf hw (h w' _ (I.tok _) fE)
 .subst ey;cases(show u=Value.ref b from ry);obtain⟨z,hd,xs,rel,dd⟩:=uM I.hok e;obtain⟨w',hw,fE⟩:=RelO.some_of (v:=v) (o:=(atKey xs k).map (·.2)) (by rw[l];exact rel.val k);obtain⟨p,hp,BG⟩:=Option.map_eq_some_iff.mp hw;refine wpAny_getItem_heap (tupleKind_room_in1 hu) (sZ I.hok eb) dd hp ?_;rw[BG];exact h w' _ (I.tok _) fE
theorem mZ{h':Heap}{t':Nat}{ob:HO}(I:Inv X Zt σ H s)(mu:Mut (H a))(hs:Heap.SameBut a s.heap h')(he:∃q,h'.get? a=some q)(new:ObjOk X.prog X.w (upd H a ob) h' a ob):
  Inv X Zt σ (upd H a ob) {s with heap:=h',toks:=t'}:=
 I.write (x:=a) (e:=a) mu (.inl rfl) (λb q hb z=>(hs.2 b hb).trans z) he new
theorem Ce{w:World}{h':Heap}{vs:List (Key×Value)}(z:kvs.length<=sizeLine)(hd:(a==sysModules)=false)(rel:KV kvs vs)(dd:h'.DictOf (bF P w) a vs):
  ObjOk P w H' h' a (.dK kvs):=⟨z,hd,vs,rel,dd⟩
theorem qO{Q:Unit->Shared->Prop}(hu:A.units+1<cLine)(I:Inv X Zt σ H s)(g:DPut H a y v H')(ry:RelV y u)(rv:RelV v r)(h:∀s',Inv X Zt σ H' s'->Q () s'):
  wpAny (model X.prog X.w) A (setItem (.ref a) u r) Q E s:=by
 rcases g with⟨kvs,k,e,ey,l,eH⟩|⟨kvs,k,b,e,ey,eb,l,eH⟩
 .subst ey eH;obtain⟨z,hd,vs,rel,dd⟩:=HN I.hok e;have hz:vs.length<=sizeLine:=by rw[<-rel.length];exact z
  have hl:(putK kvs k v).length<=sizeLine:=by have:=cV kvs k v;lia
  refine wpAny_setItem_pairs (hsz:=hz) (uK ry) dd λh' oB hs=>h _ ?_
  have he:∃q,h'.get? a=some q:=by obtain⟨q,_,_,hq,_⟩:=oB;exact⟨q,hq⟩
  exact mZ I (by rw[e];exact True.intro) hs he (Ce hl hd (rel.put k rv) oB)
 .subst ey eH;cases(show u=Value.ref b from ry);obtain⟨z,hd,xs,rel,dd⟩:=Cd I.hok e;have hz:xs.length<=sizeLine:=by rw[<-Paired.length rel];exact z
  have hl:(putK kvs k v).length<=sizeLine:=by have:=cV kvs k v;lia
  refine wpAny_setItem_heap (hsz:=hz) (tupleKind_room_in1 hu) (sZ I.hok eb) dd λh' oB hs=>h _ ?_;obtain⟨q,es,ep,hq,h2,h3,h4,_,h5⟩:=oB;refine mZ I (by rw[e];exact True.intro) hs ⟨q,hq⟩ ⟨hl,hd,_,(rel.put k eb rv).keeps λc ys ec=>?_,q,es,ep,hq,h2,h3,h4,h5⟩;rw[az (Ht ec e (λz=>nomatch z))];exact ec
end
section
variable{X:Cx}{Zt:List (Addr×Obj)}{σ:St}{H:Hp}{s:Shared}{a:Addr}{kvs:List (Key×V)}{k:Key}{u:Value}{A:Around}{E:Value->Shared->Prop}
end
def Kl(i:Expr):Prop:=∀ov iv,subscripted i false ov iv=operate [ov,iv] (getItem ov iv)
theorem FW{prog:Program}{w:World}{A:Around}{env:Env}{value slice:Expr}{pos:Pos}{T id:String}{Q:Value->Shared->Prop}
  (hl:typeLookup (.type T) "__getitem__"=pure (some (.builtin id))) (hs:Kl slice)
  (h:wpAny (model prog w) A (eval value env) (λo s₁=>wpAny (model prog w) A (eval slice env) (λi s₂=>s₂.TypeIs o T/\wpAny (model prog w) A (getItem o i) Q E s₂) E s₁) E s):
  wpAny (model prog w) A (eval (.Subscript value slice pos) env) Q E s:=by
 refine Subscript_ (wpAny_mono h (λo s₁ dA=>wpAny_mono dA (λi s₂ vS=>?_) λ_ _ x=>x) λ_ _ x=>x);obtain⟨hT,vS⟩:=vS;unfold subscriptTail;refine zAv ?_;rw[getitemInPython_of_ne hT.not_modules];refine zAv (wpAny_specialOf hT hl ?_)
 have fin:wpAny (model prog w) A (subscripted slice false o i) (λr s₃=>wpAny (model prog w) A (letTemporaryGo value o r>>=λ_=>pure r) Q E s₃) E s₂:=by
  rw[hs o i];exact wpAny_operating (wpAny_mono vS (λr s₃ FR=>zAv (wpAny_letTemporaryGo (zAz FR))) λ_ _ x=>x)
 first
  |exact zAz (zAv fin)
  |exact zAv (zAz (zAv fin))
  |exact zAv fin
theorem uN{Zt:List (Addr×Obj)}{a:Addr}{y:V}{o:Option V}(I:Inv X Zt σ H s)(g:DGet H a y o):s.TypeIs (.ref a) "dict":=by
 rcases g with⟨kvs,k,e,_,_⟩|⟨kvs,k,b,e,_,_,_⟩
 .obtain⟨_,_,vs,_,dd⟩:=uL I.hok e;exact dd.typeIs
 .obtain⟨_,_,xs,_,dd⟩:=uM I.hok e;exact dd.typeIs
def Km(td ty:TE):TE:=λσ H Q=>td σ H λx H1=>ty σ H1 λy H2=>∃a v,x=.ref a/\DGet H2 a y (some v)/\Q v H2
def Ko(td ty tv:TE):TS:=λD σ H=>tv σ H λv H1=>td σ H1 λx H2=>ty σ H2 λy H3=>∃a H4,x=.ref a/\DPut H3 a y v H4/\D.nx σ H4
section
variable{X:Cx}{o i e value:Expr}{pos pos' tT:Pos}{td ty tv:TE}
theorem fQ(hu:X.A.units+1<cLine)(ho:PE X o td)(hi:PE X i ty)(hs:Kl i):PE X (.Subscript o i pos) (Km td ty):=by
 intro Zt s σ H Q I h;refine FW PySem.F.slot_dict_getitem.lookup hs (thn (ho Zt s σ H _ I h) λu s1 ⟨x,H1,I1,rx,q1⟩=>thn (hi Zt s1 σ H1 _ I1 q1) λiv s2=>?_);rintro⟨y,H2,I2,ry,a,v,ex,g,q2⟩;subst ex;obtain rfl:u=Value.ref a:=rx;exact⟨uN I2 g,zZ hu I2 g ry λw' s3 I3 fE=>⟨v,H2,I3,fE,q2⟩⟩
theorem ni(hu:X.A.units+1<cLine)(ho:PE X o td)(hi:PE X i ty)(hv:PE X value tv)(hs:swapsWith value (some (.Subscript o i pos')) pos.line X.env=pure false):
  PS X (.Assign [.Subscript o i pos'] value pos) (Ko td ty tv):=by
 intro Zt s σ H D I h;refine wpAny_Assign_Subscript (thn (hv Zt s σ H _ I h) λr s1 ⟨v,H1,I1,rv,q1⟩=>thn (ho Zt s1 σ H1 _ I1 q1) λu s2 ⟨x,H2,I2,rx,q2⟩=>thn (hi Zt s2 σ H2 _ I2 q2) λiv s3=>?_) hs;rintro⟨y,H3,I3,ry,a,H4,ex,g,q3⟩;subst ex;obtain rfl:u=Value.ref a:=rx
 exact qO hu I3 g ry rv λs4 I4=>⟨σ,H4,I4,q3⟩
end
theorem uO{w:World}(h:Heap)(hb:sysModules<h.objs.size):ObjOk P w H (h.push {cls:=.type "dict",data:=.dict #[]}) h.objs.size (.dK []):=
 ⟨zAp _,beq_eq_false_iff_ne.mpr (Ne.symm (zBd hb)),[],.nil,Heap.DictOf.new h⟩
theorem Cg{w:World}(h:Heap)(hb:sysModules<h.objs.size):ObjOk P w H (h.push {cls:=.type "dict",data:=.dict #[]}) h.objs.size (.dT []):=
 ⟨zAp _,beq_eq_false_iff_ne.mpr (Ne.symm (zBd hb)),[],.nil,_,#[],0,zB4 _ rfl,⟨rfl,rfl,rfl⟩,rfl,rfl,List.nodup_nil⟩
def Jd:TE:=λ_ H Q=>∀p,H p=none->Q (.ref p) (upd H p (.dT []))
section
variable{X:Cx}{pos:Pos}
theorem oH:PE X (.Dict [] [] pos) Jd:=λZt s σ H Q I h=>
 wpAny_Dict_empty ⟨.ref s.heap.objs.size,_,I.laid (a:=s.heap.objs.size) (o:=.dT []) (t':=s.toks) (λ_ _ q=>zAy _ q) (zA3 _) (Cg s.heap I.big),rfl,h _ (I.hok.fresh (zA3 _))⟩
end
def wI:List (TE×TE)->St->Hp->(List (V×V)->Hp->Prop)->Prop
 |[],_,H,Q=>Q [] H
 | (tk,tv)::r,σ,H,Q=>tk σ H λx H1=>tv σ H1 λy H2=>wI r σ H2 λps H3=>Q ((x,y)::ps) H3
abbrev VV:List (V×V)->List (Value×Value)->Prop:=Paired λp q=>RelV p.1 q.1/\RelV p.2 q.2
def PPs(X:Cx)(pos:Pos)(keys:List (Option Expr))(values:List Expr)(oC:List (TE×TE)):Prop:=
 ∀(Zt:List (Addr×Obj)) (s:Shared) (σ:St) (H:Hp) (Q:List (V×V)->Hp->Prop),Inv X Zt σ H s->wI oC σ H Q->
  wpAny (model X.prog X.w) X.A (evalPairs (pairTrees keys values X.env pos)) (λvs s'=>∃ps H',Inv X Zt σ H' s'/\VV ps vs/\Q ps H') X.xe s
theorem FZ{pos:Pos}:PPs X pos [] [] []:=λZt s σ H Q I h=>pairTrees_nil_walk ⟨[],H,I,.nil,h⟩
theorem Ci{pos:Pos}{k v:Expr}{ks:List (Option Expr)}{vs:List Expr}{tk tv:TE}{oC:List (TE×TE)}(hk:PE X k tk)(hv:PE X v tv)(hr:PPs X pos ks vs oC):
  PPs X pos (some k::ks) (v::vs) ((tk,tv)::oC):=λZt s σ H Q I h=>
 pairTrees_cons_walk (thn (hk Zt s σ H _ I h) λu s1 ⟨x,H1,I1,rx,q1⟩=>thn (hv Zt s1 σ H1 _ I1 q1) λw2 s2 ⟨y,H2,I2,ry,q2⟩=>
  thn (hr Zt s2 σ H2 _ I2 q2) λws s3=>by rintro⟨ps,H3,I3,rel,q3⟩;exact⟨(x,y)::ps,H3,I3,.cons ⟨rx,ry⟩ rel,q3⟩)
def iJ(kvs more:List (Key×V)):List (Key×V):=more.foldl (λacc kv=>putK acc kv.1 kv.2) kvs
theorem KV.merge:∀{more:List (Key×V)} {rs:List (Key×Value)} {kvs:List (Key×V)} {vs:List (Key×Value)},KV more rs->KV kvs vs->KV (iJ kvs more) (merged vs rs):=by
 intro more rs kvs vs r;unfold KV at r
 induction r generalizing kvs vs with
 |nil=>intro q;exact q
 |@cons p q ps qs h t ih=>
  intro r0
  have e:KV (putK kvs p.1 p.2) (stored vs q.1 q.2):=by
   have:=r0.put p.1 h.2;rw[<-h.1];exact this
  exact ih e
theorem jn:∀(more kvs:List (Key×V)),(iJ kvs more).length<=kvs.length+more.length
 |[],kvs=>by show kvs.length<=kvs.length+0;lia
 |p::r,kvs=>by
  have h1:=jn r (putK kvs p.1 p.2);have h2:=cV kvs p.1 p.2;show(iJ (putK kvs p.1 p.2) r).length<=_;rw[zAe];lia
theorem oJ{P:Program}{w:World}:∀{kvs:List (Key×V)} {ws:List (Value×Value)},VV (kvs.map λkv=>(kV kv.1,kv.2)) ws->∃rs,Carries (bF P w) ws rs/\KV kvs rs
 |[],_,r=>by rw[List.map_nil]at r;cases r;exact⟨[],True.intro,.nil⟩
 |p::kvs,_,r=>by
  rw[zAk]at r
  cases r with
  |@cons a b as bs h t=>
   obtain⟨rs,c,q⟩:=oJ (P:=P) (w:=w) t;obtain⟨b1,b2⟩:=b;exact⟨(p.1,b2)::rs,⟨uK h.1,rfl,c⟩,.cons ⟨rfl,h.2⟩ q⟩
def Kp(oC:List (TE×TE)):TE:=λσ H Q=>∀p,H p=none->wI oC σ (upd H p (.dK [])) λps H2=>H2 p=some (.dK [])/\∃kvs:List (Key×V),ps=kvs.map (λkv=>(kV kv.1,kv.2))/\kvs.length<=15/\Q (.ref p) (upd H2 p (.dK (iJ [] kvs)))
theorem G3{pos:Pos}{keys:List (Option Expr)}{values:List Expr}{oC:List (TE×TE)}(h:PPs X pos keys values oC)(fF:keys.all (·.isSome)=true)(hl:keys.length=values.length)(h0:keys≠[])
  (Qg:keys.length<=15):PE X (.Dict keys values pos) (Kp oC):=by
 intro Zt s σ H Q I q;have hn:=I.hok.fresh (zA3 s.heap.objs.size);have I1:=I.laid (a:=s.heap.objs.size) (o:=.dK []) (h':=s.heap.push {cls:=.type "dict",data:=.dict #[]}) (t':=s.toks) (λ_ _ q=>zAy _ q) (zA3 _) (uO s.heap I.big);refine wpAny_Dict_walk (knd:=bF X.prog X.w) fF hl h0 Qg (thn (h Zt _ σ _ _ I1 (q _ hn)) λws s2=>?_);rintro⟨ps,H2,I2,rel,e,kvs,ep,lk,q2⟩;subst ep;obtain⟨rs,c,rk⟩:=oJ (P:=X.prog) (w:=X.w) rel;obtain⟨z,hd,WN,r0,dd⟩:=HN I2.hok e;cases r0;refine⟨rs,c,dd,λh' oB hs=>⟨.ref s.heap.objs.size,_,?_,rfl,q2⟩⟩
 have hz:(iJ [] kvs).length<=sizeLine:=by
  have h1:=jn kvs [];rw[List.length_nil]at h1;rw[sizeLine_eq];lia
 have he:∃q,h'.get? s.heap.objs.size=some q:=by obtain⟨q,_,_,hq,_⟩:=oB;exact⟨q,hq⟩
 exact mZ I2 (by rw[e];exact True.intro) hs he (Ce hz hd (rk.merge .nil) oB)
structure M2(X:Cx)(o:Expr)(m:Str)(apos:Pos)(e f:Expr)(cv:Pos):Prop where
 base:attributeBase o m X.env (eval o X.env)=eval o X.env
 few:((backTo cv (starEach [e,f] X.env)).all (λx=>!x.1)&&(backToKw cv (keywordEach [] X.env)).all (λx=>x.1.isSome)
  && decide (([e,f]:List Expr).length+([]:List Keyword).length+(if([]:List Keyword).isEmpty then 0 else 1)<30))=true
 line:(apos.endLine==cv.line)=true
 trees:backTo cv (starEach [e,f] X.env)=[(false,eval e X.env),(false,eval f X.env)]
def IsD(H:Hp)(a:Addr):Prop:=(∃kvs,Rd H a (.dK kvs))\/∃kvs,Rd H a (.dT kvs)
theorem Je{Zt:List (Addr×Obj)}{a:Addr}(I:Inv X Zt σ H s)(d:IsD H a):
  s.TypeIs (.ref a) "dict"/\(∀b,Value.ref a=.ref b->∃ob,s.heap.get? b=some ob/\ob.dict=none)/\(a==sysModules)=false:=by
 rcases d with⟨kvs,e⟩|⟨kvs,e⟩
 .obtain⟨_,hd,vs,_,dd⟩:=uL I.hok e;refine⟨dd.typeIs,λb q=>?_,hd⟩;cases q;obtain⟨ob,_,_,h1,h2,_⟩:=dd;exact⟨ob,h1,h2.2.1⟩
 .obtain⟨_,hd,xs,_,dd⟩:=uM I.hok e;refine⟨dd.typeIs,λb q=>?_,hd⟩;cases q;obtain⟨ob,_,_,h1,h2,_⟩:=dd;exact⟨ob,h1,h2.2.1⟩
section
variable{X:Cx}{Zt:List (Addr×Obj)}{σ:St}{H:Hp}{s:Shared}{a:Addr}{y d:V}{u r:Value}{o:Option V}{A:Around}{E:Value->Shared->Prop}
theorem Jf{Q:Value->Shared->Prop}(hu:A.units+1<cLine)(I:Inv X Zt σ H s)(g:DGet H a y o)(ry:RelV y u)(rd:RelV d r)(h:∀w' s',Inv X Zt σ H s'->RelV (o.getD d) w'->Q w' s'):
  wpAny (model X.prog X.w) A (call (.builtin "dict.get") [.ref a,u,r]) Q E s:=by
 rcases g with⟨kvs,k,e,ey,l⟩|⟨kvs,k,b,e,ey,eb,l⟩
 .subst ey;obtain⟨z,hd,vs,rel,dd⟩:=uL I.hok e;refine call_meetsIn PySem.F.slot_dict_get dd.typeIs PySem.F.entry_dict_get (PySem.F.args_dict_get_3 _ _ _) (meets_dict_get_default (bF X.prog X.w) a (uK ry) hd r) ⟨_,dd.mapOf,h _ _ (I.tok _) ?_⟩;rw[l];exact(rel.val k).getD rd
 .subst ey;cases(show u=Value.ref b from ry);obtain⟨z,hd,xs,rel,dd⟩:=uM I.hok e;refine call_meetsIn PySem.F.slot_dict_get dd.typeIs PySem.F.entry_dict_get (PySem.F.args_dict_get_3 _ _ _) (meetsH_dict_get_default (tupleKind (bF X.prog X.w)) a b hd r) ⟨tupleKind_room_in1 hu,k,xs,sZ I.hok eb,dd,h _ _ (I.tok _) ?_⟩;rw[l];exact(rel.val k).getD rd
end
def Jg(td ty tx:TE):TE:=λσ H Q=>td σ H λx H1=>∃a,x=.ref a/\IsD H1 a/\ty σ H1 λy H2=>tx σ H2 λz H3=>∃o,DGet H3 a y o/\Q (o.getD z) H3
section
variable{X:Cx}{o e f:Expr}{apos cv:Pos}{td ty tx:TE}
theorem oK(hu:X.A.units+1<cLine)(ho:PE X o td)(he:PE X e ty)(hf:PE X f tx)(m:M2 X o "get" apos e f cv):PE X (.Call (.Attribute o "get" apos) [e,f] [] cv) (Jg td ty tx):=by
 intro Zt s σ H Q I h;refine wpAny_Call_method m.base m.few m.line PySem.F.plainAttrs_dict PySem.F.slot_dict_get PySem.F.type_dict_get (thn (ho Zt s σ H _ I h) λu s1=>?_);rintro⟨x,H1,I1,rx,a,ex,d,q1⟩;subst ex;obtain rfl:u=Value.ref a:=rx;obtain⟨t1,t2,_⟩:=Je I1 d;refine⟨t1,t2,?_⟩;rw[m.trees]
 refine Calls.callWith_builtin rfl (Calls.evalArgs_plain (Calls.spliced_cons (thn (he Zt s1 σ H1 _ I1 q1) λiv s2 ⟨y,H2,I2,ry,q2⟩=>
  Calls.spliced_cons (thn (hf Zt s2 σ H2 _ I2 q2) λfv s3 ⟨z,H3,I3,rz,ov,g,q3⟩=>Calls.spliced_nil ?_))))
 exact Jf hu I3 g ry rz λw' s4 I4 fE=>⟨_,H3,I4,fE,q3⟩
end
section
variable{X:Cx}{Zt:List (Addr×Obj)}{σ:St}{H:Hp}{s:Shared}{a:Addr}{kvs:List (Key×V)}{A:Around}{E:Value->Shared->Prop}
end
section
variable{X:Cx}{Zt:List (Addr×Obj)}{σ:St}{H:Hp}{s:Shared}{a:Addr}{y:V}{u:Value}{A:Around}{E:Value->Shared->Prop}
end
def G4:Key->PyData
 |.inl i=>.int i
 |.inr x=>.str x
mutual
inductive IsTh(S:Addr->Prop)(H:Hp):V->PyData->Prop
 |non:IsTh S H .non .none
 |bl (b:Bool):IsTh S H (.bl b) (.bool b)
 |int (i:Int):IsTh S H (.int i) (.int i)
 |str (x:Str):IsTh S H (.str x) (.str x)
 |lst {a:Addr} {xs:List V} {ds:List PyData} (hs:S a) (e:H a=some (.lst xs)) (r:IsThs S H xs ds):IsTh S H (.ref a) (.list ds)
 |tup {a:Addr} {xs:List V} {ds:List PyData} (e:H a=some (.tup xs)) (r:IsThs S H xs ds):IsTh S H (.ref a) (.tuple ds)
 |dct {a:Addr} {ks:List (Key×Int)} (hs:S a) (e:H a=some (.dK (ks.map λp=>(p.1,V.int p.2)))):IsTh S H (.ref a) (.dict (ks.map λp=>(G4 p.1,.int p.2)))
inductive IsThs(S:Addr->Prop)(H:Hp):List V->List PyData->Prop
 |nil:IsThs S H [] []
 |cons {v:V} {d:PyData} {vs:List V} {ds:List PyData} (h:IsTh S H v d) (t:IsThs S H vs ds):IsThs S H (v::vs) (d::ds)
end
section
variable{S S':Addr->Prop}{H H':Hp}
theorem IsThs.length:∀{vs:List V} {ds:List PyData},IsThs S H vs ds->vs.length=ds.length
 |_,_,.nil=>rfl
 |_,_,.cons _ t=>by rw[zAe,zAe,IsThs.length t]
theorem IsThs.get:∀{vs:List V} {ds:List PyData} {i:Nat} {v:V},IsThs S H vs ds->vs[i]?=some v->∃d,ds[i]?=some d/\IsTh S H v d
 |_,_,_,_,.nil,e=>by simp at e
 |_,_,0,_,.cons h _,e=>by simp at e;subst e;exact⟨_,rfl,h⟩
 |_,_,i+1,v,.cons _ t,e=>by
  obtain⟨d,h1,h2⟩:=IsThs.get (i:=i) (v:=v) t (by simpa using e);exact⟨d,by simpa using h1,h2⟩
theorem IsThs.append:∀{vs ws:List V} {ds es:List PyData},IsThs S H vs ds->IsThs S H ws es->IsThs S H (vs++ws) (ds++es)
 |_,_,_,_,.nil,s=>s
 |_,_,_,_,.cons h t,s=>.cons h (IsThs.append t s)
theorem IsThs.ints:∀(ns:PP),IsThs S H (ns.map V.int) (ns.map PyData.int)
 |[]=>.nil
 |n::ns=>.cons (.int n) (IsThs.ints ns)
mutual
theorem IsTh.keep(ht:∀b xs,H b=some (.tup xs)->H' b=some (.tup xs))(hs:∀b o,S b->H b=some o->H' b=some o)(hS:∀b o,S b->H b=some o->S' b):∀{v:V} {d:PyData},IsTh S H v d->IsTh S' H' v d
 |_,_,.non=>.non
 |_,_,.bl b=>.bl b
 |_,_,.int i=>.int i
 |_,_,.str x=>.str x
 |_,_,.lst s e r=>.lst (hS _ _ s e) (hs _ _ s e) (IsThs.keep ht hs hS r)
 |_,_,.tup e r=>.tup (ht _ _ e) (IsThs.keep ht hs hS r)
 |_,_,.dct s e=>.dct (hS _ _ s e) (hs _ _ s e)
theorem IsThs.keep(ht:∀b xs,H b=some (.tup xs)->H' b=some (.tup xs))(hs:∀b o,S b->H b=some o->H' b=some o)(hS:∀b o,S b->H b=some o->S' b):∀{vs:List V} {ds:List PyData},IsThs S H vs ds->IsThs S' H' vs ds
 |_,_,.nil=>.nil
 |_,_,.cons h t=>.cons (IsTh.keep ht hs hS h) (IsThs.keep ht hs hS t)
end
def tyD:PyData->String
 |.none=>"NoneType"
 |.bool _=>"bool"
 |.int _=>"int"
 |.str _=>"str"
 |.list _=>"list"
 |.tuple _=>"tuple"
 |.dict _=>"dict"
theorem IsTh.ty{K:Frag}{d:PyData}(h:IsTh S H v d):TyOf K H v (.type (tyD d)):=by
 cases h with
 |non=>exact .non
 |bl b=>exact .bl b
 |int i=>exact .int i
 |str x=>exact .str x
 |lst s e r=>exact .lst e
 |tup e r=>exact .tup e
 |dct s e=>exact .dK e
def tu:PyData->Bool
 |.int _=>true
 |.bool _=>true
 |_=>false
def tD:PyData->Bool
 |.bool _=>true
 |_=>false
def tE:PyData->Bool
 |.tuple _=>true
 |_=>false
theorem G5{K:Frag}(d:PyData):PySem.W.kitOne K (.type (tyD d)) (.type "int")=some (tu d):=by
 cases d
 .exact lB
 .exact sS
 .exact uH
 .exact uI
 .exact sX
 .exact qg
 .exact sY
theorem Cj{K:Frag}(d:PyData):PySem.W.kitOne K (.type (tyD d)) (.type "bool")=some (tD d):=by
 cases d
 .exact jJ
 .exact q9
 .exact sV
 .exact sW
 .exact qe
 .exact oF
 .exact qi
theorem G6{K:Frag}(d:PyData):PySem.W.kitOne K (.type (tyD d)) (.type "tuple")=some (tE d):=by
 cases d
 .exact jr
 .exact oA
 .exact qb
 .exact qd
 .exact oE
 .exact mO
 .exact oG
end
mutual
def sz:PyData->Nat
 |.none=>1
 |.bool _=>1
 |.int _=>1
 |.str _=>1
 |.list xs=>1+szs xs
 |.tuple xs=>1+szs xs
 |.dict kvs=>1+4*kvs.length
def szs:List PyData->Nat
 |[]=>0
 |x::xs=>sz x+szs xs
end
mutual
def tame:PyData->Bool
 |.none=>true
 |.bool _=>true
 |.int i=>decide (i.natAbs<2^128)
 |.str x=>decide (x.length<=10)&&x.cps.toList.all λc=>decide (c<16^8)
 |.list xs=>iK xs
 |.tuple xs=>iK xs
 |.dict kvs=>aV kvs
def iK:List PyData->Bool
 |[]=>true
 |x::xs=>tame x&&iK xs
def aV:List (PyData×PyData)->Bool
 |[]=>true
 | (.int i,.int j)::r=>decide (i.natAbs<2^128)&&decide (j.natAbs<2^128)&&aV r
 | (.str x,.int j)::r=>(decide (x.length<=10)&&x.cps.toList.all λc=>decide (c<16^8))&&decide (j.natAbs<2^128)&&aV r
 |_::_=>false
end
theorem nj{i:Int}(h:i.natAbs<2^128):(Str.ofString (toString i)).length<=130:=by
 have e:=int_text_length_le (a:=i) (k:=128) Zx (by
  by_cases h0:i.natAbs=0
  .rw[h0];decide
  .exact(Nat.log2_lt h0).mpr h)
 rw[PySem.ofString_length];lia
theorem mz:∀(ts:List Str) (k:Nat) (acc:Str),(textFrom k acc ts).length<=acc.length+piled ts
 |[],k,acc=>by show acc.length<=acc.length+0;lia
 |t::r,k,acc=>by
  have h:=mz r (k+1) (acc++(if k>0 then ", " else "":String)++t)
  have e:(acc++(if k>0 then ", " else "":String)++t).length<=acc.length+2+t.length:=by
   rw[strLen_append,strLen_append];split
   .show acc.length+2+t.length<=_;lia
   .show acc.length+0+t.length<=_;lia
  rw[piled_cons];show(textFrom (k+1) _ r).length<=_;lia
theorem uP(ts:List Str):(listText ts).length<=piled ts+2:=by
 have h:=mz ts 0 "[";unfold listText;rw[strLen_append];have e1:(("[":Str)).length=1:=rfl;have e2:(("]":Str)).length=1:=rfl;lia
theorem yd(ts:List Str):(Str.join ", " ts).length<=piled ts:=by
 by_cases h:ts=[]
 .subst h;show 0<=_;lia
 .have:=join_length_add ts h;lia
theorem tG(ts:List Str):(tupleText ts).length<=piled ts+3:=by
 have h:=yd ts;unfold tupleText;rw[strLen_append,strLen_append];have e1:(("(":Str)).length=1:=rfl
 have e2:((if ts.length==1 then ",)" else ")":String):Str).length<=2:=by
  split
  .exact zA3 2
  .exact Zar 1
 lia
theorem uQ(ts:List Str):(dictText ts).length<=piled ts+2:=by
 have h:=yd ts;unfold dictText;rw[strLen_append,strLen_append];have e1:(("{":Str)).length=1:=rfl;have e2:(("}":Str)).length=1:=rfl;lia
theorem shownKv_le:∀(kvs:List (PyData×PyData)),aV kvs=true->piled (PyData.shownKv kvs)<=400*kvs.length
 |[],_=>by show 0<=_;lia
 | (.int i,.int j)::r,h=>by
  have h':(decide (i.natAbs<2^128)&&decide (j.natAbs<2^128)&&aV r)=true:=h;simp only[Bool.and_eq_true,Zq]at h';have h1:=nj h'.1.1;have h2:=nj h'.1.2;have h3:=shownKv_le r h'.2;show piled ((PyData.shown (.int i)++": " ++ PyData.shown (.int j))::PyData.shownKv r)<=_;rw[piled_cons,strLen_append,strLen_append];have e1:((": ":Str)).length=2:=rfl;have e2:PyData.shown (.int i)=Str.ofString (toString i):=rfl;have e3:PyData.shown (.int j)=Str.ofString (toString j):=rfl;rw[e1,e2,e3,zAe];lia
 | (.none,_)::_,h=>by simp[aV]at h
 | (.bool _,_)::_,h=>by simp[aV]at h
 | (.str x,.int j)::r,h=>by
  have h':((decide (x.length<=10)&&x.cps.toList.all λc=>decide (c<16^8))&&decide (j.natAbs<2^128)&&aV r)=true:=h;rw[zAc,zAc,zAc,Zq,Zq]at h';have h0:x.length<=10:=h'.1.1.1
  have h1:=StrLaws.reprText_len x λc hc=>by simpa using Zaf.mp h'.1.1.2 c hc
  have h2:=nj h'.1.2;have h3:=shownKv_le r h'.2;show piled ((PyData.shown (.str x)++": " ++ PyData.shown (.int j))::PyData.shownKv r)<=_;rw[piled_cons,strLen_append,strLen_append];have e1:((": ":Str)).length=2:=rfl;have e2:PyData.shown (.str x)=reprText x:=rfl;have e3:PyData.shown (.int j)=Str.ofString (toString j):=rfl;rw[e1,e2,e3,zAe];lia
 | (.str _,.none)::_,h=>by simp[aV]at h
 | (.str _,.bool _)::_,h=>by simp[aV]at h
 | (.str _,.str _)::_,h=>by simp[aV]at h
 | (.str _,.list _)::_,h=>by simp[aV]at h
 | (.str _,.tuple _)::_,h=>by simp[aV]at h
 | (.str _,.dict _)::_,h=>by simp[aV]at h
 | (.list _,_)::_,h=>by simp[aV]at h
 | (.tuple _,_)::_,h=>by simp[aV]at h
 | (.dict _,_)::_,h=>by simp[aV]at h
 | (.int _,.none)::_,h=>by simp[aV]at h
 | (.int _,.bool _)::_,h=>by simp[aV]at h
 | (.int _,.str _)::_,h=>by simp[aV]at h
 | (.int _,.list _)::_,h=>by simp[aV]at h
 | (.int _,.tuple _)::_,h=>by simp[aV]at h
 | (.int _,.dict _)::_,h=>by simp[aV]at h
mutual
theorem qP:∀(d:PyData),tame d=true->d.shown.length+2<=200*sz d
 |.none,_=>by decide +kernel
 |.bool true,_=>by decide +kernel
 |.bool false,_=>by decide +kernel
 |.int i,h=>by
  have:=nj (i:=i) (by simpa[tame]using h);show(Str.ofString (toString i)).length+2<=200*1;lia
 |.str x,h=>by
  have h':(decide (x.length<=10)&&x.cps.toList.all λc=>decide (c<16^8))=true:=h;rw[zAc]at h';have h1:x.length<=10:=by simpa using h'.1
  have:=StrLaws.reprText_len x λc hc=>by simpa using Zaf.mp h'.2 c hc
  show(reprText x).length+2<=200*1;lia
 |.list xs,h=>by
  have h1:=ik xs (by simpa[tame]using h);have h2:=uP (PyData.shownAll xs);show(listText (PyData.shownAll xs)).length+2<=200*(1+szs xs);lia
 |.tuple xs,h=>by
  have h1:=ik xs (by simpa[tame]using h);have h2:=tG (PyData.shownAll xs);show(tupleText (PyData.shownAll xs)).length+2<=200*(1+szs xs);lia
 |.dict kvs,h=>by
  have h1:=shownKv_le kvs (by simpa[tame]using h);have h2:=uQ (PyData.shownKv kvs);show(dictText (PyData.shownKv kvs)).length+2<=200*(1+4*kvs.length);lia
theorem ik:∀(xs:List PyData),iK xs=true->piled (PyData.shownAll xs)<=200*szs xs
 |[],_=>by show 0<=_;lia
 |x::xs,h=>by
  have h':(tame x&&iK xs)=true:=h;rw[zAc]at h';have h1:=qP x h'.1;have h2:=ik xs h'.2;show piled (PyData.shown x::PyData.shownAll xs)<=200*(sz x+szs xs);rw[piled_cons];lia
end
theorem gK:∀(kvs:List (PyData×PyData)),aV kvs=true->PyData.showableKv kvs=true
 |[],_=>rfl
 | (.int i,.int j)::r,h=>by
  have h':(decide (i.natAbs<2^128)&&decide (j.natAbs<2^128)&&aV r)=true:=h;simp only[Bool.and_eq_true,Zq]at h'
  have big:∀{n:Int},n.natAbs<2^128->n.natAbs.log2<1920:=λ{n} hn=>by
   by_cases h0:n.natAbs=0
   .rw[h0];decide
   .exact Nat.lt_trans ((Nat.log2_lt h0).mpr hn) Zx
  simp only[PyData.showableKv,PyData.showable,Bool.and_eq_true,Zq];exact⟨⟨big h'.1.1,big h'.1.2⟩,gK r h'.2⟩
 | (.none,_)::_,h=>by simp[aV]at h
 | (.bool _,_)::_,h=>by simp[aV]at h
 | (.str x,.int j)::r,h=>by
  have h':((decide (x.length<=10)&&x.cps.toList.all λc=>decide (c<16^8))&&decide (j.natAbs<2^128)&&aV r)=true:=h;rw[zAc,zAc,Zq]at h'
  have big:∀{n:Int},n.natAbs<2^128->n.natAbs.log2<1920:=λ{n} hn=>by
   by_cases h0:n.natAbs=0
   .rw[h0];decide
   .exact Nat.lt_trans ((Nat.log2_lt h0).mpr hn) Zx
  simp only[PyData.showableKv,PyData.showable,Bool.and_eq_true,Zq];exact⟨⟨trivial,big h'.1.2⟩,gK r h'.2⟩
 | (.str _,.none)::_,h=>by simp[aV]at h
 | (.str _,.bool _)::_,h=>by simp[aV]at h
 | (.str _,.str _)::_,h=>by simp[aV]at h
 | (.str _,.list _)::_,h=>by simp[aV]at h
 | (.str _,.tuple _)::_,h=>by simp[aV]at h
 | (.str _,.dict _)::_,h=>by simp[aV]at h
 | (.list _,_)::_,h=>by simp[aV]at h
 | (.tuple _,_)::_,h=>by simp[aV]at h
 | (.dict _,_)::_,h=>by simp[aV]at h
 | (.int _,.none)::_,h=>by simp[aV]at h
 | (.int _,.bool _)::_,h=>by simp[aV]at h
 | (.int _,.str _)::_,h=>by simp[aV]at h
 | (.int _,.list _)::_,h=>by simp[aV]at h
 | (.int _,.tuple _)::_,h=>by simp[aV]at h
 | (.int _,.dict _)::_,h=>by simp[aV]at h
mutual
theorem mD:∀(d:PyData),tame d=true->d.showable=true
 |.none,_=>rfl
 |.bool _,_=>rfl
 |.int i,h=>by
  have h':i.natAbs<2^128:=by simpa[tame]using h
  have:i.natAbs.log2<1920:=by
   by_cases h0:i.natAbs=0
   .rw[h0];decide
   .exact Nat.lt_trans ((Nat.log2_lt h0).mpr h') Zx
  simp only[PyData.showable];exact zAt this
 |.str _,_=>rfl
 |.list xs,h=>by
  simp only[PyData.showable];exact il xs (by simpa[tame]using h)
 |.tuple xs,h=>by
  simp only[PyData.showable];exact il xs (by simpa[tame]using h)
 |.dict kvs,h=>by
  simp only[PyData.showable];exact gK kvs (by simpa[tame]using h)
theorem il:∀(xs:List PyData),iK xs=true->PyData.showableAll xs=true
 |[],_=>rfl
 |x::xs,h=>by
  have h':(tame x&&iK xs)=true:=h;rw[zAc]at h';simp only[PyData.showableAll,Bool.and_eq_true];exact⟨mD x h'.1,il xs h'.2⟩
end
theorem jt:∀(kvs:List (PyData×PyData)),aV kvs=true->PyData.depthKv kvs=0
 |[],_=>rfl
 | (.int i,.int j)::r,h=>by
  have h':(decide (i.natAbs<2^128)&&decide (j.natAbs<2^128)&&aV r)=true:=h;simp only[Bool.and_eq_true,Zq]at h';simp only[PyData.depthKv,PyData.depth,jt r h'.2];rfl
 | (.none,_)::_,h=>by simp[aV]at h
 | (.bool _,_)::_,h=>by simp[aV]at h
 | (.str x,.int j)::r,h=>by
  have h':((decide (x.length<=10)&&x.cps.toList.all λc=>decide (c<16^8))&&decide (j.natAbs<2^128)&&aV r)=true:=h;rw[zAc]at h';simp only[PyData.depthKv,PyData.depth,jt r h'.2];rfl
 | (.str _,.none)::_,h=>by simp[aV]at h
 | (.str _,.bool _)::_,h=>by simp[aV]at h
 | (.str _,.str _)::_,h=>by simp[aV]at h
 | (.str _,.list _)::_,h=>by simp[aV]at h
 | (.str _,.tuple _)::_,h=>by simp[aV]at h
 | (.str _,.dict _)::_,h=>by simp[aV]at h
 | (.list _,_)::_,h=>by simp[aV]at h
 | (.tuple _,_)::_,h=>by simp[aV]at h
 | (.dict _,_)::_,h=>by simp[aV]at h
 | (.int _,.none)::_,h=>by simp[aV]at h
 | (.int _,.bool _)::_,h=>by simp[aV]at h
 | (.int _,.str _)::_,h=>by simp[aV]at h
 | (.int _,.list _)::_,h=>by simp[aV]at h
 | (.int _,.tuple _)::_,h=>by simp[aV]at h
 | (.int _,.dict _)::_,h=>by simp[aV]at h
mutual
theorem jK:∀(d:PyData),tame d=true->d.depth<=sz d
 |.none,_=>zAp _
 |.bool _,_=>zAp _
 |.int i,_=>zAp _
 |.str _,_=>zAp _
 |.list xs,h=>by
  have:=lD xs (by simpa[tame]using h);simp only[PyData.depth,sz];lia
 |.tuple xs,h=>by
  have:=lD xs (by simpa[tame]using h);simp only[PyData.depth,sz];lia
 |.dict kvs,h=>by
  have:=jt kvs (by simpa[tame]using h);simp only[PyData.depth,sz];lia
theorem lD:∀(xs:List PyData),iK xs=true->PyData.depthAll xs<=szs xs
 |[],_=>zAp _
 |x::xs,h=>by
  have h':(tame x&&iK xs)=true:=h;rw[zAc]at h';have h1:=jK x h'.1;have h2:=lD xs h'.2;simp only[PyData.depthAll,szs];lia
end
section
variable{X:Cx}{Zt:List (Addr×Obj)}{σ:St}{H:Hp}{s:Shared}{S:Addr->Prop}
theorem oM{P:Program}{w:World}:∀{ks:List (Key×Int)} {vs:List (Key×Value)} {es:List DictEntry},KV (ks.map λp=>(p.1,V.int p.2)) vs->Pairs (bF P w) es vs->
  (∃as,ReadsAll s.heap (es.map (·.key)) ((ks.map λp=>(G4 p.1,PyData.int p.2)).map (·.1)) as/\as=[])/\∃as,ReadsAll s.heap (es.map (·.val)) ((ks.map λp=>(G4 p.1,PyData.int p.2)).map (·.2)) as/\as=[]
 |[],vs,es,r,p=>by
  cases r;cases p;exact⟨⟨_,.nil,rfl⟩,⟨_,.nil,rfl⟩⟩
 | (k,n)::ks,vs,es,r,p=>by
  cases r with
  |@cons a b l1 l2 h t=>
   cases p with
   |@cons e kv f7 kvs' h1 h2 h3=>
    obtain⟨⟨_,i1,rfl⟩,⟨_,i2,rfl⟩⟩:=oM (ks:=ks) t h3;obtain⟨q1,q2⟩:=h;have NG:nM b.1 e.key=true:=h1;rw[<-q1]at NG;obtain⟨tv,Qh⟩:∃t,b.2=Value.int n t:=q2;rw[Qh]at h2;refine⟨⟨_,?_,rfl⟩,⟨_,?_,rfl⟩⟩
    .show ReadsAll s.heap (e.key::f7.map (·.key)) (G4 k::_) ([]++[]);rcases c7 NG with⟨i,tk,ei,ev⟩|⟨x,tk,ei,ev⟩
     .have ei:k=Sum.inl i:=ei;rw[ev,ei];exact .cons (.int _ _) i1
     .have ei:k=Sum.inr x:=ei;rw[ev,ei];exact .cons (.str _ _) i1
    .show ReadsAll s.heap (e.val::f7.map (·.val)) (PyData.int n::_) ([]++[]);rw[h2];exact .cons (.int _ _) i2
mutual
theorem IsTh.reads(I:Inv X Zt σ H s):∀{v:V} {d:PyData} {u:Value},IsTh S H v d->RelV v u->∃as,Reads s.heap u d as/\∀a∈as,S a
 |_,_,_,.non,r=>by cases(show _=Value.none from r);exact⟨[],.none,λ_ h=>nomatch h⟩
 |_,_,_,.bl b,r=>by cases(show _=Value.bool b from r);exact⟨[],.bool b,λ_ h=>nomatch h⟩
 |_,_,_,.int i,r=>by obtain⟨t,rfl⟩:=r;exact⟨[],.int i t,λ_ h=>nomatch h⟩
 |_,_,_,.str x,r=>by obtain⟨t,rfl⟩:=r;exact⟨[],.str x t,λ_ h=>nomatch h⟩
 |_,_,_,@IsTh.lst _ _ a xs ds hs e t,r=>by
  cases(show _=Value.ref a from r)
  obtain⟨_,Zs,n,rv,ho⟩:=(show ObjOk X.prog X.w H s.heap a (.lst xs)from I.hok a _ e)
  obtain⟨as,h1,h2⟩:=IsThs.reads I t rv;refine⟨a::as,.list ho rfl rfl (by simpa using h1),λb hb=>?_⟩;rcases zAo.mp hb with z|z
  .rw[z];exact hs
  .exact h2 b z
 |_,_,_,@IsTh.tup _ _ a xs ds e t,r=>by
  cases(show _=Value.ref a from r)
  obtain⟨_,Zs,rv,o,ho,hc,n,hd⟩:=(show ObjOk X.prog X.w H s.heap a (.tup xs)from I.hok a _ e)
  obtain⟨as,h1,h2⟩:=IsThs.reads I t rv;exact⟨as,.tuple ho hc hd (by simpa using h1),h2⟩
 |_,_,_,@IsTh.dct _ _ a ks hs e,r=>by
  cases(show _=Value.ref a from r)
  obtain⟨_,_,vs,rel,o,es,ep,ho,hx,hd,_,hp,_⟩:=(show ObjOk X.prog X.w H s.heap a (.dK _)from I.hok a _ e)
  obtain⟨⟨_,i1,rfl⟩,⟨_,i2,rfl⟩⟩:=oM (s:=s) rel hp;refine⟨a::[]++[],.dict ho hx.1 hd i1 i2,λb hb=>?_⟩;rw[show b=a by simpa using hb];exact hs
theorem IsThs.reads(I:Inv X Zt σ H s):∀{vs:List V} {ds:List PyData} {us:List Value},IsThs S H vs ds->Vals vs us->∃as,ReadsAll s.heap us ds as/\∀a∈as,S a
 |_,_,_,.nil,r=>by cases r;exact⟨[],.nil,λ_ h=>nomatch h⟩
 |_,_,_,.cons h t,r=>by
  cases r with
  |cons r1 r2=>
   obtain⟨as,h1,h2⟩:=IsTh.reads I h r1;obtain⟨bs,h3,h4⟩:=IsThs.reads I t r2;exact⟨as++bs,.cons h1 h3,λb hb=>(zA6.mp hb).elim (h2 b) (h4 b)⟩
end
theorem qQ(hg:X.A.guards=some [])(hS:¬S sysModules):dG X (.builtin "repr") (λxs H Q=>∃v d,xs=[v]/\IsTh S H v d/\tame d=true/\sz d<=4000/\X.A.units+(sz d+1)<cLine/\Q (.str d.shown) H):=by
 intro Zt s σ H xs us Q I r h;obtain⟨v,d,rfl,th,tm,hz,hu,q⟩:=h;obtain⟨u,rfl,ru⟩:=vals1 r;have hl:=qP d tm;have hsz:d.shown.length<=sizeLine:=by rw[sizeLine_eq];lia
 have fin:∀t h' tk,(∀b o,s.heap.get? b=some o->h'.get? b=some o)->EP X Zt σ Q (.str d.shown t) {s with heap:=h',toks:=tk}:=λt h' tk k=>⟨.str d.shown,H,I.kept k,⟨t,rfl⟩,q⟩
 have iP:=mD d tm
 cases th with
 |non=>cases(show u=Value.none from ru);exact PySem.P.repr_of_none (fin _ s.heap _ λ_ _ e=>e)
 |bl b=>cases(show u=Value.bool b from ru);exact PySem.P.repr_of_bool (fin _ s.heap _ λ_ _ e=>e)
 |int i=>
  obtain⟨t,rfl⟩:=ru;have:i.natAbs.log2<1920:=by simpa[PyData.showable]using iP
  exact PySem.P.repr_of_int this (fin _ s.heap _ λ_ _ e=>e)
 |str x=>obtain⟨t,rfl⟩:=ru;exact PySem.P.repr_of_str (fin _ s.heap _ λ_ _ e=>e) hsz
 |@lst a xs ds hs e t=>
  obtain⟨as,rd,ha⟩:=(IsTh.lst hs e t).reads I ru;cases(show u=Value.ref a from ru);exact repr_of_reads' rd iP (λ_ hm=>hS (ha _ hm)) hg (by have:=jK _ tm;lia) (λb o e=>e) (λh' t tk k=>fin t h' tk k) hsz
 |@tup a xs ds e t=>
  obtain⟨as,rd,ha⟩:=(IsTh.tup (S:=S) e t).reads I ru;cases(show u=Value.ref a from ru);exact repr_of_reads' rd iP (λ_ hm=>hS (ha _ hm)) hg (by have:=jK _ tm;lia) (λb o e=>e) (λh' t tk k=>fin t h' tk k) hsz
 |@dct a ks hs e=>
  obtain⟨as,rd,ha⟩:=(IsTh.dct hs e).reads I ru;cases(show u=Value.ref a from ru);exact repr_of_reads' rd iP (λ_ hm=>hS (ha _ hm)) hg (by have:=jK _ tm;lia) (λb o e=>e) (λh' t tk k=>fin t h' tk k) hsz
end
section
variable{X:Cx}
end
section
variable{prog:Program}{w:World}{A:Around}{E:Value->Shared->Prop}{s:Shared}
theorem Jh{j t:Addr}{i:Nat}{Zs:Array Value}{x:Value}{Q:Value->Shared->Prop}(hj:s.heap.IsTupleIter j t i)(ht:s.heap.IsTuple t Zs)(hx:Zs[i]?=some x)
  (hQ:∀h',h'.IsTupleIter j t (i+1)->Heap.SameBut j s.heap h'->Q x {s with heap:=h'}):wpAny (model prog w) A (Builtin.SmallTypes.nextOf (.ref j)) Q E s:=by
 obtain⟨o,ho,hc,hd⟩:=id hj;obtain⟨p,hp,_,m,hm⟩:=ht;unfold Builtin.SmallTypes.nextOf;refine zAv (wpAny_callSpecial?_slot (name:=Str.ofString "__next__") hj.typeIs F.slot_tuple_iterator_next (wpAny_call_entry F.slot_tuple_iterator_next hj.typeIs F.entry_tuple_iterator_next ?_ (F.args_tuple_iterator_next_1 _)));show wpAny _ _ (field (.ref j) 0>>=_) _ _ s;refine zAv (wpAny_field ho hd (x:=.ref t) rfl ?_);show wpAny _ _ (if(Value.ref t==Value.none)=true then _ else _) _ _ s;rw[zAw (show¬((Value.ref t==Value.none)=true) by intro z;exact zAg z)];show wpAny _ _ (field (.ref j) 1>>=_) _ _ s;refine zAv (wpAny_field ho hd (x:=.int i 0) rfl (zAv (wpAny_seqItems hp hm ?_)));simp only[Int.toNat_natCast,hx]
 refine zAv (wpAny_setField ho hd Zy (zAz ⟨x,rfl,zAz (hQ _ ⟨_,Heap.get?_update_self _ ho (Obj.isFreed_of_fields (Obj.data_mapFields hd _)),(Obj.cls_mapFields ..).trans hc,by
  rw[Obj.data_mapFields hd]
  simp[rawInt]⟩ (Heap.SameBut.update ..))⟩))
theorem wJ{j t:Addr}{i:Nat}{Zs:Array Value}{Q:Value->Shared->Prop}(hh:A.handled=none)(hj:s.heap.IsTupleIter j t i)(ht:s.heap.IsTuple t Zs)(hx:Zs[i]?=none)
  (hE:∀h' e,Heap.ExtBut j s.heap h'->(∃o,h'.get? e=some o/\o.cls=.type "StopIteration")->E (.ref e) {s with heap:=h'}):wpAny (model prog w) A (Builtin.SmallTypes.nextOf (.ref j)) Q E s:=by
 obtain⟨o,ho,hc,hd⟩:=id hj;obtain⟨p,hp,_,m,hm⟩:=ht;unfold Builtin.SmallTypes.nextOf;refine zAv (wpAny_callSpecial?_slot (name:=Str.ofString "__next__") hj.typeIs F.slot_tuple_iterator_next (wpAny_call_entry F.slot_tuple_iterator_next hj.typeIs F.entry_tuple_iterator_next ?_ (F.args_tuple_iterator_next_1 _)));show wpAny _ _ (field (.ref j) 0>>=_) _ _ s;refine zAv (wpAny_field ho hd (x:=.ref t) rfl ?_);show wpAny _ _ (if(Value.ref t==Value.none)=true then _ else _) _ _ s;rw[zAw (show¬((Value.ref t==Value.none)=true) by intro z;exact zAg z)];show wpAny _ _ (field (.ref j) 1>>=_) _ _ s;refine zAv (wpAny_field ho hd (x:=.int i 0) rfl (zAv (wpAny_seqItems hp hm ?_)));simp only[Int.toNat_natCast,hx];refine zAv (wpAny_rule (zAv (wpAny_setField ho hd Zy ?_)));show wpAny _ _ (newExc (.type "StopIteration") []>>=_) _ _ _;refine zAv ?_;simp only[newExc,newTuple];refine zAv (Zac (zAv (m:=firstArgMember _ _) (wpAny_of_eq (a:=Value.none) (by first|rfl | (simp only[firstArgMember];rfl)) (Zac ?_ (by size_fits)))) (by size_fits));simp only[raiseNew];refine zAv (wpAny_handled ?_)
 first
  |rw[show A.in1.handled=none from hh]
  |rw[hh]
 exact zAv (zAz (wpAny_throw (hE _ _ (((Heap.SameBut.update ..).extBut.push _).push _) ⟨_,zB4 _ rfl,rfl⟩)))
end
section
variable{X:Cx}
end
theorem IsTh.same{d:PyData}(h:IsTh S H v d)(s:Same H H'):IsTh S H' v d:=h.keep (λb xs e=>s b _ e) (λb o _ e=>s b o e) λ_ _ z _=>z
theorem IsThs.same{v:List V}{d:List PyData}(h:IsThs S H v d)(s:Same H H'):IsThs S H' v d:=h.keep (λb xs e=>s b _ e) (λb o _ e=>s b o e) λ_ _ z _=>z
theorem Same.upd{D:Addr}{o:HO}(h:H D=none):Same H (upd H D o):=λb u e=>by rw[az (aA e h)];exact e
theorem Same.updR{D:Addr}{o:HO}(s:Same H H')(h:H' D=none):Same H (L2.upd H' D o):=s.trans (Same.upd h)
theorem uR{K:Frag}{a:Addr}{xs:List V}(f:PyData->Bool){cE:St}{j:Nat}{H0:Hp}{Fin:List V->Hp->Prop}(hT:H0 a=some (.tup xs))(th:IsThs S H0 xs ds)(hl:xs.length<sizeLine)
  (vT:∀v d H Q,d∈ds->Same H0 H->IsTh S H v d->(∀H',Same H H'->Q (.bl (f d)) H')->te (cE.set j (some v)) H Q)
  (fin:∀H',Same H0 H'->Fin (ds.map λd=>V.bl (f d)) H'):jm (Itt K a) (bK j) sO te Fin cE H0:=by
 have hlen:=th.length;refine⟨λi m ys σ H=>m=xs.length-i/\i<=xs.length/\ys=(ds.take i).map (λd=>V.bl (f d))/\(∀o,σ.set j o=cE.set j o)/\Same H0 H,⟨_,rfl,zAp _,rfl,λ_=>rfl,Same.refl _⟩,?_⟩;rintro i m ys σ H ⟨rfl,hi,rfl,kU,hs⟩;have sq:SqT K H a xs:=SqT.of (hs _ _ hT);refine⟨by rw[zA1,zAd];lia,?_⟩;by_cases aI:i<xs.length
 .refine .inr ⟨⟨xs,xs[i],sq,by simp[aI]⟩,λx H' y=>?_⟩;obtain⟨e,y⟩:=y;subst e;have hx:=y xs sq;obtain⟨d,hd,ht⟩:=(th.same hs).get hx;show te (σ.set j (some x)) H' _;rw[kU]
  refine vT x d H' _ (zBg hd) hs ht λH2 s2=>⟨xs.length-(i+1),Zz,rfl,aI,?_,λo=>by rw[List.set_set],hs.trans s2⟩
  rw[zAj,hd];simp
 .have e:i=xs.length:=Zz
  subst e;refine .inl ⟨⟨xs,sq,zA3 _⟩,?_⟩;rw[hlen,zAm];exact fin H hs
theorem Ck{f:PyData->Bool}:ds.map (λd=>V.bl (f d))=(ds.map f).map V.bl:=by rw[zAr];rfl
theorem Ji{f:PyData->Bool}:(ds.map f).all id=ds.all f:=by rw[List.all_map];rfl
section
variable{X:Cx}{es:List Expr}{t:TA}{pos:Pos}
def Jj:TE:=λ_ H Q=>∀p,H p=none->p≠sysModules->Q (.ref p) (upd H p (.dK []))
theorem Cm:PE X (.Dict [] [] pos) Jj:=λZt s σ H Q I h=>
 wpAny_Dict_empty ⟨.ref s.heap.objs.size,_,I.laid (a:=s.heap.objs.size) (o:=.dK []) (t':=s.toks) (λ_ _ q=>zAy _ q) (zA3 _) (uO s.heap I.big),rfl,h _ (I.hok.fresh (zA3 _)) (Nat.ne_of_gt I.big)⟩
end
section
variable{X:Cx}{a b c d:Expr}{ta tb tc td:TE}{pos:Pos}
def ye(r r' D6:R2)(ta tb tc td:TE):TE:=λσ H Q=>ta σ H λx H1=>tb σ H1 λy H2=>r x y H2 λz H3=>∃k,z=.bl k /\
 (if k=true then tc σ H3 λx2 H4=>r' y x2 H4 λz2 H5=>∃k2,z2=.bl k2/\(if k2=true then td σ H5 λx3 H6=>D6 x2 x3 H6 Q else Q (.bl false) H5)else Q (.bl false) H3)
theorem Aa{o1 o2 o3:CmpOp}{r r' D6:R2}(h1:OpR X (compareOp o1) r)(h2:OpR X (compareOp o2) r')(h3:OpR X (compareOp o3) D6)(ha:PE X a ta)(hb:PE X b tb)(hc:PE X c tc)(hd:PE X d td)
  (hm:lastMarks [o1,o2,o3] [b,c,d]=false:=by with_unfolding_all rfl):PE X (.Compare a [o1,o2,o3] [b,c,d] pos) (ye r r' D6 ta tb tc td):=by
 intro Zt s σ H Q I h
 refine Compare_chain (thn (ha Zt s σ H _ I h) λv s1 ⟨x,H1,I1,r1,q1⟩=>chain_link (thn (hb Zt s1 σ H1 _ I1 q1) λu s2 ⟨y,H2,I2,r2,q2⟩=>
  thn (h1 Zt s2 σ H2 x y v u _ I2 r1 r2 q2) λg s3 ⟨z,H3,I3,r3,k,e,q3⟩=>?_)) hm
 subst e;cases r3;refine wpAny_truthy_bool ?_
 cases k with
 |false=>exact ite_ff ⟨.bl false,H3,I3,rfl,q3⟩
 |true=>
  refine ite_tt (chain_link (thn (hc Zt s3 σ H3 _ I3 q3) λw' s4 ⟨z',H4,I4,r4,q4⟩=>thn (h2 Zt s4 σ H4 y z' u w' _ I4 r2 r4 q4) λg2 s5=>?_));rintro⟨z5,H5,I5,r5,k2,e2,q5⟩;subst e2;cases r5;refine wpAny_truthy_bool ?_
  cases k2 with
  |false=>exact ite_ff ⟨.bl false,H5,I5,rfl,q5⟩
  |true=>exact ite_tt (chain_last (thn (hd Zt s5 σ H5 _ I5 q5) λw6 s6=>by rintro⟨z6,H6,I6,r6,q6⟩;exact h3 Zt s6 σ H6 z' z6 w' w6 Q I6 r4 r6 q6))
end
def Ev(σ:St)(H:Hp)(t:TE)(v:V):Prop:=∀Q:VK,Q v H->t σ H Q
section
variable{σ:St}{H:Hp}{ta tb tc td:TE}
theorem fU:Ev σ H (tC v) v:=λ_ h=>h
theorem dX{i:Nat}(h:σ[i]?=some (some v)):Ev σ H (Fq i) v:=λ_ q=>⟨v,h,q⟩
theorem cz{p q:Int->Int->Bool}{i j k:Int}(a:Ev σ H ta (.int i))(b:Ev σ H tb (.int j))(c:Ev σ H tc (.int k)):
  Ev σ H (wz (rI0 λi j=>.bl (p i j)) (rI0 λi j=>.bl (q i j)) ta tb tc) (.bl (p i j&&q j k)):=λQ h=>a _ (b _ ⟨i,j,rfl,rfl,_,rfl,by
 cases e:p i j with
 |false=>
  rw[e]at h;exact bZ h
 |true=>
  rw[e]at h
  exact cC (c _ ⟨j,k,rfl,rfl,h⟩)⟩)
theorem Ab{p q r:Int->Int->Bool}{i j k l:Int}(a:Ev σ H ta (.int i))(b:Ev σ H tb (.int j))(c:Ev σ H tc (.int k))(d:Ev σ H td (.int l)):
  Ev σ H (ye (rI0 λi j=>.bl (p i j)) (rI0 λi j=>.bl (q i j)) (rI0 λi j=>.bl (r i j)) ta tb tc td) (.bl (p i j&&(q j k&&r k l))):=λQ h=>a _ (b _ ⟨i,j,rfl,rfl,_,rfl,by
 cases e:p i j with
 |false=>
  rw[e]at h;exact bZ h
 |true=>
  rw[e]at h;refine cC (c _ ⟨j,k,rfl,rfl,_,rfl,?_⟩)
  cases e2:q j k with
  |false=>
   rw[e2]at h;exact bZ h
  |true=>
   rw[e2]at h
   exact cC (d _ ⟨k,l,rfl,rfl,h⟩)⟩)
theorem iM{b c:Bool}(x:Ev σ H ta (.bl b))(y:b=true->Ev σ H tb (.bl c)):Ev σ H (Hu ta tb) (.bl (b&&c)):=λQ h=>x _ ⟨b,rfl,by
 cases e:b with
 |false=>
  rw[e]at h;exact bZ h
 |true=>
  rw[e]at h
  exact cC (y e _ h)⟩
end
structure Plain(e:Expr):Prop where
 eq:∀(es:List Expr) (env:Env),starEach (e::es) env=(false,eval e env)::starEach es env
theorem iQ{c j p}:Plain (.Constant c j p):=⟨λ_ _=>rfl⟩
theorem ju{x p}:Plain (.Name x p):=⟨λ_ _=>rfl⟩
theorem iR{es k p}:Plain (.Tuple es k p):=⟨λ_ _=>rfl⟩
theorem jw{es p}:Plain (.List es p):=⟨λ_ _=>rfl⟩
theorem jx{ks vs p}:Plain (.Dict ks vs p):=⟨λ_ _=>rfl⟩
theorem jy{f as ks p}:Plain (.Call f as ks p):=⟨λ_ _=>rfl⟩
theorem plain_bin{a o b p}:Plain (.BinOp a o b p):=⟨λ_ _=>rfl⟩
theorem oN{o a p}:Plain (.UnaryOp o a p):=⟨λ_ _=>rfl⟩
theorem lE{a b p}:Plain (.Subscript a b p):=⟨λ_ _=>rfl⟩
theorem jz{a b c p}:Plain (.ListComp a b c p):=⟨λ_ _=>rfl⟩
theorem lG{a b c p}:Plain (.Compare a b c p):=⟨λ_ _=>rfl⟩
section
variable{X:Cx}{e:Expr}{es:List Expr}{te:TE}{t:TA}
theorem au(ha:PE X e te)(hr:PA X es t)(hp:Plain e:=by first|exact ju|exact iQ|exact jy|exact iR|exact jw|exact plain_bin|exact lE|exact oN|exact jx|exact jz|exact lG):PA X (e::es) (uD te t):=
 aX ha hr (hp.eq _ _)
end
structure AA(X:Cx)(es:List Expr)(t:TA):Prop where
 run:PA X es t
section
variable{X:Cx}{e:Expr}{es:List Expr}{te:TE}{t:TA}{pos:Pos}
theorem gM:AA X [] J1:=⟨ao⟩
theorem tH(ha:PE X e te)(hr:AA X es t)(hp:Plain e:=by first|exact ju|exact iQ|exact jy|exact iR|exact jw|exact plain_bin|exact lE|exact oN|exact jx|exact jz|exact lG):AA X (e::es) (uD te t):=
 ⟨aX ha hr.run (hp.eq _ _)⟩
theorem G7{x1}(h:AA X es t):PE X (.Tuple es x1 pos) (J2 t):=bO h.run
theorem yf(h:AA X es t):PE X (.List es pos) (J3 t):=cJ h.run
end
inductive IsInts:List Expr->PP->Prop
 |nil:IsInts [] []
 |cons {i:Int} {j:Nat} {p:Pos} {es:List Expr} {is:PP}:IsInts es is->IsInts (.Constant (.int i) j p::es) (i::is)
def Kq(is:PP):TA:=λ_ H Q=>Q (is.map V.int) H
theorem jL{X:Cx}:∀{es:List Expr} {is:PP},IsInts es is->PA X es (Kq is)
 |_,_,.nil=>λ_ _ _ _ H Q I h=>Calls.spliced_nil ⟨[],H,I,.nil,h⟩
 |_,_,@IsInts.cons i j p es is r=>by
  have h:=au (X:=X) (aB (i:=i) (j:=j) (pos:=p)) (jL r);exact h
theorem dY{es:List Expr}{k:Nat}{pos:Pos}{t:TGs}{K:Frag}{n:Nat}(hK:X.K=K)(hc:X.calm=true)(h:PGs X es t)(hn:(assignEach es X.env).length=n:=by rfl)(hV:(assignEach es X.env).findIdx? (·.1)=none:=by rfl):
  PG X (.Tuple es k pos) (lu K n t):=by
 subst hK;exact bG hc h hn hV
structure BE(X:Cx)(e:Expr)(t:TE):Prop where
 run:PE X e t
section
variable{X:Cx}{e:Expr}{es:List Expr}{te:TE}{t:TA}{pos:Pos}
theorem jl(ha:BE X e te)(hr:AA X es t)(hp:Plain e:=by first|exact ju|exact iQ|exact jy|exact iR|exact jw|exact plain_bin|exact lE|exact oN|exact jx|exact jz|exact lG):AA X (e::es) (uD te t):=tH ha.run hr hp
theorem HQ(h:BE X e te):PE X e te:=h.run
theorem Jk{i:Int}{j}:BE X (.Constant (.int i) j pos) (tC (.int i)):=⟨aB⟩
theorem Kr{b:Bool}{j}:BE X (.Constant (.bool b) j pos) (tC (.bl b)):=⟨lV⟩
theorem tK{x1}(h:AA X es t):BE X (.Tuple es x1 pos) (J2 t):=⟨bO h.run⟩
theorem wK(h:AA X es t):BE X (.List es pos) (J3 t):=⟨cJ h.run⟩
end
structure BS(X:Cx)(st:Stmt)(t:TS):Prop where
 run:PS X st t
structure BSs(X:Cx)(E6:List Stmt)(t:TS):Prop where
 run:PSs X E6 t
section
variable{X:Cx}{st:Stmt}{rest:List Stmt}{t u:TS}{pos:Pos}
theorem iT(h:BSs X rest t):PSs X rest t:=h.run
theorem aR(h1:BS X st t)(h2:BSs X rest u):BSs X (st::rest) (Fv t u):=⟨aC h1.run h2.run⟩
theorem cO(h1:BS X st t):BSs X [st] t:=⟨aG h1.run⟩
theorem tL{i:Nat}{x:Str}{e:Expr}(hN:X.N.Nodup)(hi:X.N[i]?=some x)(hx:Loc X.env.scope x)(he:BE X e te)(hs:swapsWith e (some (.Name x pos')) pos.line X.env=pure false:=by rfl)(hf:X.fn x=true\/X.env.scope.names.lookup x=some .local:=by first|exact .inl rfl|exact .inr rfl|assumption):
  BS X (.Assign [.Name x pos'] e pos) (zK te (bK i)):=⟨gY hN hi hx he.run hs hf⟩
theorem lH{e:Expr}(he:BE X e te):BS X (.Return (some e) pos) (IW te):=⟨aW he.run⟩
theorem yg{op:Operator}{r:R2}{a b:Expr}{ta tb:TE}(ho:OpR X (binaryOp op) r)(ha:BE X a ta)(hb:BE X b tb):BE X (.BinOp a op b pos) (tOp r ta tb):=⟨aU ho ha.run hb.run⟩
theorem Cp{r:R2}{a b:Expr}{ta tb:TE}(hr:IxR X r)(ha:BE X a ta)(hb:BE X b tb)(hs:sE b):BE X (.Subscript a b pos) (tOp r ta tb):=⟨HF hr ha.run hb.run hs⟩
end
theorem pgn{x:Str}{pos:Pos}(i:Nat)(hN:X.N.Nodup)(hi:X.N[i]?=some x:=by rfl)(hx:Loc X.env.scope x:=by exact Or.inl rfl)(hf:X.fn x=true\/X.env.scope.names.lookup x=some .local:=by first|exact .inl rfl|exact .inr rfl):PG X (.Name x pos) (bK i):=bC hN hi hx hf
theorem pss{x:Str}{pos:Pos}{e:Expr}(i:Nat)(hN:X.N.Nodup)(he:PE X e te)(hi:X.N[i]?=some x:=by rfl)(hx:Loc X.env.scope x:=by exact Or.inl rfl)(hs:swapsWith e (some (.Name x pos')) pos.line X.env=pure false:=by rfl)(hf:X.fn x=true\/X.env.scope.names.lookup x=some .local:=by first|exact .inl rfl|exact .inr rfl):PS X (.Assign [.Name x pos'] e pos) (zK te (bK i)):=gY hN hi hx he hs hf
theorem gR{x:Str}{pos:Pos}{e:Expr}(i:Nat)(hN:X.N.Nodup)(he:BE X e te)(hi:X.N[i]?=some x:=by rfl)(hx:Loc X.env.scope x:=by exact Or.inl rfl)(hs:swapsWith e (some (.Name x pos')) pos.line X.env=pure false:=by rfl)(hf:X.fn x=true\/X.env.scope.names.lookup x=some .local:=by first|exact .inl rfl|exact .inr rfl):BS X (.Assign [.Name x pos'] e pos) (zK te (bK i)):=tL hN hi hx he hs hf
theorem pX{r:R2}{a b:Expr}{ta tb:TE}{pos:Pos}(hr:IxR X r)(ha:PE X a ta)(hb:PE X b tb)(hs:sE b:=by exact λ_ _=>rfl):PE X (.Subscript a b pos) (tOp r ta tb):=HF hr ha hb hs
theorem zL{n:Nat}(h:Nat.ble n 1000=true:=by rfl):n<=sizeLine:=Zak (Nat.le_of_ble_eq_true h) Zx
theorem cI{x:Str}{i:Nat}{N:List Str}{r:List (Option Nat)}(h:Caps X br N r)(h1:X.N[i]?=some x:=by rfl)(h2:X.env.kindOf x=some .cell:=by rfl)(h3:br.cells.lookup x=X.env.cells.lookup x:=by rfl)(h4:br.kindOf x=some .cell:=by rfl):Caps X br (x::N) (some i::r):=⟨⟨h1,.inl h2,h3,.inl h4⟩,h⟩
theorem fQS{N P:List Str}{sc:Scope}(h1:sc.kind=.function:=by rfl)(h2:sc.isCoroutine=false:=by rfl)(h3:sc.isGenerator=false:=by rfl)(h4:N.Nodup:=by decide +kernel)(h5:N.take P.length=P:=by rfl)(h6:∀x∈P,sc.names.lookup x=some .local\/sc.names.lookup x=some .cell:=by decide +kernel)(h7:∀y∈sc.names,y.2≠.free:=by decide +kernel):FnScope N P sc:=⟨h1,h2,h3,h4,h5,h6,h7⟩
section
variable{X:Cx}{es:List Expr}{t:TA}{pos:Pos}
end
section
variable{S:Addr->Prop}{σ:St}{H:Hp}
end
section
variable{D:Ends}{σ:St}{H:Hp}{t u:TS}{te:TE}{ta:TA}{g:TG}{Q:VK}
theorem dJ(h:D.nx σ H):Hv D σ H:=h
theorem aQ(h:t {D with nx:=u D} σ H):Fv t u D σ H:=h
theorem aP(h:∀c:St->Hp->Prop,(∀av H',u D av H'->c av H')->t {D with nx:=c} σ H):Fv t u D σ H:=h (u D) λ_ _ z=>z
theorem aY(h:te σ H λx H1=>g x σ H1 D.nx):zK te g D σ H:=h
theorem ir(h:te σ H D.rt):IW te D σ H:=h
theorem aD{i:Nat}{R:St->Hp->Prop}(h:R (σ.set i (some v)) H):bK i v σ H R:=h
end
section
variable{X:Cx}{pos:Pos}
def Ks(i j k:Nat)(ta:TA):TS:=λD σ H=>ta σ H λvs H1=>∃v w u,vs=[v,w,u]/\D.nx (((σ.set i (some v)).set j (some w)).set k (some u)) H1
theorem G8{i j k:Nat}{x y z:Str}{a b c:Expr}{ta:TA}{px py pz pt:Pos}{kt k2 pt2}(hc:X.calm=true)(hN:X.N.Nodup)(hi:X.N[i]?=some x)(hj:X.N[j]?=some y)(hk:X.N[k]?=some z)(cm:i≠j)(Qi:i≠k)(FU:j≠k)
  (hx:X.env.scope.names.lookup x=some .local) (hy:X.env.scope.names.lookup y=some .local) (hz:X.env.scope.names.lookup z=some .local) (ha:PA X [a,b,c] ta)
  (hw:swappedStores [.Tuple [.Name x px,.Name y py,.Name z pz] kt pt] (.Tuple [a,b,c] k2 pt2) X.env=pure (some [x,y,z]))
  (hs:swapsWithSole [.Tuple [.Name x px,.Name y py,.Name z pz] kt pt] (.Tuple [a,b,c] k2 pt2) pos.line X.env=pure false:=by rfl):
  PS X (.Assign [.Tuple [.Name x px,.Name y py,.Name z pz] kt pt] (.Tuple [a,b,c] k2 pt2) pos) (Ks i j k ta):=by
 intro Zt s σ H D I h;refine Assign_Tuple_swapped (names:=[x,y,z]) (Tuple_ (thn (ha _ Zt s σ H _ I h) λus s1=>?_)) hs hw;rintro⟨vs,H1,I1,r1,q1⟩;obtain⟨v,w,u,e1,q1⟩:=q1;subst e1
 obtain⟨u1,u2,u3,rfl,rv,fE,ru⟩:∃u1 u2 u3,us=[u1,u2,u3]/\RelV v u1/\RelV w u2/\RelV u u3:=by
  cases r1 with
  |cons p q=>
   cases q with
   |cons p' q'=>
    cases q' with
    |cons p2 q2=>
     cases q2;exact⟨_,_,_,rfl,p,p',p2⟩
 refine Zac ?_ (by show 3<=sizeLine;decide);have I2:Inv X Zt σ H1 {s1 with heap:=s1.heap.push {cls:=.type "tuple",data:=.seq [u1,u2,u3].toArray}}:=I1.kept (t':=s1.toks) λb o e=>zAy _ e;refine unpackItems_tuple (items:=#[u1,u2,u3]) (I.ok.hd hc) (IsTup.new s1.heap _) λh' gp=>?_;have I3:=I2.kept (h':=h') (t':=s1.toks) λb o e=>gp b o (zBd (zB0 e)) e;show wpAny _ _ (assignInOrder [λv=>bindName X.env z v,λv=>bindName X.env y v,λv=>bindName X.env x v] [u3,u2,u1]) _ _ _;refine assignInOrder_cons (wpAny_bindName (fu I3 hN hk (.inl hz) ru (λs2 I4=>?_) (.inr hz)));refine assignInOrder_cons (wpAny_bindName (fu I4 hN hj (.inl hy) fE (λs3 I5=>?_) (.inr hy)));refine assignInOrder_cons (wpAny_bindName (fu I5 hN hi (.inl hx) rv (λs4 I6=>assignInOrder_nil ?_) (.inr hx)));rw[List.set_comm _ _ (Ne.symm cm),List.set_comm _ _ (Ne.symm Qi),List.set_comm _ _ (Ne.symm FU)]at I6;exact⟨_,H1,I6,q1⟩
end
end L2
namespace L2.ZT
open PySem PySem.Spec PyProof.Rows L2
variable{t0:Bool}{h h':Heap}{H:Hp}{xs:List V}{s:Shared}{σ:St}{Q:Value->Shared->Prop}
def nm(t:Bool):String:=match t with|true=>"tuple_iterator"|false=>"list_iterator"
def tn(t:Bool):String:=match t with|true=>"tuple"|false=>"list"
def Io(t:Bool)(h:Heap)(a l:Addr)(i:Nat):Prop:=∃o,h.get? a=some o/\o.cls=.type (nm t)/\o.data=.fields #[.ref l,.int i 0]
def Sq(t:Bool)(h:Heap)(a:Addr)(items:Array Value):Prop:=∃o,h.get? a=some o/\o.cls=.type (tn t)/\∃n,o.data=.seq items n
def SQ(t:Bool)(K:Frag)(H:Hp)(a:Addr)(xs:List V):Prop:=match t with|true=>SqT K H a xs|false=>SqL K H a xs
theorem Io.at{t:Bool}{a l:Addr}{i:Nat}(x:Io t h a l i)(e:∀o,h.get? a=some o->h'.get? a=some o):Io t h' a l i:=by obtain⟨o,ho,r⟩:=x;exact⟨o,e _ ho,r⟩
theorem Io.extBut{t:Bool}{a b l:Addr}{i:Nat}(x:Io t h a l i)(e:Heap.ExtBut b h h')(n:a≠b):Io t h' a l i:=x.at λo q=>e _ _ n q
theorem Sq.at{t:Bool}{a:Addr}{xs:Array Value}(x:Sq t h a xs)(e:∀o,h.get? a=some o->h'.get? a=some o):Sq t h' a xs:=by obtain⟨o,ho,r⟩:=x;exact⟨o,e _ ho,r⟩
theorem Sq.extBut{t:Bool}{a b:Addr}{xs:Array Value}(x:Sq t h a xs)(e:Heap.ExtBut b h h')(n:a≠b):Sq t h' a xs:=x.at λo q=>e _ _ n q
theorem mF{t:Bool}{X:Cx}{Zt:List (Addr×Obj)}{a:Addr}(I:Inv X Zt σ H s)(h:SQ t X.K H a xs):∃Zs:List Value,Vals xs Zs/\Sq t s.heap a Zs.toArray/\xs.length<=sizeLine:=by
 cases t
 .obtain⟨Zs,r,p,z⟩:=I.list h;exact⟨Zs,r,p.isList,z⟩
 .exact I.tuple h
theorem wL{t:Bool}{X:Cx}{Zt:List (Addr×Obj)}{a:Addr}{ys:List V}(I:Inv X Zt σ H s)(h:SQ t X.K H a xs)(h':SQ t X.K H a ys):xs=ys:=by
 cases t
 .exact I.list_inj h h'
 .exact I.tuple_inj h h'
section
variable{prog:Program}{w:World}{A:Around}{E:Value->Shared->Prop}{s:Shared}
theorem nx{t:Bool}{j l:Addr}{i:Nat}{Zs:Array Value}{x:Value}(hj:Io t s.heap j l i)(ht:Sq t s.heap l Zs)(hx:Zs[i]?=some x)
  (hQ:∀h',Io t h' j l (i+1)->Heap.SameBut j s.heap h'->Q x {s with heap:=h'}):wpAny (model prog w) A (Builtin.SmallTypes.nextOf (.ref j)) Q E s:=by
 cases t
 .exact wpAny_nextOf_list_item hj ht hx hQ
 .exact Jh hj ht hx hQ
theorem wM{t:Bool}{j l:Addr}{i:Nat}{Zs:Array Value}(hh:A.handled=none)(hj:Io t s.heap j l i)(ht:Sq t s.heap l Zs)(hx:Zs[i]?=none)
  (hE:∀h' e,Heap.ExtBut j s.heap h'->(∃o,h'.get? e=some o/\o.cls=.type "StopIteration")->E (.ref e) {s with heap:=h'}):wpAny (model prog w) A (Builtin.SmallTypes.nextOf (.ref j)) Q E s:=by
 cases t
 .exact wpAny_nextOf_list_end hh hj ht hx hE
 .exact wJ hh hj ht hx hE
theorem oO{t:Bool}{l:Addr}{Zs:Array Value}(hl:Sq t s.heap l Zs)
  (hQ:Q (.ref s.heap.objs.size) {s with heap:=s.heap.push {cls:=.type (nm t),data:=.fields #[.ref l,.int 0 0]}}):wpAny (model prog w) A (pyIter (.ref l)) Q E s:=by
 cases t
 .exact wpAny_pyIter_list hl hQ
 .exact wpAny_pyIter_tuple hl hQ
end
theorem draws{t:Bool}{prog:Program}{w:World}{A:Around}(hh:A.handled=none)(it a:Addr)(gz:a≠it)(Zs:Array Value):
  Draws prog w A it [it,a] Zs.size (λi v=>Zs[i]?=some v) (λi h=>Io t h it a i/\Sq t h a Zs) where
 live:=λ_ _ st=>by obtain⟨o,ho,_⟩:=st.1;exact⟨o,ho⟩
 frame:=λ_ _ _ st hk=>⟨st.1.at λo e=>hk it Zy o e,st.2.at λo e=>hk a Zy o e⟩
 item:=λi s Q E hi st hQ=>nx st.1 st.2 (x:=Zs[i]) (by simp[hi]) λh' h1 h2=>hQ _ h' s.toks (by simp[hi]) ⟨h1,st.2.extBut h2.extBut gz⟩ h2
 done:=λs Q E st hE=>wM hh st.1 st.2 Zy hE
abbrev eA(t0:Bool)(h:Heap)(t:Addr):Heap:=h.push {cls:=.type (nm t0),data:=.fields #[.ref t,.int 0 0]}
theorem oR(t:Addr)(Zs:Array Value):
  Meets (Builtin.«enumerate.__new__» ⟨[.type "enumerate",.ref t],[]⟩) (λ_ R s=>Sq t0 s.heap t Zs /\
   R (.ok (.ret (.ref (eA t0 s.heap t).objs.size))) {s with heap:=(eA t0 s.heap t).push {cls:=.type "enumerate",data:=.fields #[.none,.bool false,.ref s.heap.objs.size,rawInt 0,.none,.none]}}):=
 .of_wp λprog w A R s h=>by
  obtain⟨hp,g,d,tk,os⟩:=s;obtain⟨ht,h⟩:=h;have FV:=sub_enumerate;have hT:Sq t0 (Shared.heap ⟨hp,g,d,tk,os⟩) t Zs:=ht
  wp_walk
  refine wpAny_stack_any λst=>zAz ?_;split
  .rename_i c _ _ _ _ _
   cases(c==Value.type "enumerate")
   .wp_walk using oO hT
    exact⟨_,rfl,h⟩
   .wp_walk using oO hT
    exact⟨_,rfl,h⟩
  .wp_walk using oO hT
   exact⟨_,rfl,h⟩
theorem qj{prog:Program}{w:World}{A:Around}{E:Value->Shared->Prop}{t:Addr}{Zs:Array Value}(ht:Sq t0 s.heap t Zs)
  (h:∀h',IsEnum h' (s.heap.objs.size+1) s.heap.objs.size 0 .none->Io t0 h' s.heap.objs.size t 0->(∀c o,s.heap.get? c=some o->h'.get? c=some o)->Q (.ref (s.heap.objs.size+1)) {s with heap:=h'}):
  wpAny (model prog w) A (call (.type "enumerate") [.ref t]) Q E s:=by
 refine callType_new F.called_enumerate Zx (F.typeCall_enumerate_1 _) (F.newCall_enumerate_1 _) (λobj=>F.args_object_init_2 obj _) F.entry_enumerate_new (oR t Zs) ⟨ht,?_⟩;have e1:(eA t0 s.heap t).objs.size=s.heap.objs.size+1:=Heap.size_push ..;have g2:=zB4 (eA t0 s.heap t) (o:={cls:=.type "enumerate",data:=.fields #[.none,.bool false,.ref s.heap.objs.size,rawInt 0,.none,.none]}) rfl;have g1:=zAy {cls:=.type "enumerate",data:=.fields #[.none,.bool false,.ref s.heap.objs.size,rawInt 0,.none,.none]} (zB4 s.heap (o:={cls:=.type (nm t0),data:=.fields #[.ref t,.int 0 0]}) rfl);show _/\_;rw[e1]at g2⊢;exact⟨⟨_,g2,rfl⟩,h _ g2 ⟨_,g1,rfl,rfl⟩ λc o x=>zAy _ (zAy _ x)⟩
def Ite(t0:Bool)(K:Frag)(a:Addr):It:=
 ⟨λi H=>∃xs x,SQ t0 K H a xs/\xs[i]?=some x,
  λi H v H'=>∃T,H T=none/\v=.ref T/\∀xs,SQ t0 K H a xs->∃x,xs[i]?=some x/\H'=upd H T (.tup [.int i,x]),
  λi H=>∃xs,SQ t0 K H a xs/\xs.length<=i⟩
def tne(t0:Bool)(e it a:Addr)(i:Nat)(h:Heap):Prop:=(∃old,IsEnum h e it i old)/\Io t0 h it a i
theorem Ac{P:Program}{w:World}{K:Frag}{es:List Expr}{k:Nat}{pos:Pos}{e it a:Addr}(FX:e≠it)(Qj:e≠a)(Qk:a≠it):
  Turn P w K (.Tuple es k pos) (Ite t0 K a) [e,it] e (tne t0 e it a) where
 mem:=by simp
 obj:=λi h st c hc=>by
  obtain⟨⟨old,s1⟩,⟨o4,s4,c4,d4⟩⟩:=st;simp only[List.mem_cons,List.not_mem_nil,or_false]at hc;rcases hc with z|z<;>subst z
  .exact⟨_,s1,λv q=>by cases q⟩
  .exact⟨_,s4,λv q=>by rw[d4]at q;cases q⟩
 keep:=λi h h' st kp=>by
  obtain⟨⟨old,s1⟩,s4⟩:=st;exact⟨⟨old,kp e Zy _ s1⟩,s4.at λo z=>kp it Zy o z⟩
 item:=by
  intro X hP hw hK hc i Zt s σ H E I hf st hg;subst hP hw hK;obtain⟨⟨old,s1⟩,s4⟩:=st;obtain⟨xs,x,oI,hx⟩:=hg;obtain⟨Zs,rv,p,_⟩:=mF I oI;obtain⟨ux,D7,rx⟩:=rv.get hx
  have aI:i<Zs.toArray.size:=by
   have:=(zAa.mp D7).1;simpa using this
  have D:=draws (t:=t0) (prog:=X.prog) (w:=X.w) (A:=X.A.in1) (I.ok.hd hc) it a Qk Zs.toArray;refine wpAny_pyNext_enum_itemD D s1 ⟨s4,p⟩ aI FX (by simp[FX,Qj]) λu h1 tk hu g1 g3 g5 g6 kp=>?_
  have eu:u=ux:=by
   have hu:Zs.toArray[i]?=some u:=hu;rw[List.getElem?_toArray,D7]at hu;exact(zAl hu).symm
  subst eu;refine⟨_,rfl,?_⟩;refine wpAny_letOwnedTupleGo_enum g1 λh2 e1 sb=>?_
  have live:∀c,c∈[e,it]->∃o,s.heap.get? c=some o:=λc aT=>by
   simp only[List.mem_cons,List.not_mem_nil,or_false]at aT;rcases aT with q|q<;>subst q
   .exact⟨_,s1⟩
   .obtain⟨o,h,_⟩:=s4;exact⟨o,h⟩
  have ne:∀c,c∈[e,it]->c≠s.heap.objs.size:=λc aT z=>by
   obtain⟨o,ho⟩:=live c aT;exact absurd (zB0 ho) (by rw[z];exact Zau _)
  have hT:H s.heap.objs.size=none:=I.hok.fresh (zA3 _)
  have kept:∀c o,c∉[e,it]->s.heap.get? c=some o->h2.get? c=some o:=λc o aT z=>
   sb.extBut _ _ (λq=>aT (by simp[q])) (kp c o (λq=>aT (by simp[q])) (λq=>aT (by simp[q])) z)
  have trk:∀c o,H c=some o->c∉[e,it]:=λc o z aT=>by
   have:=(hf c aT).1;rw[z]at this;cases this
  have wa:h2.get? s.heap.objs.size=some {cls:=.type "tuple",data:=.seq #[.int i tk,u]}:=sb.extBut _ _ (Ne.symm (ne e Zy)) g5
  have wb:HOk X.prog X.w (upd H s.heap.objs.size (.tup [.int i,x])) h2:=λc o z=>by
   by_cases hb:c=s.heap.objs.size
   .subst hb;rw[aj]at z;cases z;exact⟨by show 2<=sizeLine;decide,[.int i tk,u],.cons ⟨tk,rfl⟩ (.cons rx .nil),_,wa,rfl,_,rfl⟩
   .rw[az hb]at z
    refine(I.hok c o z).stay (λd v hd q=>kept d v ?_ q) (λd q=>by rw[az (aA q hT)];exact q) λd l q=>by rw[az (aA q hT)];exact q
    rcases hd with e'|e'
    .rw[e'];exact trk c o z
    .exact trk d _ e'
  have I2:Inv X Zt σ (upd H s.heap.objs.size (.tup [.int i,x])) {s with heap:=h2,toks:=tk+1}:=by
   refine I.step (g':=s.gens) (d':=s.drawn) (t':=tk+1) (ch:=[e,it]) (λc aT=>?_) (λc o _ _ hn z _=>kept c o hn z) (λc o _ _ hn z _=>⟨o.slots,kept c o hn z⟩)
    (λc o _ z n=>by rw[az (zBd (zB0 z))];exact n) (λc o hn z=>⟨o,kept c o hn z⟩) (λc l z=>by rw[az (aA z hT)];exact z) (λc o l z=>by rw[az (aA z hT)];exact z)
    (λc l z=>⟨#[],by rw[az (aA z hT),z];simp⟩) (λm hm=>?_) wb I.bare
   .obtain⟨f0,f1,f2,f3,f4,f5⟩:=hf c aT;exact⟨f3,f1,f4,f5⟩
   .obtain⟨o,f7,ep,ho,r⟩:=hm;refine⟨o,f7,ep,kept _ o (λaT=>?_) ho,r⟩;exact(hf _ aT).2.1 rfl
  refine⟨.ref s.heap.objs.size,_,I2,rfl,⟨s.heap.objs.size,hT,rfl,λQl zi=>⟨x,?_,rfl⟩⟩,⟨⟨u,?_⟩,?_⟩,λc aT=>?_⟩
  .rw[wL I zi oI];exact hx
  .have:=e1;rw[show(((i+1:Nat):Int))=(i:Int)+1 by lia];exact this
  .exact g3.1.extBut sb.extBut FX.symm
  .rw[az (ne c aT)];exact(hf c aT).1
 done:=by
  intro X hP hw hK hc i Zt s σ H E I hf st hg;subst hP hw hK;obtain⟨⟨old,s1⟩,s4⟩:=st;obtain⟨xs,oI,hlen⟩:=hg;obtain⟨Zs,rv,p,_⟩:=mF I oI;have hl:=rv.length
  have hT:s.TypeIs (.ref e) "enumerate":=⟨_,s1,rfl⟩
  have fin:∀h',Heap.ExtBut it s.heap h'->Inv X Zt σ H {s with heap:=h'}:=λh' kp=>by
   obtain⟨f0,f1,f2,f3,f4,f5⟩:=hf it Zy;exact I.turned (t':=s.toks) (λb o hb z=>kp b o hb z) f0 f1 f3 f4 f5
  unfold pyNext;refine zAv (wpAny_attempt (wpAny_callSpecial?_slot (name:=Str.ofString "__next__") hT F.slot_enumerate_next (wpAny_call_entry F.slot_enumerate_next hT F.entry_enumerate_next ?_ (F.args_enumerate_next_1 _))));show wpAny _ _ (field (.ref e) 2>>=_) _ _ _;refine zAv (wpAny_field s1 rfl (x:=.ref it) rfl ?_);refine zAv (wM (I.ok.hd hc) s4 p (by simp;lia) λh' x D0 gp=>?_);obtain⟨o,ho,Qm⟩:=gp;refine zAv (wpAny_isInstance (T:="StopIteration") (b:=true) ⟨o,ho,Qm⟩ isSubtype_stop (zAz ⟨rfl,fin h' D0⟩))
 self:=λ_ _ _ _ _ st h=>wpAny_pyIter_enum st.1.choose_spec h
section
variable{X:Cx}
def Ku(t0:Bool)(K:Frag)(t:TA):TI:=λσ H R=>t σ H λvs H1=>∃a xs,vs=[.ref a]/\SQ t0 K H1 a xs/\R (Ite t0 K a) H1
theorem pi_enum(t0:Bool){es:List Expr}{k:Nat}{tp:Pos}{a:Expr}{ta:TA}{p pos:Pos}(hg:Gl X "enumerate")(hm:X.mg "enumerate"=none)(ha:PA X [a] ta)(hs:starEach [a] X.env=[(false,eval a X.env)]:=by rfl):
  PI X (.Tuple es k tp) (.Call (.Name "enumerate" p) [a] [] pos) (Ku t0 X.K ta):=by
 intro Zt s σ H R I h;refine Call_ (iD I hg hm boot_enumerate (PyProof.Rows.callWith_type1 (thn (ha pos Zt s σ H _ I h) λus s1=>?_) hs rfl));rintro⟨vs,H1,I1,r1,q1⟩;obtain⟨x,xs,e,hx,q⟩:=q1;subst e;obtain⟨u,rfl,ru⟩:=vals1 r1;cases ru;obtain⟨Zs,_,p1,_⟩:=mF I1 hx;refine qj p1 λh' z1 z4 kp=>?_;refine wpAny_pyIter_enum z1 ?_;have lx:x<s1.heap.objs.size:=by obtain⟨_,e,_⟩:=p1;exact zB0 e
 refine⟨_,_,_,_,H1,rfl,I1.kept (t':=s1.toks) kp,Ac (e:=s1.heap.objs.size+1) (it:=s1.heap.objs.size) (a:=x) (Nat.succ_ne_self _) (Nat.ne_of_gt (Nat.lt_succ_of_lt lx)) (zBd lx),⟨⟨_,z1⟩,z4⟩,λc hc=>?_,q⟩
 have hle:s1.heap.objs.size<=c:=by
  simp only[List.mem_cons,List.not_mem_nil,or_false]at hc;rcases hc with q|q<;>subst q
  .exact Nat.le_add_right _ 1
  .exact zA3 _
 exact I1.fpOk hle (I1.hok.fresh hle)
end
theorem for_enum(t0:Bool){K:Frag}{a:Addr}{g:TG}{tb:TS}{D:Ends}(Pv:Nat->St->Hp->Prop)(h0:Pv 0 σ H)(hl:∀i σ H,i<=xs.length->Pv i σ H->SQ t0 K H a xs)
  (hs:∀i x σ H T,xs[i]?=some x->Pv i σ H->H T=none->g (.ref T) σ (upd H T (.tup [.int i,x])) λaS H2=>tb {D with nx:=Pv (i+1),ct:=Pv (i+1),bk:=D.nx} aS H2) (hd:∀σ H,Pv xs.length σ H->D.nx σ H):
  ∃W:Nat->Nat->St->Hp->Prop,(∃m,W 0 m σ H)/\∀i m σ H,W i m σ H->
   ((Ite t0 K a).stop i H/\D.nx σ H)\/((Ite t0 K a).go i H/\∃N:St->Hp->Prop,(∀av H',N av H'->∃m',m'<m/\W (i+1) m' av H')/\∀x H',(Ite t0 K a).yld i H x H'->g x σ H' λaS H2=>tb {D with nx:=N,ct:=N,bk:=D.nx} aS H2):=by
 refine⟨λi m σ H=>m=xs.length-i/\i<=xs.length/\Pv i σ H,⟨xs.length,by simp,zAp _,h0⟩,?_⟩;rintro i m σ H ⟨rfl,hi,p⟩;have q:=hl i σ H hi p;by_cases aI:i<xs.length
 .refine .inr ⟨⟨xs,xs[i],q,by simp[aI]⟩,Pv (i+1),λav H' p'=>⟨xs.length-(i+1),Zz,rfl,aI,p'⟩,λx H' y=>?_⟩;obtain⟨T,nT,rfl,y⟩:=y;obtain⟨x,ex,rfl⟩:=y xs q;exact hs i x σ H T ex p nT
 .have e:i=xs.length:=Zz
  subst e;exact .inl ⟨⟨xs,q,zA3 _⟩,hd σ H p⟩
end L2.ZT
namespace L2
open PySem PySem.Spec PyProof.Rows
section
variable{X:Cx}
theorem ql(hc:X.calm=true):dG X (.builtin "min") (λxs H Q=>∃(p:Addr) (ns:PP),xs=[.ref p]/\SqL X.K H p (ns.map V.int)/\ns≠[]/\∀M,M∈ns->(∀a∈ns,M<=a)->Q (.int M) H):=by
 intro Zt s σ H xs us Q I r h;obtain⟨p,ns,rfl,hq,gz,q⟩:=h;obtain⟨u,rfl,ru⟩:=vals1 r;cases ru;obtain⟨Zs,rv,pl,hz⟩:=I.list hq;have hi:IntsAre Zs ns:=intsAre_of rv;obtain⟨zs,ez⟩:=(hi.allInts:AllInts Zs.toArray).items;have en:numsOf Zs=ns:=hi.numsOf;have hl:s.heap.IsList p (intItems zs):=ez▸pl.isList
 have bp:0<zs.size:=by
  have e1:(intItems zs).size=Zs.length:=by rw[<-ez,zA8]
  have e2:=rv.length;rw[zA1]at e2;have e3:0<ns.length:=List.length_pos_iff.mpr gz;simp only[intItems,Array.size_map]at e1;lia
 have hn:numsOf (intItems zs).toList=ns:=by rw[<-ez];exact en
 refine min_intList (I.ok.hd hc) hl bp λv h' tk hv hk=>?_;obtain⟨t,rfl⟩:=intItems_at hv;obtain⟨h1,h2⟩:=argBest_lt (numAt zs) (zs.size-1);rw[nums_intItems]at hn;refine⟨.int _,H,I.kept (t':=tk) hk,⟨t,rfl⟩,q _ ?_ λa ha=>?_⟩
 .rw[<-hn,numAt_eq];exact getD_mem (by rw[zA1,zA9];lia)
 .rw[<-hn]at ha;obtain⟨j,hj,rfl⟩:=mem_getD ha;rw[zA1,zA9]at hj;rw[<-numAt_eq];exact h2 j Zz
inductive RCatT0I(K:Frag)(x:V)(y:V)(H:Hp)(Q:VK):Prop
 |mk:∀a b ys,(x=.ref a)->(y=.ref b)->(SqT K H a [])->(SqT K H b ys)->(Q (.ref b) H)->RCatT0I K x y H Q
def Jl(K:Frag):R2:=λx y H Q=>RCatT0I K x y H Q
open Builtin in
theorem Cq(l b:Addr)(Zs:Array Value)(n m:Nat)(dd ze:Option Addr)(sl uu:Array (Option Value)):
  Meets (Builtin.«tuple.__add__» ⟨[.ref l,.ref b],[]⟩) (λ_ R s=>s.heap.get? l=some {cls:=.type "tuple",dict:=dd,data:=.seq #[] n,slots:=sl}/\s.heap.get? b=some {cls:=.type "tuple",dict:=ze,data:=.seq Zs m,slots:=uu}/\R (.ok (.ret (.ref b))) s):=by
 refine .of_wp λprog w A R s h=>?_;obtain⟨hp,g,d,tk,os⟩:=s;obtain⟨hl,hb,h⟩:=h;have f2:=PySem.AutoSeq1.sub_tuple_tuple
 wp_walk
 exact⟨_,rfl,h⟩
theorem Cr:OpR X (binaryOp .Add) (Jl X.K):=by
 intro Zt s σ H x y v u Q I rx ry h;obtain⟨a,b,ys,rfl,rfl,ha,hb,q⟩:=h;cases rx;cases ry;obtain⟨Zs,r1,p1,_⟩:=I.tuple ha;obtain⟨cq,r2,p2,_⟩:=I.tuple hb;have e:Zs=[]:=r1.zero;subst e;obtain⟨⟨cls,dd,data,sl⟩,ho,hc,n,hd⟩:=id p1;obtain⟨⟨Fc,ze,data2,uu⟩,oq,A4,n2,hd2⟩:=id p2;simp only at hc hd A4 hd2;subst hc hd A4 hd2;exact concat_meets ⟨_,ho,rfl⟩ ⟨_,oq,rfl⟩ noFill_tuple_add seq_tuple_add PySem.F.slot_tuple_add PySem.F.entry_tuple_add (PySem.F.args_tuple_add_2 _ _) (Cq a b cq.toArray n n2 dd ze sl uu) ⟨ho,oq,.ref b,H,I,rfl,q⟩
theorem Cu:OpR X (binaryOp .Add) (λx y H Q=>∃a b xs ys,x=.ref a/\y=.ref b/\SqT X.K H a xs/\SqT X.K H b ys/\ys≠[]/\xs.length+ys.length<=sizeLine/\(xs=[]->Q (.ref b) H)/\(xs≠[]->∀p,H p=none->Q (.ref p) (upd H p (.tup (xs++ys))))):=by
 intro Zt s σ H x y v u Q I rx ry h;obtain⟨a,b,xs,ys,rfl,rfl,ha,hb,hy,hz,q1,q2⟩:=h;by_cases hx:xs=[]
 .subst hx;exact Cr Zt s σ H _ _ v u Q I rx ry ⟨a,b,ys,rfl,rfl,ha,hb,q1 rfl⟩
 .exact sy Zt s σ H _ _ v u Q I rx ry ⟨a,b,xs,ys,rfl,rfl,ha,hb,hx,hz,λz=>absurd z hy,λ_=>q2 hx⟩
end
section
variable{prog:Program}{w:World}{A:Around}{E:Value->Shared->Prop}{s:Shared}
open HT in
theorem jM{t sl:Addr}{items:Array Value}{vl vu:Value}{lo hi:Option Int}{Q:Value->Shared->Prop}(ht:IsTup s.heap t items)(hs:s.heap.IsSliceOf sl vl vu .none)(pl:IsPart vl lo)(pu:IsPart vu hi)
  (h1:sIx items.size 0 lo=0) (h2:sIx items.size items.size hi=items.size) (h:Q (.ref t) s):wpAny (model prog w) A (getItem (.ref t) (.ref sl)) Q E s:=by
 obtain⟨os,uS,DV,A5⟩:=id hs
 have Fh:s.TypeIs (.ref sl) "slice":=⟨os,uS,DV⟩
 unfold getItem
 try with_reducible refine wpAny_holding ?_
 first|refine zAv (zAz ?_)|skip
 refine zAv (wpAny_sequenceKey ht.typeIs Zx ?_)
 refine zAv (wpAny_callSpecial?_slot (name:=Str.ofString "__getitem__") ht.typeIs PyProof.Rows.slot_tuple_getitem
  (wpAny_call_entry PyProof.Rows.slot_tuple_getitem ht.typeIs entry_tuple_getitem ?_ (args_tuple_getitem _ _)))
 show wpAny _ _ (Builtin.Tuple.tupleItemsOf (.ref t)>>=_) _ _ s;refine zAv (tupleItemsOf_ ht ?_);refine zAv (wpAny_typeOf Fh ?_);rw[zAx Zx];refine zAv (gP hs pl pu ?_);rw[h1,h2];show wpAny _ _ (if((((0:Nat):Int))==0&&(1:Int)==1&&(items.size-0)==items.size)=true then _ else _) _ _ s;rw[zAx Zy];unfold Builtin.Tuple.tupleIsExact;refine zAv (zAv (wpAny_typeOf ht.typeIs (zAz ?_)));rw[zAx Zx];exact zAv (wpAny_rule (zAz ⟨_,rfl,zAz h⟩))
end
section
variable{X:Cx}
inductive RSlWI(K:Frag)(x:V)(lo:Option Int)(hi:Option Int)(H:Hp)(Q:VK):Prop
 |mk:∀a xs,(x=.ref a)->(SqT K H a xs)->(((HT.sIx xs.length 0 lo=0/\HT.sIx xs.length xs.length hi=xs.length)->Q (.ref a) H))->((¬(HT.sIx xs.length 0 lo=0/\HT.sIx xs.length xs.length hi=xs.length)->∀p,H p=none->Q (.ref p) (upd H p (.tup (iH xs lo hi)))))->RSlWI K x lo hi H Q
def Mv(K:Frag):V->Option Int->Option Int->Hp->VK->Prop:=λx lo hi H Q=>RSlWI K x lo hi H Q
theorem yh:SlR X (Mv X.K):=by
 intro Zt s σ H x v vl vu lo hi sl Q I rx hs pl pu h;obtain⟨a,xs,rfl,hx,q1,q2⟩:=h;by_cases hw:HT.sIx xs.length 0 lo=0/\HT.sIx xs.length xs.length hi=xs.length
 .cases rx;obtain⟨Zs,r,ht,hz⟩:=I.tuple hx;have hlen:Zs.toArray.size=xs.length:=by rw[zA8];exact r.length.symm
  refine⟨"tuple",_,PyProof.Rows.slot_tuple_getitem.lookup,ht.typeIs,?_⟩;exact jM ht hs pl pu (by rw[hlen];exact hw.1) (by rw[hlen];exact hw.2) ⟨.ref a,H,I,rfl,q1 hw⟩
 .exact J7 Zt s σ H _ v vl vu lo hi sl Q I rx hs pl pu ⟨a,xs,rfl,hx,hw,q2 hw⟩
end
section
variable{prog:Program}{w:World}{A:Around}{E:Value->Shared->Prop}{s:Shared}
end
section
variable{X:Cx}{e:Expr}{te:TE}{pos p2 p3 p4:Pos}{j:Nat}
end
end L2
namespace L2.ZT
open PySem PySem.Spec PyProof.Rows L2
variable{i1 i2 z:Addr}{xs:Array Value}{t1 t2:Bool}
section
variable{prog:Program}{w:World}{A:Around}{E:Value->Shared->Prop}{s:Shared}
theorem uT{TI TO l1 l2:Addr}{k:Nat}{ys:Array Value}{x y a b:Value}{Q:Option Value->Shared->Prop}(D:ZipApart z TI TO i1 i2 l1 l2)
  (hz:IsZip s.heap z TI TO .none) (FY:IsPair s.heap TI (.ref i1) (.ref i2)) (NH:IsPair s.heap TO a b)
  (h1:Io t1 s.heap i1 l1 k) (h2:Io t2 s.heap i2 l2 k) (dE:Sq t1 s.heap l1 xs) (iX:Sq t2 s.heap l2 ys) (hx:xs[k]?=some x) (hy:ys[k]?=some y)
  (hQ:∀h',IsZip h' z TI TO (rawInt s.heap.objs.size)->IsPair h' TO x y->Io t1 h' i1 l1 (k+1)->Io t2 h' i2 l2 (k+1)->IsPair h' s.heap.objs.size x y->h'.objs.size=s.heap.objs.size+1->
   (∀c o,c≠z->c≠TO->c≠i1->c≠i2->s.heap.get? c=some o->h'.get? c=some o)->Q (some (.ref s.heap.objs.size)) {s with heap:=h'}):
  wpAny (model prog w) A (pyNext (.ref z)) Q E s:=by
 have hT:s.TypeIs (.ref z) "zip":=⟨_,hz,rfl⟩
 unfold pyNext;refine zAv (wpAny_attempt (wpAny_callSpecial?_slot (name:=Str.ofString "__next__") hT F.slot_zip_next (wpAny_call_entry F.slot_zip_next hT F.entry_zip_next ?_ (F.args_zip_next_1 _))));show wpAny _ _ (field (.ref z) 2>>=_) _ _ _;refine zAv (wpAny_field hz rfl (x:=.bool false) rfl ?_);show wpAny _ _ (field (.ref z) 3>>=_) _ _ _;refine zAv (wpAny_field hz rfl (x:=.ref TI) rfl (zAv (wpAny_seqItems FY rfl ?_)));show wpAny _ _ (Builtin.SmallTypes.ownedTupleIsFree (.ref z)>>=_) _ _ _;refine zAv ?_;unfold Builtin.SmallTypes.ownedTupleIsFree;refine zAv (wpAny_field hz rfl (x:=.none) rfl (zAz ?_));simp only[if_true];refine zAv (wpAny_rule (zAv (wpAny_field hz rfl (x:=.ref TO) rfl (zAv (wpAny_setField_rec hz Zy λg1 z1 s1=>?_)))))
 replace z1:IsZip g1 z TI TO .ellipsis:=z1
 refine zAv ?_;simp only[List.zipIdx_cons,List.zipIdx_nil,List.forIn_cons,List.forIn_nil];refine zAv (zAv (wpAny_onRaise ?_));show wpAny _ _ (Builtin.SmallTypes.nextOf (.ref i1)>>=_) _ _ _;refine zAv (nx (h1.extBut s1.extBut D.i1z) (dE.extBut s1.extBut D.l1z) hx λg2 q1 s2=>zAz ?_);have o2:IsPair g2 TO a b:=s2.extBut _ _ D.TOi1 (s1.extBut _ _ D.TOz NH);refine zAv (wpAny_seqItems o2 rfl (zAv (wpAny_updateSeq_pair o2 λg3 o3 s3=>?_)))
 replace o3:IsPair g3 TO x b:=o3
 refine zAv (wpAny_letGo (zAz (zAv (zAv (wpAny_onRaise ?_)))));show wpAny _ _ (Builtin.SmallTypes.nextOf (.ref i2)>>=_) _ _ _;refine zAv (nx (((h2.extBut s1.extBut D.i2z).extBut s2.extBut D.i12.symm).extBut s3.extBut D.TOi2.symm) (((iX.extBut s1.extBut D.l2z).extBut s2.extBut D.l2i1).extBut s3.extBut D.l2TO) hy λg4 q2 s4=>zAz ?_);have o4:IsPair g4 TO x b:=s4.extBut _ _ D.TOi2 o3;refine zAv (wpAny_seqItems o4 rfl (zAv (wpAny_updateSeq_pair o4 λg5 o5 s5=>?_)))
 replace o5:IsPair g5 TO x y:=o5
 refine zAv (wpAny_letGo (zAz (zAz (zAv (wpAny_seqItems o5 rfl (zAv (wpAny_newTuple ?_)))))));have hsz:g5.objs.size=s.heap.objs.size:=by rw[s5.1,s4.1,s3.1,s2.1,s1.1]
 have z5:IsZip g5 z TI TO .ellipsis:=s5.extBut _ _ D.TOz.symm (s4.extBut _ _ D.i2z.symm (s3.extBut _ _ D.TOz.symm (s2.extBut _ _ D.i1z.symm z1)));have k5:∀c o,c≠z->c≠TO->c≠i1->c≠i2->s.heap.get? c=some o->g5.get? c=some o:=λc o c1 c2 c3 c4 e=>s5.extBut _ _ c2 (s4.extBut _ _ c4 (s3.extBut _ _ c2 (s2.extBut _ _ c3 (s1.extBut _ _ c1 e))));have p1:Io t1 g5 i1 l1 (k+1):=((q1.extBut s3.extBut D.TOi1.symm).extBut s4.extBut D.i12).extBut s5.extBut D.TOi1.symm;have p2:Io t2 g5 i2 l2 (k+1):=q2.extBut s5.extBut D.TOi2.symm;have NI:z<g5.objs.size:=zB0 z5;show wpAny _ _ (Builtin.SmallTypes.ownedTupleHandOut (.ref z) (.ref g5.objs.size)>>=_) _ _ _;refine zAv ?_;unfold Builtin.SmallTypes.ownedTupleHandOut;have z6:IsZip (g5.push {cls:=.type "tuple",data:=.seq #[x,y]}) z TI TO .ellipsis:=zAy _ z5;refine zAv (wpAny_setField_rec z6 Zy λg7 z7 s7=>?_)
 replace z7:IsZip g7 z TI TO (rawInt g5.objs.size):=z7
 refine wpAny_setField_rec z7 Zy λg8 z8 s8=>?_
 replace z8:IsZip g8 z TI TO (rawInt g5.objs.size):=z8
 have up:∀c o,c≠z->g5.get? c=some o->g8.get? c=some o:=λc o c1 e=>s8.extBut _ _ c1 (s7.extBut _ _ c1 (zAy _ e));have t8:IsPair g8 g5.objs.size x y:=s8.extBut _ _ (Nat.ne_of_gt NI) (s7.extBut _ _ (Nat.ne_of_gt NI) (zB4 _ rfl));have n8:g8.objs.size=g5.objs.size+1:=by rw[s8.1,s7.1,Heap.size_push]
 rw[hsz]at z8 t8 n8;refine zAz ⟨_,rfl,zAz ?_⟩;show Q (some (.ref g5.objs.size)) _;rw[hsz];exact hQ g8 z8 (up _ _ D.TOz o5) (p1.at λo e=>up _ o D.i1z e) (p2.at λo e=>up _ o D.i2z e) t8 n8 λc o c1 c2 c3 c4 e=>up c o c1 (k5 c o c1 c2 c3 c4 e)
theorem wN{TI TO l1 l2:Addr}{k:Nat}{a b:Value}{Q:Option Value->Shared->Prop}(hh:A.handled=none)(D:ZipApart z TI TO i1 i2 l1 l2)
  (hz:IsZip s.heap z TI TO .none) (FY:IsPair s.heap TI (.ref i1) (.ref i2)) (NH:IsPair s.heap TO a b) (h1:Io t1 s.heap i1 l1 k) (dE:Sq t1 s.heap l1 xs) (hx:xs[k]?=none)
  (hQ:∀h',(∀c o,c≠z->c≠i1->s.heap.get? c=some o->h'.get? c=some o)->Q none {s with heap:=h'}):wpAny (model prog w) A (pyNext (.ref z)) Q E s:=by
 have hT:s.TypeIs (.ref z) "zip":=⟨_,hz,rfl⟩
 unfold pyNext;refine zAv (wpAny_attempt (wpAny_callSpecial?_slot (name:=Str.ofString "__next__") hT F.slot_zip_next (wpAny_call_entry F.slot_zip_next hT F.entry_zip_next ?_ (F.args_zip_next_1 _))));show wpAny _ _ (field (.ref z) 2>>=_) _ _ _;refine zAv (wpAny_field hz rfl (x:=.bool false) rfl ?_);show wpAny _ _ (field (.ref z) 3>>=_) _ _ _;refine zAv (wpAny_field hz rfl (x:=.ref TI) rfl (zAv (wpAny_seqItems FY rfl ?_)));show wpAny _ _ (Builtin.SmallTypes.ownedTupleIsFree (.ref z)>>=_) _ _ _;refine zAv ?_;unfold Builtin.SmallTypes.ownedTupleIsFree;refine zAv (wpAny_field hz rfl (x:=.none) rfl (zAz ?_));simp only[if_true];refine zAv (wpAny_rule (zAv (wpAny_field hz rfl (x:=.ref TO) rfl (zAv (wpAny_setField_rec hz Zy λg1 z1 s1=>?_)))))
 replace z1:IsZip g1 z TI TO .ellipsis:=z1
 refine zAv ?_;simp only[List.zipIdx_cons,List.zipIdx_nil,List.forIn_cons,List.forIn_nil];refine zAv (zAv (wpAny_onRaise ?_));show wpAny _ _ (Builtin.SmallTypes.nextOf (.ref i1)>>=_) _ _ _;refine zAv (wM hh (h1.extBut s1.extBut D.i1z) (dE.extBut s1.extBut D.l1z) hx λg2 e s2 he=>?_);obtain⟨oe,F1,NJ⟩:=he;have z2:IsZip g2 z TI TO .ellipsis:=s2 _ _ D.i1z.symm z1
 have Qn:e≠z:=λq=>by
  subst q;rw[z2]at F1;cases F1;simp at NJ
 refine wpAny_setField_rec z2 Zy λg3 _ s3=>?_;refine zAv (wpAny_isInstance (T:="StopIteration") (b:=true) ⟨oe,s3.extBut _ _ Qn F1,NJ⟩ isSubtype_stop (zAz (hQ _ λc o c1 c2 q=>s3.extBut _ _ c1 (s2 _ _ c2 (s1.extBut _ _ c1 q)))))
end
abbrev zA(t1:Bool)(h:Heap)(t:Addr):Heap:=h.push {cls:=.type (nm t1),data:=.fields #[.ref t,.int 0 0]}
abbrev zB(t1 t2:Bool)(h:Heap)(t l:Addr):Heap:=(zA t1 h t).push {cls:=.type (nm t2),data:=.fields #[.ref l,.int 0 0]}
abbrev zC(t1 t2:Bool)(h:Heap)(t l:Addr):Heap:=(zB t1 t2 h t l).push {cls:=.type "tuple",data:=.seq #[.ref h.objs.size,.ref (zA t1 h t).objs.size]}
abbrev zD(t1 t2:Bool)(h:Heap)(t l:Addr):Heap:=(zC t1 t2 h t l).push {cls:=.type "tuple",data:=.seq #[.none,.none]}
abbrev zE(t1 t2:Bool)(h:Heap)(t l:Addr):Heap:=(zD t1 t2 h t l).push {cls:=.type "zip",data:=.fields #[.none,.bool false,.bool false,.ref (zB t1 t2 h t l).objs.size,.ref (zC t1 t2 h t l).objs.size]}
theorem tM(t l:Addr)(xs ys:Array Value):
  Meets (Builtin.«zip.__new__» ⟨[.type "zip",.ref t,.ref l],[]⟩) (λ_ R s=>Sq t1 s.heap t xs/\Sq t2 s.heap l ys/\R (.ok (.ret (.ref (zD t1 t2 s.heap t l).objs.size))) {s with heap:=zE t1 t2 s.heap t l}):=
 .of_wp λprog w A R s h=>by
  obtain⟨hp,g,d,tk,os⟩:=s;obtain⟨ht,hl,h⟩:=h;have FV:=sub_zip;have hT:Sq t1 (Shared.heap ⟨hp,g,d,tk,os⟩) t xs:=ht;have hL:Sq t2 (Shared.heap ⟨hp.push {cls:=.type (nm t1),data:=.fields #[.ref t,.int 0 0]},g,d,tk,os⟩) l ys:=hl.at λo e=>zAy _ e
  wp_walk using oO hT,oO hL
  exact⟨_,rfl,h⟩
theorem uU{prog:Program}{w:World}{A:Around}{E:Value->Shared->Prop}{s:Shared}{t l:Addr}{ys:Array Value}{Q:Value->Shared->Prop}(ht:Sq t1 s.heap t xs)(hl:Sq t2 s.heap l ys)
  (h:∀h',IsZip h' (s.heap.objs.size+4) (s.heap.objs.size+2) (s.heap.objs.size+3) .none->IsPair h' (s.heap.objs.size+2) (.ref s.heap.objs.size) (.ref (s.heap.objs.size+1))->IsPair h' (s.heap.objs.size+3) .none .none->
   Io t1 h' s.heap.objs.size t 0->Io t2 h' (s.heap.objs.size+1) l 0->(∀c o,s.heap.get? c=some o->h'.get? c=some o)->Q (.ref (s.heap.objs.size+4)) {s with heap:=h'}):
  wpAny (model prog w) A (call (.type "zip") [.ref t,.ref l]) Q E s:=by
 refine callType_new F.called_zip Zx (F.typeCall_zip_2 _ _) (F.newCall_zip_2 _ _) (λobj=>F.args_object_init_3 obj _ _) F.entry_zip_new (tM t l xs ys) ⟨ht,hl,?_⟩;have e1:(zA t1 s.heap t).objs.size=s.heap.objs.size+1:=Heap.size_push ..;have e2:(zB t1 t2 s.heap t l).objs.size=s.heap.objs.size+2:=by rw[Heap.size_push,e1]
 have e3:(zC t1 t2 s.heap t l).objs.size=s.heap.objs.size+3:=by rw[Heap.size_push,e2]
 have e4:(zD t1 t2 s.heap t l).objs.size=s.heap.objs.size+4:=by rw[Heap.size_push,e3]
 have NL:∀{c o},(zD t1 t2 s.heap t l).get? c=some o->(zE t1 t2 s.heap t l).get? c=some o:=λe=>zAy _ e;have NM:∀{c o},(zC t1 t2 s.heap t l).get? c=some o->(zE t1 t2 s.heap t l).get? c=some o:=λe=>NL (zAy _ e);have NN:∀{c o},(zB t1 t2 s.heap t l).get? c=some o->(zE t1 t2 s.heap t l).get? c=some o:=λe=>NM (zAy _ e);have up1:∀{c o},(zA t1 s.heap t).get? c=some o->(zE t1 t2 s.heap t l).get? c=some o:=λe=>NN (zAy _ e);have g5:(zE t1 t2 s.heap t l).get? (zD t1 t2 s.heap t l).objs.size=some _:=zB4 _ rfl;have g4:(zE t1 t2 s.heap t l).get? (zC t1 t2 s.heap t l).objs.size=some _:=NL (zB4 _ rfl);have g3:(zE t1 t2 s.heap t l).get? (zB t1 t2 s.heap t l).objs.size=some _:=NM (zB4 _ rfl);have g2:(zE t1 t2 s.heap t l).get? (zA t1 s.heap t).objs.size=some _:=NN (zB4 _ rfl);have g1:(zE t1 t2 s.heap t l).get? s.heap.objs.size=some _:=up1 (zB4 _ rfl);show _/\_;rw[e4,e2,e3]at g5;rw[e2,e1]at g3;rw[e3]at g4;rw[e1]at g2;rw[e4];exact⟨⟨_,g5,rfl⟩,h _ g5 g3 g4 ⟨_,g1,rfl,rfl⟩ ⟨_,g2,rfl,rfl⟩ λc o x=>up1 (zAy _ x)⟩
def Itz(t1 t2:Bool)(K:Frag)(a b:Addr):It:=
 ⟨λi H=>∃xs ys x y,SQ t1 K H a xs/\SQ t2 K H b ys/\xs[i]?=some x/\ys[i]?=some y,
  λi H v H'=>∃T,H T=none/\v=.ref T/\∀xs ys,SQ t1 K H a xs->SQ t2 K H b ys->∃x y,xs[i]?=some x/\ys[i]?=some y/\H'=upd H T (.tup [x,y]),
  λi H=>∃xs,SQ t1 K H a xs/\xs.length<=i⟩
def tnz(t1 t2:Bool)(z TI TO i1 i2 a b:Addr)(i:Nat)(h:Heap):Prop:=IsZip h z TI TO .none/\IsPair h TI (.ref i1) (.ref i2)/\(∃u v,IsPair h TO u v)/\Io t1 h i1 a i/\Io t2 h i2 b i
theorem Cv{P:Program}{w:World}{K:Frag}{es:List Expr}{k:Nat}{pos:Pos}{TI TO a b:Addr}(D:ZipApart z TI TO i1 i2 a b):
  Turn P w K (.Tuple es k pos) (Itz t1 t2 K a b) [z,TI,TO,i1,i2] z (tnz t1 t2 z TI TO i1 i2 a b) where
 mem:=by simp
 obj:=λi h st c hc=>by
  obtain⟨s1,s2,⟨u,v,s3⟩,⟨o4,s4,c4,d4⟩,⟨o5,s5,c5,d5⟩⟩:=st;simp only[List.mem_cons,List.not_mem_nil,or_false]at hc;rcases hc with e|e|e|e|e<;>subst e
  .exact⟨_,s1,λv q=>by cases q⟩
  .exact⟨_,s2,λv q=>by cases q⟩
  .exact⟨_,s3,λv q=>by cases q⟩
  .exact⟨_,s4,λv q=>by rw[d4]at q;cases q⟩
  .exact⟨_,s5,λv q=>by rw[d5]at q;cases q⟩
 keep:=λi h h' st kp=>by
  obtain⟨s1,s2,⟨u,v,s3⟩,s4,s5⟩:=st;exact⟨kp z Zy _ s1,kp TI Zy _ s2,⟨u,v,kp TO Zy _ s3⟩,s4.at λo e=>kp i1 Zy o e,s5.at λo e=>kp i2 Zy o e⟩
 item:=by
  intro X hP hw hK hc i Zt s σ H E I hf st hg;subst hP hw hK;obtain⟨s1,s2,⟨u,v,s3⟩,s4,s5⟩:=st;obtain⟨xs,ys,x,y,oI,NO,hx,hy⟩:=hg;obtain⟨Zs,rv,p,_⟩:=mF I oI;obtain⟨Qo,fE,q,_⟩:=mF I NO;obtain⟨ux,D7,rx⟩:=rv.get hx;obtain⟨uy,Qp,ry⟩:=fE.get hy;refine uT D s1 s2 s3 s4 s5 p q (x:=ux) (y:=uy) (by simpa using D7) (by simpa using Qp) λh1 g1 g2 g3 g4 g5 g6 kp=>?_;refine⟨_,rfl,?_⟩;refine wpAny_letOwnedTupleGo_zip g1 λh2 e1 sb=>?_
  have ne:∀c,c∈[z,TI,TO,i1,i2]->c≠s.heap.objs.size:=λc aT e=>by
   obtain⟨f0,f1,f2,f3,f4,f5⟩:=hf c aT
   have:∃o,s.heap.get? c=some o:=by
    simp only[List.mem_cons,List.not_mem_nil,or_false]at aT;rcases aT with q|q|q|q|q<;>subst q
    .exact⟨_,s1⟩
    .exact⟨_,s2⟩
    .exact⟨_,s3⟩
    .obtain⟨o,h,_⟩:=s4;exact⟨o,h⟩
    .obtain⟨o,h,_⟩:=s5;exact⟨o,h⟩
   obtain⟨o,ho⟩:=this;exact absurd (zB0 ho) (by rw[e];exact Zau _)
  have hT:H s.heap.objs.size=none:=I.hok.fresh (zA3 _)
  have kept:∀c o,c∉[z,TO,i1,i2]->s.heap.get? c=some o->h2.get? c=some o:=λc o aT e=>
   sb.extBut _ _ (λq=>aT (by simp[q])) (kp c o (λq=>aT (by simp[q])) (λq=>aT (by simp[q])) (λq=>aT (by simp[q])) (λq=>aT (by simp[q])) e)
  have F2:∀c,c∈[z,TO,i1,i2]->c∈[z,TI,TO,i1,i2]:=λc aT=>by
   simp only[List.mem_cons,List.not_mem_nil,or_false]at aT⊢;rcases aT with q|q|q|q<;>simp[q]
  have trk:∀c o,H c=some o->c∉[z,TO,i1,i2]:=λc o e aT=>by
   have:=(hf c (F2 c aT)).1;rw[e]at this;cases this
  have wa:h2.get? s.heap.objs.size=some {cls:=.type "tuple",data:=.seq #[ux,uy]}:=sb.extBut _ _ (Ne.symm (ne z Zy)) g5
  have wb:HOk X.prog X.w (upd H s.heap.objs.size (.tup [x,y])) h2:=λc o e=>by
   by_cases hb:c=s.heap.objs.size
   .subst hb;rw[aj]at e;cases e;exact⟨by show 2<=sizeLine;decide,[ux,uy],.cons rx (.cons ry .nil),_,wa,rfl,_,rfl⟩
   .rw[az hb]at e
    refine(I.hok c o e).stay (λd v hd q=>kept d v ?_ q) (λd q=>by rw[az (aA q hT)];exact q) λd l q=>by rw[az (aA q hT)];exact q
    rcases hd with e'|e'
    .rw[e'];exact trk c o e
    .exact trk d _ e'
  have I2:Inv X Zt σ (upd H s.heap.objs.size (.tup [x,y])) {s with heap:=h2}:=by
   refine I.step (g':=s.gens) (d':=s.drawn) (t':=s.toks) (ch:=[z,TO,i1,i2]) (λc aT=>?_) (λc o _ _ hn e _=>kept c o hn e) (λc o _ _ hn e _=>⟨o.slots,kept c o hn e⟩)
    (λc o _ e n=>by rw[az (zBd (zB0 e))];exact n) (λc o hn e=>⟨o,kept c o hn e⟩) (λc l e=>by rw[az (aA e hT)];exact e) (λc o l e=>by rw[az (aA e hT)];exact e)
    (λc l e=>⟨#[],by rw[az (aA e hT),e];simp⟩) (λm hm=>?_) wb I.bare
   .obtain⟨f0,f1,f2,f3,f4,f5⟩:=hf c (F2 c aT);exact⟨f3,f1,f4,f5⟩
   .obtain⟨o,f7,ep,ho,r⟩:=hm;refine⟨o,f7,ep,kept _ o (λaT=>?_) ho,r⟩;exact(hf _ (F2 _ aT)).2.1 rfl
  refine⟨.ref s.heap.objs.size,_,I2,rfl,⟨s.heap.objs.size,hT,rfl,λQl cK zi Qq=>⟨x,y,?_,?_,rfl⟩⟩,⟨e1,?_,?_,?_,?_⟩,λc aT=>?_⟩
  .rw[wL I zi oI];exact hx
  .rw[wL I Qq NO];exact hy
  .exact sb.extBut _ _ D.TIz (kp _ _ D.TIz D.TITO D.TIi1 D.TIi2 s2)
  .exact⟨_,_,sb.extBut _ _ D.TOz g2⟩
  .exact g3.extBut sb.extBut D.i1z
  .exact g4.extBut sb.extBut D.i2z
  .rw[az (ne c aT)];exact(hf c aT).1
 done:=by
  intro X hP hw hK hc i Zt s σ H E I hf st hg;subst hP hw hK;obtain⟨s1,s2,⟨u,v,s3⟩,s4,s5⟩:=st;obtain⟨xs,oI,hlen⟩:=hg;obtain⟨Zs,rv,p,_⟩:=mF I oI;have hl:=rv.length
  refine wN (I.ok.hd hc) D s1 s2 s3 s4 p (by simp;lia) λh' kp=>⟨rfl,?_⟩
  refine I.step (h':=h') (H':=H) (g':=s.gens) (d':=s.drawn) (t':=s.toks) (ch:=[z,i1]) (λc aT=>?_) (λc o _ _ hn e _=>kp c o (λq=>hn (by simp[q])) (λq=>hn (by simp[q])) e)
   (λc o _ _ hn e _=>⟨o.slots,kp c o (λq=>hn (by simp[q])) (λq=>hn (by simp[q])) e⟩) (λc o _ e n=>n) (λc o hn e=>⟨o,kp c o (λq=>hn (by simp[q])) (λq=>hn (by simp[q])) e⟩)
   (λ_ _ e=>e) (λ_ _ _ e=>e) (λc l e=>⟨#[],by rw[e];simp⟩) (λm hm=>?_) (λc o e=>?_) I.bare
  .have:c∈[z,TI,TO,i1,i2]:=by
    simp only[List.mem_cons,List.not_mem_nil,or_false]at aT⊢;rcases aT with q|q<;>simp[q]
   obtain⟨f0,f1,f2,f3,f4,f5⟩:=hf c this;exact⟨f3,f1,f4,f5⟩
  .obtain⟨o,f7,ep,ho,r⟩:=hm;exact⟨o,f7,ep,kp _ o (Ne.symm (hf z Zy).2.1) (Ne.symm (hf i1 Zy).2.1) ho,r⟩
  .have nn:∀d v c',c'∈[z,TI,TO,i1,i2]->H d=some v->d≠c':=λd v c' aT q e'=>by
    have:=(hf c' aT).1;rw[<-e',q]at this;cases this
   have nz:∀d v,H d=some v->d≠z/\d≠i1:=λd v q=>⟨nn d v z Zy q,nn d v i1 Zy q⟩
   refine(I.hok c o e).stay (λd v hd q=>?_) (λ_ q=>q) λ_ _ q=>q;rcases hd with e'|e'
   .rw[e']at q⊢;exact kp c v (nz c o e).1 (nz c o e).2 q
   .exact kp d v (nz d _ e').1 (nz d _ e').2 q
 self:=λ_ _ _ _ _ st h=>wpAny_pyIter_zip st.1 h
section
variable{X:Cx}
def Mw(t1 t2:Bool)(K:Frag)(t:TA):TI:=λσ H R=>t σ H λvs H1=>∃a b xs ys,vs=[.ref a,.ref b]/\SQ t1 K H1 a xs/\SQ t2 K H1 b ys/\R (Itz t1 t2 K a b) H1
theorem pi_zip(t1 t2:Bool){es:List Expr}{k:Nat}{tp:Pos}{a b:Expr}{ta:TA}{p pos:Pos}(hg:Gl X "zip")(hm:X.mg "zip"=none)(ha:PA X [a,b] ta)(hs:starEach [a,b] X.env=[(false,eval a X.env),(false,eval b X.env)]:=by rfl)(kz:starEach [b] X.env=[(false,eval b X.env)]:=by rfl):
  PI X (.Tuple es k tp) (.Call (.Name "zip" p) [a,b] [] pos) (Mw t1 t2 X.K ta):=by
 intro Zt s σ H R I h;refine Call_ (iD I hg hm boot_zip (PyProof.Rows.callWith_type1 (thn (ha pos Zt s σ H _ I h) λus s1=>?_) (by rw[hs,kz]) (by rw[kz];rfl)));rintro⟨vs,H1,I1,r1,q1⟩;obtain⟨x,y,xs,ys,e,hx,hy,q⟩:=q1;subst e;obtain⟨u,v,rfl,ru,rv⟩:=vals2 r1;cases ru;cases rv;obtain⟨Zs,_,p1,_⟩:=mF I1 hx;obtain⟨Qo,_,p2,_⟩:=mF I1 hy;refine uU p1 p2 λh' z1 z2 z3 z4 z5 kp=>?_;refine wpAny_pyIter_zip z1 ?_;have lx:x<s1.heap.objs.size:=by obtain⟨_,e,_⟩:=p1;exact zB0 e
 have ly:y<s1.heap.objs.size:=by obtain⟨_,e,_⟩:=p2;exact zB0 e
 refine⟨_,_,_,_,H1,rfl,I1.kept (t':=s1.toks) kp,Cv (zipApart_new lx ly),⟨z1,z2,⟨_,_,z3⟩,z4,z5⟩,λc hc=>?_,q⟩
 have hle:s1.heap.objs.size<=c:=by
  simp only[List.mem_cons,List.not_mem_nil,or_false]at hc;rcases hc with q|q|q|q|q<;>subst q
  .exact Nat.le_add_right _ 4
  .exact Nat.le_add_right _ 2
  .exact Nat.le_add_right _ 3
  .exact zA3 _
  .exact Nat.le_add_right _ 1
 exact I1.fpOk hle (I1.hok.fresh hle)
end
theorem for_zip{K:Frag}{a b:Addr}{xs ys:List V}{g:TG}{tb:TS}{D:Ends}{σ:St}{H:Hp}(Pv:Nat->St->Hp->Prop)(he:xs.length=ys.length)(h0:Pv 0 σ H)(hl:∀i σ H,i<=xs.length->Pv i σ H->SQ t1 K H a xs/\SQ t2 K H b ys)
  (hs:∀i x y σ H T,xs[i]?=some x->ys[i]?=some y->Pv i σ H->H T=none->g (.ref T) σ (upd H T (.tup [x,y])) λaS H2=>tb {D with nx:=Pv (i+1),ct:=Pv (i+1),bk:=D.nx} aS H2) (hd:∀σ H,Pv xs.length σ H->D.nx σ H):
  ∃W:Nat->Nat->St->Hp->Prop,(∃m,W 0 m σ H)/\∀i m σ H,W i m σ H->
   ((Itz t1 t2 K a b).stop i H/\D.nx σ H)\/((Itz t1 t2 K a b).go i H/\∃N:St->Hp->Prop,(∀av H',N av H'->∃m',m'<m/\W (i+1) m' av H')/\∀x H',(Itz t1 t2 K a b).yld i H x H'->g x σ H' λaS H2=>tb {D with nx:=N,ct:=N,bk:=D.nx} aS H2):=by
 refine⟨λi m σ H=>m=xs.length-i/\i<=xs.length/\Pv i σ H,⟨xs.length,by simp,zAp _,h0⟩,?_⟩;rintro i m σ H ⟨rfl,hi,p⟩;obtain⟨q1,q2⟩:=hl i σ H hi p;by_cases aI:i<xs.length
 .have F3:i<ys.length:=Zz
  refine .inr ⟨⟨xs,ys,xs[i],ys[i],q1,q2,by simp[aI],by simp[F3]⟩,Pv (i+1),λav H' p'=>⟨xs.length-(i+1),Zz,rfl,aI,p'⟩,λv H' y=>?_⟩;obtain⟨T,nT,rfl,y⟩:=y;obtain⟨x,z,ex,ez,rfl⟩:=y xs ys q1 q2;exact hs i x z σ H T ex ez p nT
 .have e:i=xs.length:=Zz
  subst e;exact .inl ⟨⟨xs,q1,zA3 _⟩,hd σ H p⟩
end L2.ZT
namespace L2
open PySem PySem.Spec PyProof.Rows PySem.Calls
variable{X:Cx}{x₀:Str}
section
variable{X:Cx}
theorem cu(hc:X.calm=true):dG X (.builtin "sum") (λxs H Q=>∃(p:Addr) (ns:PP),xs=[.ref p]/\(SqL X.K H p (ns.map V.int)\/SqT X.K H p (ns.map V.int))/\Q (.int ns.sum) H):=by
 intro Zt s σ H xs us Q I r h;obtain⟨p,ns,rfl,hq,q⟩:=h;obtain⟨u,rfl,ru⟩:=vals1 r;cases ru
 have go:∀Zs:List Value,Vals (ns.map V.int) Zs->∃zs:Array (Int×Tok),Zs.toArray=intItems zs/\preSum (numAt zs) zs.size=ns.sum:=λZs rv=>by
  have hi:IntsAre Zs ns:=intsAre_of rv;obtain⟨zs,ez⟩:=(hi.allInts:AllInts Zs.toArray).items;refine⟨zs,ez,?_⟩;have en:numsOf Zs.toArray.toList=ns:=hi.numsOf;rw[ez,nums_intItems]at en;rw[preSum_eq,Zai Zy,en]
 rcases hq with hq|hq
 .obtain⟨Zs,rv,pl,hz⟩:=I.list hq;obtain⟨zs,ez,es⟩:=go Zs rv;refine sum_intListG (I.ok.hd hc) (ez▸pl.isList) λh' tk t' hk=>?_;rw[es];exact⟨.int _,H,I.kept (t':=tk) hk,⟨t',rfl⟩,q⟩
 .obtain⟨Zs,rv,pl,hz⟩:=I.tuple hq;obtain⟨zs,ez,es⟩:=go Zs rv;have ht:s.heap.IsTuple p Zs.toArray:=pl;refine PySem.W.ktm_sumG (I.ok.hd hc) (ez▸ht) λh' tk t' hk=>?_;rw[es];exact⟨.int _,H,I.kept (t':=tk) hk,⟨t',rfl⟩,q⟩
end
section
open PySem.W
variable{prog:Program}{w:World}{A:Around}{E:Value->Shared->Prop}{s:Shared}
end
section
variable{X:Cx}
end
structure CScopeD(X:Cx)(scope:Scope)(x₀:Str):Prop where
 kind:scope.kind=.function
 only:scope.names.all (λp=>p.2 != .cell||p.1==x₀)=true
 names:scope.names.all (λp=>p.2 != .local||scope.names.lookup p.1==some .local)=true
 free:scope.names.all (λp=>p.2 != .free||(X.env.cells.lookup p.1).isSome)=true
 cf:∀n acc,cellsFrom n scope.names acc=(x₀,n)::acc
 pc:∀h,pushCells h scope.names=h.push {cls:=.type "cell",data:=.cell none}
theorem CScopeD.hnames{scope:Scope}(S:CScopeD X scope x₀):∀p∈scope.names,p.2=.local->scope.names.lookup p.1=some .local:=λp hp e=>by
 have:=Zaf.mp S.names p hp;simpa[e]using this
theorem CScopeD.hfree{scope:Scope}(S:CScopeD X scope x₀):∀p∈scope.names,p.2=NameKind.free->(X.env.cells.lookup p.1).isSome=true:=λp hp e=>by
 have:=Zaf.mp S.free p hp;simpa[e]using this
theorem jN{scope:Scope}{env:Env}{x:Str}{k:NameKind}(hc:scope.names.all (λp=>p.2 != .cell||p.1==x₀)=true)(hx:x≠x₀)(h:(relabel scope env).names.lookup x=some k)(hk:k=.cell\/k=.free):∃k',(x,k')∈scope.names/\k'=NameKind.free:=by
 obtain⟨⟨n,k0⟩,hm,e⟩:=zA5.mp (mem_of_lookup h);dsimp only at e;split at e
 .rename_i c
  cases e
  have:(k0==NameKind.free)=true:=by
   cases q:(k0==NameKind.free)with
   |true=>rfl
   |false=>rw[q]at c;simp at c
  exact⟨k0,hm,by simpa using this⟩
 .cases e;rcases hk with z|z
  .have:=Zaf.mp hc _ hm;rw[z]at this;exact absurd (by simpa using this) hx
  .exact⟨_,hm,z⟩
theorem Cw{M:Model}{A:Around}{E:Value->Shared->Prop}{s:Shared}{scope:Scope}{globals:Addr}{closure:List (Str×Addr)}{qual:Str}{outer:Env}{Q:Env->Shared->Prop}(cf:∀n acc,cellsFrom n scope.names acc=(x₀,n)::acc)
  (pc:∀h,pushCells h scope.names=h.push {cls:=.type "cell",data:=.cell none})
  (hQ:∀h',h'.Ns s.heap.objs.size (λ_=>none)->(∀b o,s.heap.get? b=some o->h'.get? b=some o)->h'.IsCell (s.heap.objs.size+1) none->
   Q {scope,locals:=s.heap.objs.size,globals,cells:=(x₀,s.heap.objs.size+1)::closure,qual,func:=none,code:=outer.code,frame:=outer.frame,builtins:=outer.builtins} {s with heap:=h'}):
  wpAny M A (newFunctionEnv scope globals closure [] qual none .none (some outer)) Q E s:=by
 simp only[newFunctionEnv,Option.isSome_some,if_true];refine zAv (wpAny_alloc (zAv (wpAny_layCells _ (λname kind cells=>by cases q:kind==NameKind.cell<;>simp[q]) _ _ _ _ ?_)));rw[cf];dsimp only;rw[pc,Heap.size_push];refine zAv ?_;rw[List.forIn_nil];refine zAz (zAz (hQ _ ((Heap.Ns.new s.heap (.type "dict")).keeps λb o e=>zAy _ e) (λb o e=>zAy _ (zAy _ e)) ?_));have:=zB4 (s.heap.push {cls:=.type "dict",data:=.dict #[]}) (o:={cls:=.type "cell",data:=.cell none}) rfl;rw[Heap.size_push]at this;exact⟨_,this,rfl⟩
def cxD(X:Cx)(scope:Scope)(x₀:Str)(Nc:List Str)(C:Addr)(fp:List Addr)(Zt:List (Addr×Obj))(s₂:Shared)(H₂:Hp):Cx:=
 {cxC X scope Nc C fp Zt s₂ H₂ with env:=compEnvC scope ((x₀,C+1)::dC X.env.cells scope.names []) C X.env,fn:=λy=>y==x₀}
theorem wO{tg iter elt:Expr}{ifs:List Expr}{scope:Scope}{pos:Pos}{Nc:List Str}{src:List (Option Nat)}{g:TG}{tt:TT}{te:TE}(hc:X.calm=true)(S:CScopeD X scope x₀)
  (bg:∀C,Caps X (compEnvC scope ((x₀,C+1)::dC X.env.cells scope.names []) C X.env) Nc src)
  (hb:∀C fp Zt s₂ H₂,PG (cxD X scope x₀ Nc C fp Zt s₂ H₂) tg g/\PTs (cxD X scope x₀ Nc C fp Zt s₂ H₂) ifs tt/\PE (cxD X scope x₀ Nc C fp Zt s₂ H₂) elt te)
  {Zt:List (Addr×Obj)} {s₂:Shared} {σ:St} {H₂:Hp} {it:Addr} {fp:List Addr} {tn:Nat->Heap->Prop} {J:It} (ah:Inv X Zt σ H₂ s₂) (T:Turn X.prog X.w X.K tg J fp it tn) (st:tn 0 s₂.heap) (hf:∀b∈fp,iG X Zt H₂ b)
  {Fin:List V->Hp->Prop} (hW:jm J g tt te Fin (capσ σ src) H₂) {RR:Value->Addr->Result->Shared->Prop} {E:Value->Shared->Prop}
  (Bz:∀D C s' ys H' m,Fin ys H'->H' D=none->Inv X Zt σ (upd H' D (.lst ys)) s'->s'.heap.Ns C m->iG X Zt (upd H' D (.lst ys)) C->RR (.ref D) C (.ok .next) s'):
  wpAny (model X.prog X.w) X.A (newList []) (λacc s₃=>wpAny (model X.prog X.w) X.A (newFunctionEnv scope X.env.globals (dC X.env.cells scope.names []) [] X.env.qual none .none (some X.env)) (λgv kR=>
   codeAny (model X.prog X.w) X.A (.compStart (.ListComp elt [⟨tg,iter,ifs,0⟩] scope pos) 0 (.ref it) acc {gv with scope:=relabel scope X.env}) (RR acc gv.locals) kR) E s₃) E s₂:=by
 refine Zac (Cw S.cf S.pc (λdA bo fm gE=>?_));dsimp only at bo fm gE⊢;generalize vt:s₂.heap.push {cls:=.type "list",dict:=none,data:=.seq ([]:List Value).toArray}=HH at bo fm gE⊢;generalize fN:s₂.heap.objs.size=D at bo fm gE⊢;have hC:HH.objs.size=D+1:=by rw[<-vt,Heap.size_push,fN]
 generalize Qb:HH.objs.size=C at bo fm gE hC⊢;have zh:D≠C:=Zz
 have below:∀b,b<s₂.heap.objs.size->b≠C/\b≠D:=λb hb=>by rw[fN]at hb;exact⟨by rw[hC];exact zBd (Nat.lt_succ_of_lt hb),zBd hb⟩
 have aE:∀{b o},s₂.heap.get? b=some o->b≠C/\b≠D:=λ{b o} e=>below b (zB0 e);have old:∀b o,s₂.heap.get? b=some o->dA.get? b=some o:=λb o e=>fm b o (vt▸zAy _ e);have vw:dA.get? D=some {cls:=.type "list",data:=.seq ([]:List Value).toArray}:=fm _ _ (vt▸fN▸zB4 _ rfl)
 have D5:∀b∈fp,∃o,s₂.heap.get? b=some o:=λb hb=>by obtain⟨o,e,_⟩:=T.obj _ _ st b hb;exact⟨o,e⟩
 have oz:∀b∈fp,b≠C/\b≠D:=λb hb=>by obtain⟨o,e⟩:=D5 b hb;exact aE e
 have sub:∀{x c},((x₀,C+1)::dC X.env.cells scope.names []).lookup x=some c->X.env.cells.lookup x=some c\/(x=x₀/\c=C+1):=λ{x c} e=>by
  rw[List.lookup_cons]at e
  cases q:x==x₀ with
  |true=>
   rw[q]at e;injection e with e;exact .inr ⟨eq_of_beq q,e.symm⟩
  |false=>
   rw[q]at e;rcases nY scope.names [] S.hfree e with z|z
   .simp at z
   .exact .inl z
 have BA:∀{b o},s₂.heap.get? b=some o->b<D:=λ{b o} e=>by rw[<-fN];exact zB0 e
 have fresh:∀a,D<=a->H₂ a=none:=λa ha=>ah.hok.fresh (by rw[fN];exact ha)
 have fk:∀{x c},X.env.cells.lookup x=some c->∃o,s₂.heap.get? c=some o:=λ{x c} e=>by obtain⟨v,o,ho,_⟩:=ah.cell x c e;exact⟨o,ho⟩
 have vx:∀b∈frs X.stack,∃o,s₂.heap.get? b=some o:=λb hb=>by
  rcases zAo.mp (ah.stkSub b hb)with e|hb
  .rw[e];obtain⟨m,⟨o,_,_,ho,_⟩,_⟩:=ah.loc;exact⟨o,ho⟩
  .obtain⟨_,o,ho,_⟩:=ah.funs.mem hb;exact⟨o,ho⟩
 have vE:∀a,D<=a->a∉frs X.stack:=λa ha hb=>by
  obtain⟨o,e⟩:=vx a hb;exact absurd (zB5 (BA e) ha) (Zau _)
 have BB:∀b∈fp,b∉frs X.stack:=λb hb z=>by
  obtain⟨_,f1,f2,_⟩:=hf b hb;rcases zAo.mp (ah.stkSub b z)with e|e
  .exact f1 e
  .exact f2 e
 have BH:∀{x c},X.env.cells.lookup x=some c->c≠C+1:=λ{x c} e z=>by
  obtain⟨o,ho⟩:=fk e;have:=BA ho;rw[z,hC]at this;exact absurd this (Nat.not_lt_of_le (Zak (Zar _) (Zar _)))
 have NR:∀b∈fp,∀x c,((x₀,C+1)::dC X.env.cells scope.names []).lookup x=some c->c≠b:=λb hb x c e=>by
  rcases sub e with z|⟨_,z⟩
  .exact(hf b hb).2.2.2.2.1 x c z
  .obtain⟨o,ho⟩:=D5 b hb;have:=BA ho;intro q;rw[<-q,z,hC]at this;exact absurd this (Nat.not_lt_of_le (Zak (Zar _) (Zar _)))
 generalize bS:cxD X scope x₀ Nc C fp Zt s₂ H₂=X';obtain⟨hg,ht,he⟩:=hb C fp Zt s₂ H₂;rw[bS]at hg ht he
 have FI:X'.Ok:=by
  subst bS;refine⟨ah.ok.mod,S.kind,ah.ok.glob,ah.ok.blt,?_,?_,?_,?_,ah.ok.hd,ah.ok.frames,.inl rfl,?_,ah.bs,Zak ah.ok.bsz ah.sz,?_,BB,ah.stack,ah.stkFree⟩
  .show s₂.heap.objs.size<=C;lia
  .intro x y c e1 e2;rcases sub e1 with z1|⟨z1,w1⟩
   .rcases sub e2 with z2|⟨z2,w2⟩
    .exact ah.ok.inj x y c z1 z2
    .exact absurd w2 (BH z1)
   .rcases sub e2 with z2|⟨z2,w2⟩
    .exact absurd w1 (BH z2)
    .rw[z1,z2]
  .intro x hx;have hx:(relabel scope X.env).names.lookup x=some .cell\/(relabel scope X.env).names.lookup x=some .free:=hx;show ∃c,((x₀,C+1)::dC X.env.cells scope.names []).lookup x=some c;rw[List.lookup_cons]
   cases q:x==x₀ with
   |true=>exact⟨_,rfl⟩
   |false=>
    have:∃k',(x,k')∈scope.names/\k'=NameKind.free:=by
     rcases hx with z|z
     .exact jN S.only (λw=>by rw[w,beq_self_eq_true]at q;cases q) z (.inl rfl)
     .exact jN S.only (λw=>by rw[w,beq_self_eq_true]at q;cases q) z (.inr rfl)
    exact nZ scope.names [] (.inl this)
  .intro x c z e;have z:x=x₀:=eq_of_beq z;rcases sub e with w|⟨_,w⟩
   .have e:((x₀,C+1)::dC X.env.cells scope.names []).lookup x=some c:=e;rw[z,List.lookup_cons,beq_self_eq_true]at e;injection e with e;show s₂.heap.objs.size<=c;rw[<-e,fN,hC];exact Zak (Zar _) (Zar _)
   .show s₂.heap.objs.size<=c;rw[w,fN,hC];exact Zak (Zar _) (Zar _)
  .intro b hb;exact⟨(oz b hb).1,λx c e=>NR b hb x c e⟩
  .intro b o e hb;obtain⟨_,_,_,f3,_⟩:=hf b hb;rcases f3 with z|z
   .exact ah.ok.noex b o e z
   .exact absurd (zB5 (zB0 (ah.ok.bs b o e).1) z) (Zau _)
 have eP:X'.prog=X.prog:=by subst bS;rfl
 have ew:X'.w=X.w:=by subst bS;rfl
 have eK:X'.K=X.K:=by subst bS;rfl
 have eA:X'.A=X.A:=by subst bS;rfl
 have eE:X'.xe=λ_ _=>False:=by subst bS;rfl
 have eL:X'.env.locals=C:=by subst bS;rfl
 have eN:X'.env=compEnvC scope ((x₀,C+1)::dC X.env.cells scope.names []) C X.env:=by subst bS;rfl
 have ec:X'.calm=true:=by subst bS;exact hc
 have eS:X'.s₀=s₂:=by subst bS;rfl
 have eH:X'.H₀=H₂:=by subst bS;rfl
 have ef:X'.fs=frs X.stack:=by subst bS;rfl
 have ex:X'.ex=fp:=by subst bS;rfl
 have ep:X'.pn=X.pn++Zt:=by subst bS;rfl
 have I0:Inv X' [] (capσ σ src) H₂ {s₂ with heap:=dA,toks:=s₂.toks}:=by
  refine⟨FI,by rw[eS],ah.bare,by rw[eS,eH];exact Un.kept old,⟨_,by rw[eL];exact bo,?_⟩,?_,by rw[eL];exact fresh _ Zz,?_,?_,by rw[eP,ew];exact ah.hok.kept old,?_⟩
  .intro j x v e1 e2 e3;have e1:Nc[j]?=some x:=by subst bS;exact e1
   have e4:∃i,src[j]?=some (some i)/\(σ[i]?).join=some v:=by
    unfold capσ at e2;rw[zAb]at e2
    cases q:src[j]? with
    |none=>rw[q]at e2;cases e2
    |some o=>
     rw[q]at e2
     cases o with
     |none=>simp at e2
     |some i=>exact⟨i,rfl,by simpa using e2⟩
   obtain⟨i,e5,e6⟩:=e4;obtain⟨c1,c2,c3,c4⟩:=(bg C).get e1 e5
   have e7:σ[i]?=some (some v):=by
    cases q:σ[i]? with
    |none=>rw[q]at e6;simp at e6
    |some o=>rw[q]at e6;simp at e6;rw[e6]
   obtain⟨m,_,hl⟩:=ah.loc;obtain⟨u,r,l⟩:=hl i x v c1 e7 (.inr (by rcases c2 with z|z;exact .inl z;exact .inr z));refine⟨u,r,?_⟩;rcases l with⟨k,_⟩|⟨_,c,e,z⟩
   .rcases c2 with c2|c2<;>(rw[k]at c2;cases c2)
   .refine .inr ⟨by rw[eN];exact c4,c,by rw[eN];exact c3.trans e,?_⟩;obtain⟨o,ho,hd⟩:=z;exact⟨o,old c o ho,hd⟩
  .intro x c e;rw[eN]at e;rcases sub e with z|⟨_,z⟩
   .obtain⟨v,o,ho,hd⟩:=ah.cell x c z;exact⟨v,o,old c o ho,hd⟩
   .rw[z];exact⟨none,gE⟩
  .intro x c e;rw[eN]at e;rcases sub e with z|⟨_,z⟩
   .exact ah.freeC x c z
   .rw[z];exact fresh _ (by rw[hC];exact Zak (Zar _) (Zar _))
  .intro p hp;rw[ep,zAn]at hp;obtain⟨e,n,ne,nf,d⟩:=ah.pin p hp;refine⟨old _ _ e,n,by rw[eL];exact(aE e).1,?_,d⟩;rw[ef];intro z;rcases zAo.mp (ah.stkSub _ z)with q|q
   .exact ne q
   .exact nf q
  .have:=(bg C).len;subst bS;show(capσ σ src).length=Nc.length;unfold capσ;rw[zA1,this]
 have FK:∀p∈X'.pn,p.1≠D:=λp hp=>by
  rw[ep]at hp;exact(aE (ah.pin p hp).1).2
 have kS:∀x c,X'.env.cells.lookup x=some c->c≠D:=λx c e=>by
  rw[eN]at e;rcases sub e with z|⟨_,z⟩
  .obtain⟨o,ho⟩:=fk z;exact(aE ho).2
  .rw[z,hC];exact Nat.ne_of_gt (Nat.lt_succ_of_lt (Nat.lt_succ_self _))
 have vn:∀{P:List (Addr×Obj)} {H:Hp},(∀p∈P,p.1=D)->(∀b∈fp,H b=none)->∀b∈fp,iG X' P H b:=λ{P H} hP hn b hb=>by
  refine⟨hn b hb,by rw[eL];exact(oz b hb).1,by rw[ef];exact BB b hb,.inl (by rw[ex];exact hb),λx c e=>?_,λp hp=>?_⟩
  .rw[eN]at e;exact NR b hb x c e
  .rcases zA6.mp hp with z|z
   .rw[ep]at z;exact(hf b hb).2.2.2.2.2 p z
   .rw[hP p z];exact(oz b hb).2.symm
 have ap:Apart X' D:=⟨by rw[eL];exact zh,by rw[ef];exact vE _ (zA3 _),by rw[eS,fN];exact zA3 _,kS,FK⟩
 have T':Turn X'.prog X'.w X'.K tg J fp it tn:=by rw[eP,ew,eK];exact T
 have loop:∀s₃:Shared,s₃={s₂ with heap:=dA,toks:=s₂.toks}->
   codeAny (model X.prog X.w) X.A (.compLoop (.ListComp elt [⟨tg,iter,ifs,0⟩] scope pos) 0 (.ref it) (.ref D) (compEnvC scope ((x₀,C+1)::dC X.env.cells scope.names []) C X.env)) (RR (.ref D) C) s₃:=by
  rintro s₃ rfl
  have L:=BX (X:=X') (scope:=scope) (pos:=pos) (R:=RR (.ref D) C) ec eE ap (lA (gens:=[⟨tg,iter,ifs,0⟩]) (d:=0) rfl rfl) hg ht (wH ap eE he) ⟨I0,fresh _ (zA3 _),λp hp=>absurd hp Zy,[],_,vw,.nil⟩ T' (T.keep _ _ _ st λb _ o e=>old b o e)
   (λb hb=>⟨vn (λp hp=>absurd hp Zy) (λb hb=>(hf b hb).1) b hb,(oz b hb).2⟩) hW ?_
  .rw[eP,ew,eA,eN]at L;exact L
  rintro s4 ys iF H3 ⟨I4,hJ,_,us,k,oD,vi⟩ hsz fin;obtain⟨mC,BC,_⟩:=I4.loc;rw[eL]at BC;have gy:=I4.base;rw[eS,eH,ef,ex]at gy;have hlen:ys.length<=sizeLine:=Nat.le_of_lt hsz
  have vF:HOk X.prog X.w (upd H3 D (.lst ys)) s4.heap:=λb u e=>by
   by_cases hb:b=D
   .subst hb;rw[aj]at e;cases e;exact⟨hlen,us,k,vi,oD⟩
   .rw[az hb]at e;have z:=I4.hok b u e;rw[eP,ew]at z
    exact z.stay (λc v _ q=>q) (λc q=>by rw[az (aA q hJ)];exact q) λc xs q=>by rw[az (aA q hJ)];exact q
  have un:Un (frs X.stack) fp H₂ (upd H3 D (.lst ys)) s₂.heap s4.heap:=⟨gy.keep,gy.slot,λb o e n hx=>by rw[az (aE e).2];exact gy.free b o e n hx,gy.there,
   λb xs e=>by
    have z:=gy.tups b xs e
    rw[az (aA z hJ)];exact z,
   λb o u e=>by
    have z:=gy.frzs b o u e
    rw[az (aA z hJ)];exact z,
   λb ps e=>by
    obtain⟨mo,z⟩:=gy.tbls b ps e
    exact⟨mo,by rw[az (aA z hJ)];exact z⟩⟩
  have J4:Inv X Zt σ (upd H3 D (.lst ys)) s4:=ah.call' (ch:=fp) (by have:=I4.os;rw[eS]at this;exact this) un vF I4.bare λb hb=>by
   obtain⟨_,f1,f2,f3,f4,f5⟩:=hf b hb;exact⟨f3,f1,f4,f5⟩
  refine Bz D C s4 ys H3 mC fin hJ J4 BC ⟨?_,?_,?_,.inr ?_,?_,?_⟩
  .rw[az zh.symm];have:=I4.free;rw[eL]at this;exact this
  .have:=ah.lt;rw[fN]at this;exact Nat.ne_of_gt (zB5 this (by rw[hC];exact Zar _))
  .intro z;obtain⟨_,o,ho,_⟩:=ah.funs.mem z;exact(aE ho).1 rfl
  .have:=ah.sz;rw[fN]at this;lia
  .intro x c e z;obtain⟨o,ho⟩:=fk e;exact(aE ho).1 z
  .intro p hp z;exact(aE (ah.pin p hp).1).1 z
 exact o9 rfl rfl (loop _ rfl) (T.self _ 0 _ _ _ (T.keep _ _ _ st λb _ o e=>old b o e) (loop _ rfl))
section
variable{X:Cx}{tg iter elt:Expr}{ifs:List Expr}{scope:Scope}{pos:Pos}{Nc:List Str}{wi:TI}{g:TG}{tt:TT}{te:TE}
theorem uV(Nc:List Str)(src:List (Option Nat))(hc:X.calm=true)(hi:PI X tg iter wi)
  (hb:∀C fp Zt s₂ H₂,PG (cxD X scope x₀ Nc C fp Zt s₂ H₂) tg g/\PTs (cxD X scope x₀ Nc C fp Zt s₂ H₂) ifs tt/\PE (cxD X scope x₀ Nc C fp Zt s₂ H₂) elt te)
  (bg:∀C,Caps X (compEnvC scope ((x₀,C+1)::dC X.env.cells scope.names []) C X.env) Nc src) (S:CScopeD X scope x₀)
  (hs:∀x,foldedSetIterable iter X.env x=pure x:=by intro _;rfl):PE X (.ListComp elt [⟨tg,iter,ifs,0⟩] scope pos) (yc wi src g tt te):=by
 intro Zt s σ H Q I h;rw[eval_ListComp];refine wpAny_comprehension_free (use:=none) rfl hs (mY S.hfree) S.kind S.hnames ?_;refine thn (hi Zt s σ H _ I h) λv s1 h1=>thn h1 λua s2 h2=>?_;obtain⟨it,fp,tn,J,H2,e,I2,T,st2,f2,hW⟩:=h2;subst e;refine wO (RR:=λacc C=>compPost (model X.prog X.w) X.A X.xe none (EP X Zt σ Q) acc C) hc S bg hb I2 T st2 f2 hW ?_;intro D C s' ys H' m fin nD J' hn fC;obtain⟨f0,f1,_,f3,f4,f5⟩:=fC;refine⟨m,hn,λFO hZ=>?_⟩;exact⟨.ref D,_,J'.turned (t':=s'.toks) (λb o hb e=>hZ.extBut b o hb e) f0 f1 f3 f4 f5,rfl,fin D nD⟩
end
end L2
namespace Srt
open PySem PyProof.Rows
variable{ac ia ib lo m na nb:Nat}
def gF:Bool->Keyed->Array Keyed->Nat->Nat->Nat->StateT SortSt Sem (Option Nat):=sortPriv% PySem.Builtin.gallop
section
variable{prog:Program}{w:World}{A:Around}{E:Value->Shared->Prop}{s:Shared}{κ:PyProof.Rows.KeyKind}
def Kv(prog:Program)(w:World)(A:Around)(E:Value->Shared->Prop)(s:Shared)(κ:PyProof.Rows.KeyKind)(st:SortSt):Prop:=
 ∀(x y:Keyed) (a b:κ.α) (Q:Option Bool->SortSt->Prop),κ.keyOf x.1=some a->κ.keyOf y.1=some b->Q (some (κ.blt a b)) st->wpS (model prog w) A E s (lt' x y) Q st
theorem bD{arr:Array Keyed}{i:Nat}{p:Keyed}{Q:Keyed->SortSt->Prop}{st:SortSt}(e:arr[i]?=some p)(h:Q p st):wpS (model prog w) A E s (elem' arr i) Q st:=by
 rw[elem'_eq,e];exact Zab h
def bey(κ:PyProof.Rows.KeyKind)(left:Bool)(k:κ.α)(x:κ.α):Bool:=if left then κ.blt x k else !(κ.blt k x)
theorem eQ{left:Bool}{key:Keyed}{arr:Array Keyed}{b n h:Nat}{Q:Option Nat->SortSt->Prop}{st:SortSt}{kk:κ.α}(hL:Kv prog w A E s κ st)(hk:κ.keyOf key.1=some kk)(hn:h<n)
  (js:∀i,i<n->∃p a,arr[b+i]?=some p/\κ.keyOf p.1=some a/\KK κ arr (b+i)=a) (hm:∀i j,i<=j->j<n->bey κ left kk (KK κ arr (b+j))=true->bey κ left kk (KK κ arr (b+i))=true)
  (q:∀k,k<=n->(∀i,i<k->bey κ left kk (KK κ arr (b+i))=true)->(∀i,k<=i->i<n->bey κ left kk (KK κ arr (b+i))=false)->Q (some k) st):
  wpS (model prog w) A E s (gF left key arr b n h) Q st:=by
 have jv:∀(i:Nat) (R:Option Bool->SortSt->Prop),i<n->R (some (bey κ left kk (KK κ arr (b+i)))) st->wpS (model prog w) A E s (do
   let x <-elem' arr (b+i)
   if left=true then lt' x key else do
    let r <-lt' key x
    pure (Option.map (λx=>!x) r)) R st:=λi R hi hR=>by
  obtain⟨p,a,e1,e2,e3⟩:=js i hi;refine Zaa (bD e1 ?_);unfold bey at hR;rw[e3]at hR
  cases left with
  |true=>
   rw[zAx rfl];exact hL _ _ _ _ _ e2 hk hR
  |false=>
   rw[zAw Zx];exact Zaa (hL _ _ _ _ _ hk e2 (Zab hR))
 generalize Qr:(λi=>bey κ left kk (KK κ arr (b+i)))=β
 have F4:∀i,bey κ left kk (KK κ arr (b+i))=β i:=λi=>by rw[<-Qr]
 simp only[F4]at jv hm q
 delta gF
 refine Zaa (jv h _ hn ?_)
 cases e0:β h with
 |true=>
  dsimp only;rw[zAx rfl]
  refine Zaa (wpS_mono (wpS_forRange (I:=λx c Zr=>Zr=st/\c.1=none/\c.2.1<c.2.2/\c.2.1<n-h/\x<c.2.2/\β (h+c.2.1)=true)
   (Q:=λc Zr=>Zr=st/\c.1=none/\c.2.1<c.2.2/\c.2.1<n-h/\β (h+c.2.1)=true/\(c.2.2≥n-h\/(c.2.2<n-h/\β (h+c.2.2)=false))) ?_ ?_ ⟨rfl,rfl,(by show 0<1;decide),(by show 0<n-h;lia),(by show 0<1;decide),(show β (h+0)=true from e0)⟩) ?_)
  .rintro x ⟨c0,l,o⟩ Zr _ hx ⟨rfl,rfl,g1,g2,g3,g4⟩;dsimp only at g1 g2 g3 g4⊢;by_cases ho:o≥n-h
   .rw[zAx ho];exact Zab ⟨rfl,rfl,g1,g2,g4,.inl ho⟩
   .rw[zAw ho];refine Zaa (jv (h+o) _ Zz ?_)
    cases eb:β (h+o)with
    |true=>
     dsimp only;rw[zAw Zx];exact Zab ⟨rfl,rfl,by dsimp only;lia,by dsimp only;lia,by dsimp only;lia,eb⟩
    |false=>
     dsimp only;rw[zAx Zx];exact Zab ⟨rfl,rfl,g1,g2,g4,.inr ⟨by dsimp only;lia,eb⟩⟩
  .rintro⟨c0,l,o⟩ Zr ⟨rfl,rfl,g1,g2,g3,g4⟩;dsimp only at g1 g2 g3 g4⊢;exact⟨rfl,rfl,g1,g2,g4,.inl Zz⟩
  .rintro⟨c0,l,o⟩ Zr ⟨rfl,rfl,g1,g2,g4,g5⟩;dsimp only at g1 g2 g4 g5⊢
   have w4:∀i,h+min o (n-h)<=i->i<n->β i=false:=λi hi ij=>by
    rcases g5 with g5|⟨g5,g6⟩
    .lia
    .cases e2:β i with
     |false=>rfl
     |true=>
      have:=hm (h+o) i Zz ij e2;rw[g6]at this;cases this
   obtain⟨lo,fh⟩:∃lo,lo=h+l+1:=⟨_,rfl⟩
   obtain⟨hi,kB⟩:∃hi,hi=h+min o (n-h):=⟨_,rfl⟩
   have w1:lo<=hi:=Zz
   have w2:hi<=n:=Zz
   have w3:∀i,i<lo->β i=true:=λi hi=>hm i (h+l) Zz Zz g4;have w4:∀i,hi<=i->i<n->β i=false:=by rw[kB];exact w4
   rw[<-fh,<-kB]
   refine Zaa (wpS_mono (wpS_forRange (I:=λx c c9=>c9=Zr/\c.1=none/\c.2.1<=c.2.2/\c.2.2<=n/\c.2.2-c.2.1<=n-x/\(∀i,i<c.2.1->β i=true)/\(∀i,c.2.2<=i->i<n->β i=false))
    (Q:=λc c9=>c9=Zr/\c.1=none/\c.2.2<=n/\(∀i,i<c.2.2->β i=true)/\(∀i,c.2.2<=i->i<n->β i=false)) ?_ ?_ ⟨rfl,rfl,w1,w2,(by show hi-lo<=n-0;lia),w3,w4⟩) ?_)
   .rintro x ⟨c0,l,r⟩ c9 _ hx ⟨rfl,rfl,g1,g2,g3,g4,g5⟩;dsimp only at g1 g2 g3 g4 g5⊢;by_cases jI:l≥r
    .rw[zAx jI];have e:l=r:=Zz
     exact Zab ⟨rfl,rfl,g2,by rw[<-e];exact g4,g5⟩
    .rw[zAw jI];refine Zaa (jv (l+(r-l) / 2) _ Zz ?_)
     cases eb:β (l+(r-l) / 2)with
     |true=>
      dsimp only;rw[zAx rfl];exact Zab ⟨rfl,rfl,by dsimp only;lia,g2,by dsimp only;lia,λi hi=>hm i _ (by dsimp only at hi;lia) Zz eb,g5⟩
     |false=>
      dsimp only;rw[zAw Zx];refine Zab ⟨rfl,rfl,by dsimp only;lia,by dsimp only;lia,by dsimp only;lia,g4,λi hi ij=>?_⟩
      cases e2:β i with
      |false=>rfl
      |true=>
       have:=hm (l+(r-l) / 2) i hi ij e2;rw[eb]at this;cases this
   .rintro⟨c0,l,r⟩ c9 ⟨rfl,rfl,g1,g2,g3,g4,g5⟩;dsimp only at g1 g2 g3 g4 g5⊢;have e:l=r:=Zz
    exact⟨rfl,rfl,g2,by rw[<-e];exact g4,g5⟩
   .rintro⟨c0,l,r⟩ c9 ⟨rfl,rfl,g1,g2,g3⟩;exact Zab (q _ g1 g2 g3)
 |false=>
  dsimp only;rw[zAw Zx]
  refine Zaa (wpS_mono (wpS_forRange (I:=λx c Zr=>Zr=st/\c.1=none/\c.2.1<c.2.2/\c.2.1<h+1/\x<c.2.2/\β (h-c.2.1)=false)
   (Q:=λc Zr=>Zr=st/\c.1=none/\c.2.1<c.2.2/\c.2.1<h+1/\β (h-c.2.1)=false/\(c.2.2≥h+1\/(c.2.2<h+1/\β (h-c.2.2)=true))) ?_ ?_ ⟨rfl,rfl,(by show 0<1;decide),(by show 0<h+1;lia),(by show 0<1;decide),(show β (h-0)=false from e0)⟩) ?_)
  .rintro x ⟨c0,l,o⟩ Zr _ hx ⟨rfl,rfl,g1,g2,g3,g4⟩;dsimp only at g1 g2 g3 g4⊢;by_cases ho:o≥h+1
   .rw[zAx ho];exact Zab ⟨rfl,rfl,g1,g2,g4,.inl ho⟩
   .rw[zAw ho];refine Zaa (jv (h-o) _ Zz ?_)
    cases eb:β (h-o)with
    |false=>
     dsimp only;rw[zAw Zx];exact Zab ⟨rfl,rfl,by dsimp only;lia,by dsimp only;lia,by dsimp only;lia,eb⟩
    |true=>
     dsimp only;rw[zAx rfl];exact Zab ⟨rfl,rfl,g1,g2,g4,.inr ⟨by dsimp only;lia,eb⟩⟩
  .rintro⟨c0,l,o⟩ Zr ⟨rfl,rfl,g1,g2,g3,g4⟩;dsimp only at g1 g2 g3 g4⊢;exact⟨rfl,rfl,g1,g2,g4,.inl Zz⟩
  .rintro⟨c0,l,o⟩ Zr ⟨rfl,rfl,g1,g2,g4,g5⟩;dsimp only at g1 g2 g4 g5⊢
   have w3:∀i,i<h+1-min o (h+1)->β i=true:=λi hi=>by
    rcases g5 with g5|⟨g5,g6⟩
    .lia
    .exact hm i (h-o) Zz Zz g6
   have w4:∀i,h-l<=i->i<n->β i=false:=λi hi ij=>by
    cases e2:β i with
    |false=>rfl
    |true=>
     have:=hm (h-l) i hi ij e2;rw[g4]at this;cases this
   obtain⟨lo,fh⟩:∃lo,lo=h+1-min o (h+1):=⟨_,rfl⟩
   obtain⟨hi,kB⟩:∃hi,hi=h-l:=⟨_,rfl⟩
   have w1:lo<=hi:=Zz
   have w2:hi<=n:=Zz
   have w3:∀i,i<lo->β i=true:=by rw[fh];exact w3
   have w4:∀i,hi<=i->i<n->β i=false:=by rw[kB];exact w4
   rw[<-fh,<-kB]
   refine Zaa (wpS_mono (wpS_forRange (I:=λx c c9=>c9=Zr/\c.1=none/\c.2.1<=c.2.2/\c.2.2<=n/\c.2.2-c.2.1<=n-x/\(∀i,i<c.2.1->β i=true)/\(∀i,c.2.2<=i->i<n->β i=false))
    (Q:=λc c9=>c9=Zr/\c.1=none/\c.2.2<=n/\(∀i,i<c.2.2->β i=true)/\(∀i,c.2.2<=i->i<n->β i=false)) ?_ ?_ ⟨rfl,rfl,w1,w2,(by show hi-lo<=n-0;lia),w3,w4⟩) ?_)
   .rintro x ⟨c0,l,r⟩ c9 _ hx ⟨rfl,rfl,g1,g2,g3,g4,g5⟩;dsimp only at g1 g2 g3 g4 g5⊢;by_cases jI:l≥r
    .rw[zAx jI];have e:l=r:=Zz
     exact Zab ⟨rfl,rfl,g2,by rw[<-e];exact g4,g5⟩
    .rw[zAw jI];refine Zaa (jv (l+(r-l) / 2) _ Zz ?_)
     cases eb:β (l+(r-l) / 2)with
     |true=>
      dsimp only;rw[zAx rfl];exact Zab ⟨rfl,rfl,by dsimp only;lia,g2,by dsimp only;lia,λi hi=>hm i _ (by dsimp only at hi;lia) Zz eb,g5⟩
     |false=>
      dsimp only;rw[zAw Zx];refine Zab ⟨rfl,rfl,by dsimp only;lia,by dsimp only;lia,by dsimp only;lia,g4,λi hi ij=>?_⟩
      cases e2:β i with
      |false=>rfl
      |true=>
       have:=hm (l+(r-l) / 2) i hi ij e2;rw[eb]at this;cases this
   .rintro⟨c0,l,r⟩ c9 ⟨rfl,rfl,g1,g2,g3,g4,g5⟩;dsimp only at g1 g2 g3 g4 g5⊢;have e:l=r:=Zz
    exact⟨rfl,rfl,g2,by rw[<-e];exact g4,g5⟩
   .rintro⟨c0,l,r⟩ c9 ⟨rfl,rfl,g1,g2,g3⟩;exact Zab (q _ g1 g2 g3)
end
abbrev Sm:=StateT SortSt Sem
def Ad(lo a m:Nat):Sm AscSt:=
 forIn [a:m] ((none,a):AscSt) λ_ c=>do
  let x <-ltAt' (lo+c.snd) (lo+c.snd-1)
  match x with
  |some b=>if b=true then pure (ForInStep.done (none,c.snd))else pure (ForInStep.yield (none,c.snd+1))
  |_=>pure (ForInStep.done (some none,c.snd))
def qR(lo n m:Nat):Sm (Option Nat):=do
 reverseSlice' lo (lo+n)
 let c <-Ad lo n m
 match c.fst with
 |some r=>pure r
 |none=>pure (some c.snd)
def yj(lo n m:Nat):Sm DescSt:=
 forIn [n:m] ((none,n,0):DescSt) λ_ c=>do
  let x <-ltAt' (lo+c.snd.fst) (lo+c.snd.fst-1)
  match x with
  |some b=>
   if b=true then
    if c.snd.snd>0 then do
     reverseSlice' (lo+c.snd.fst-(c.snd.snd+1)) (lo+c.snd.fst)
     pure (ForInStep.yield (none,c.snd.fst+1,0))
    else pure (ForInStep.yield (none,c.snd.fst+1,0))
   else do
    let y <-ltAt' (lo+c.snd.fst-1) (lo+c.snd.fst)
    match y with
    |some d=>
     if d=true then pure (ForInStep.done (none,c.snd.fst,c.snd.snd))
     else pure (ForInStep.yield (none,c.snd.fst+1,c.snd.snd+1))
    |_=>pure (ForInStep.done (some none,c.snd.fst,c.snd.snd))
  |_=>pure (ForInStep.done (some none,c.snd.fst,c.snd.snd))
def qT(lo n m:Nat):Sm (Option Nat):=do
 liftM (rule "list.sort.descending-run")
 let c <-yj lo (n+1) m
 match c.fst with
 |some r=>pure r
 |none=>
  if c.snd.snd>0 then do
   reverseSlice' (lo+c.snd.fst-(c.snd.snd+1)) (lo+c.snd.fst)
   qR lo c.snd.fst m
  else qR lo c.snd.fst m
theorem bc{α β:Type}{m m':Sm α}{f f':α->Sm β}(h:m=m')(h':f=f'):(m>>=f)=(m'>>=f'):=by rw[h,h']
theorem Ae(lo m:Nat):countRun' lo m=(do
  let c <-Ad lo 1 m
  match c.fst with
  |some r=>pure r
  |none=>
   if(c.snd==m)=true then pure (some c.snd)
   else if c.snd>1 then do
    let x <-ltAt' lo (lo+c.snd-1)
    match x with
    |some b=>if b=true then pure (some c.snd)else do
      reverseSlice' lo (lo+c.snd)
      qT lo c.snd m
    |_=>pure none
   else qT lo c.snd m):=by
 rw[countRun'_eq]
 have tl:∀n:Nat,((do
   reverseSlice' lo (lo+n)
   let mut n:=n
   for _ in[n:m]do
    let some smaller <-ltAt' (lo+n) (lo+n-1)|return none
    if smaller then break
    n:=n+1
   return some n):Sm (Option Nat))=qR lo n m:=λn=>by
  unfold qR Ad;refine bc rfl (funext λu=>bc rfl (funext λc=>?_));obtain⟨r,n⟩:=c;cases r<;>rfl
 have pl:∀n:Nat,((do
   rule "list.sort.descending-run"
   let mut n:=n+1
   let mut neq:=0
   for _ in[n:m]do
    let some smaller <-ltAt' (lo+n) (lo+n-1)|return none
    if smaller then
     if neq>0 then reverseSlice' (lo+n-(neq+1)) (lo+n)
     neq:=0
    else
     let some larger <-ltAt' (lo+n-1) (lo+n)|return none
     if larger then break
     neq:=neq+1
    n:=n+1
   if neq>0 then reverseSlice' (lo+n-(neq+1)) (lo+n)
   reverseSlice' lo (lo+n)
   for _ in[n:m]do
    let some smaller <-ltAt' (lo+n) (lo+n-1)|return none
    if smaller then break
    n:=n+1
   return some n):Sm (Option Nat))=qT lo n m:=λn=>by
  unfold qT yj;refine bc rfl (funext λu=>bc rfl (funext λc=>?_));obtain⟨r,n2,q2⟩:=c
  cases r with
  |some r=>rfl
  |none=>
   dsimp only;split
   .exact bc rfl (funext λu=>tl n2)
   .exact tl n2
 unfold Ad;refine bc rfl (funext λc=>?_);obtain⟨r,n⟩:=c
 cases r with
 |some r=>rfl
 |none=>
  dsimp only;split
  .rfl
  .split
   .refine bc rfl (funext λx=>?_)
    cases x with
    |none=>rfl
    |some b=>
     dsimp only;split
     .rfl
     .exact bc rfl (funext λu=>pl n)
   .exact pl n
structure SB(ks:SortKind)(ae:Array Keyed)(st:SortSt):Prop where
 kind:kindOf st=ks
 ok:failedOf st=none
 pm:(arrOf st).Perm ae
def Seg(κ:PyProof.Rows.KeyKind)(xs:Array Keyed)(a b:Nat):Prop:=∀i j,a<=i->i<=j->j<b->κ.kle (KK κ xs i) (KK κ xs j)
def Non(κ:PyProof.Rows.KeyKind)(xs:Array Keyed)(a b:Nat):Prop:=∀i j,a<=i->i<=j->j<b->κ.kle (KK κ xs j) (KK κ xs i)
structure Out(st Zr:SortSt)(a b:Nat):Prop where
 out:∀k,(k<a\/b<=k)->(arrOf Zr)[k]?=(arrOf st)[k]?
 pend:pendingOf Zr=pendingOf st
theorem Out.refl(st:SortSt)(a b:Nat):Out st st a b:=⟨λ_ _=>rfl,rfl⟩
theorem Out.trans{st gI st2:SortSt}{a b:Nat}(h:Out st gI a b)(h':Out gI st2 a b):Out st st2 a b:=⟨λk hk=>(h'.out k hk).trans (h.out k hk),h'.pend.trans h.pend⟩
section
variable{prog:Program}{w:World}{A:Around}{E:Value->Shared->Prop}{s:Shared}{κ:PyProof.Rows.KeyKind}{ks:SortKind}{ae:Array Keyed}
def LtAll(prog:Program)(w:World)(A:Around)(E:Value->Shared->Prop)(s:Shared)(κ:PyProof.Rows.KeyKind)(ks:SortKind):Prop:=∀st,kindOf st=ks->Kv prog w A E s κ st
theorem SB.size{st:SortSt}(B:SB ks ae st):(arrOf st).size=ae.size:=B.pm.size_eq
theorem SB.item{st:SortSt}(B:SB ks ae st)(h0:KeysOf κ ae){i:Nat}(hi:i<ae.size):∃p a,(arrOf st)[i]?=some p/\κ.keyOf p.1=some a/\KK κ (arrOf st) i=a:=by
 have hX:i<(arrOf st).size:=by rw[B.size];exact hi
 have e:(arrOf st)[i]?=some (arrOf st)[i]:=Array.getElem?_eq_getElem hX;have hm:(arrOf st)[i]∈ae.toList:=(Array.perm_iff_toList_perm.mp B.pm).mem_iff.mp (Array.mem_toList_iff.mpr (Array.getElem_mem hX));obtain⟨a,ha⟩:=h0 _ hm;refine⟨_,a,e,ha,?_⟩;unfold KK;rw[e];dsimp only;rw[ha];rfl
theorem SB.arr{st:SortSt}(B:SB ks ae st){xs:Array Keyed}(h:xs.Perm (arrOf st)):SB ks ae (setArr st xs):=⟨B.kind,B.ok,h.trans B.pm⟩
theorem ltA(hL:LtAll prog w A E s κ ks){st:SortSt}{i j:Nat}{Q:Option Bool->SortSt->Prop}(B:SB ks ae st)(h0:KeysOf κ ae)(hi:i<ae.size)(hj:j<ae.size)(h:Q (some (κ.blt (KK κ (arrOf st) i) (KK κ (arrOf st) j))) st):
  wpS (model prog w) A E s (ltAt' i j) Q st:=by
 obtain⟨p,a,e1,ka,ea⟩:=B.item (κ:=κ) h0 hi;obtain⟨q,b,e2,kb,eb⟩:=B.item (κ:=κ) h0 hj;rw[ea,eb]at h;rw[ltAt'_eq];refine Zaa (wpS_get (Zaa (bD e1 (Zaa (bD e2 ?_)))));exact hL st B.kind p q a b Q ka kb h
theorem tO{st:SortSt}{i j:Nat}{Q:Unit->SortSt->Prop}(h:Q () (setArr st (mirror (arrOf st) i j ((j-i) / 2)))):wpS (model prog w) A E s (reverseSlice' i j) Q st:=wpS_reverse h
theorem Out.rev{st:SortSt}{i j a b:Nat}(hj:j<=(arrOf st).size)(h1:a<=i)(h2:j<=b):Out st (setArr st (mirror (arrOf st) i j ((j-i) / 2))) a b:=by
 refine⟨λk hk=>?_,rfl⟩;show(mirror (arrOf st) i j ((j-i) / 2))[k]?=_;rw[getElem?_mirror_all hj,zAw Zz]
theorem yl(hL:LtAll prog w A E s κ ks)(h0:KeysOf κ ae){st:SortSt}{a:Nat}{Q:AscSt->SortSt->Prop}(hn:lo+m<=ae.size)(ha:1<=a)(Qs:a<=m)(B:SB ks ae st)(hs:Seg κ (arrOf st) lo (lo+a))
  (h:∀n,a<=n->n<=m->Seg κ (arrOf st) lo (lo+n)->(n=m\/κ.klt (KK κ (arrOf st) (lo+n)) (KK κ (arrOf st) (lo+n-1)))->Q (none,n) st):wpS (model prog w) A E s (Ad lo a m) Q st:=by
 unfold Ad;refine wpS_forRange (I:=λx c Zr=>Zr=st/\c=(none,x)/\Seg κ (arrOf st) lo (lo+x)) ?_ ?_ ⟨rfl,rfl,hs⟩
 .rintro x c Zr F5 Qt ⟨rfl,rfl,cw⟩;dsimp only;refine Zaa (ltA hL B h0 Zz Zz ?_)
  cases e:κ.blt (KK κ (arrOf Zr) (lo+x)) (KK κ (arrOf Zr) (lo+x-1))with
  |true=>
   dsimp only;rw[zAx rfl];exact Zab (h x F5 Zz cw (.inr e))
  |false=>
   dsimp only;rw[zAw Zx];refine Zab ⟨rfl,rfl,λi j hi cm hj=>?_⟩;by_cases BI:j<lo+x
   .exact cw i j hi cm BI
   .have ej:j=lo+x:=Zz
    subst ej;by_cases ei:i=lo+x
    .rw[ei];exact KeyOrd.kle_refl _
    .exact KeyOrd.kle_trans (cw i (lo+x-1) hi Zz Zz) e
 .rintro c Zr ⟨rfl,rfl,cw⟩;rw[show max a m=m by lia]at cw⊢;exact h m Qs (zA3 _) cw (.inl rfl)
theorem uW(hL:LtAll prog w A E s κ ks)(h0:KeysOf κ ae){st:SortSt}{n:Nat}{Q:Option Nat->SortSt->Prop}(hn:lo+m<=ae.size)(h1:1<=n)(oP:n<=m)(B:SB ks ae st)(hs:Non κ (arrOf st) lo (lo+n))
  (h:∀k Zr,SB ks ae Zr->Out st Zr lo (lo+m)->1<=k->k<=m->Seg κ (arrOf Zr) lo (lo+k)->Q (some k) Zr):wpS (model prog w) A E s (qR lo n m) Q st:=by
 unfold qR;have hsz:lo+n<=(arrOf st).size:=by rw[B.size];lia
 refine Zaa (tO ?_);have B':=B.arr (mirror_perm (arrOf st) lo (lo+n) ((lo+n-lo) / 2));refine Zaa (yl hL h0 hn h1 oP B' ?_ λk WO BM Qu _=>Zab (h k _ B' (Out.rev hsz (zA3 _) Zz) Zz BM Qu));intro i j hi cm hj;show κ.kle (KK κ (mirror (arrOf st) lo (lo+n) ((lo+n-lo) / 2)) i) (KK κ (mirror (arrOf st) lo (lo+n) ((lo+n-lo) / 2)) j);rw[KK_mirror hsz,KK_mirror hsz,zAx Zz,zAx Zz];exact hs _ _ Zz Zz Zz
theorem Cy(hL:LtAll prog w A E s κ ks)(h0:KeysOf κ ae){st:SortSt}{n:Nat}{Q:DescSt->SortSt->Prop}(hn:lo+m<=ae.size)(h1:1<=n)(oP:n<=m)(B:SB ks ae st)(hs:Non κ (arrOf st) lo (lo+n))
  (h:∀k q Zr,SB ks ae Zr->Out st Zr lo (lo+m)->n<=k->k<=m->Non κ (arrOf Zr) lo (lo+k)->q+1<=k->(∀i,lo+k-(q+1)<=i->i<lo+k->KK κ (arrOf Zr) i=KK κ (arrOf Zr) (lo+k-1))->Q (none,k,q) Zr):
  wpS (model prog w) A E s (yj lo n m) Q st:=by
 unfold yj
 refine wpS_forRange (I:=λx c Zr=>∃q,c=(none,x,q)/\SB ks ae Zr/\Out st Zr lo (lo+m)/\Non κ (arrOf Zr) lo (lo+x)/\q+1<=x/\(∀i,lo+x-(q+1)<=i->i<lo+x->KK κ (arrOf Zr) i=KK κ (arrOf Zr) (lo+x-1))) ?_ ?_
  ⟨0,rfl,B,Out.refl _ _ _,hs,Zz,λi z1 z2=>by congr 1;lia⟩
 .rintro x c Zr F5 Qt ⟨q,rfl,B',O',cw,hq,he⟩;dsimp only;have hsz:lo+x<=(arrOf Zr).size:=by rw[B'.size];lia
  refine Zaa (ltA hL B' h0 Zz Zz ?_)
  cases e:κ.blt (KK κ (arrOf Zr) (lo+x)) (KK κ (arrOf Zr) (lo+x-1))with
  |true=>
   dsimp only;rw[zAx rfl]
   have more:∀xs:Array Keyed,(∀k,KK κ xs k=KK κ (arrOf Zr) k)->Non κ xs lo (lo+(x+1)):=λxs hk i j hi cm hj=>by
    rw[hk,hk];by_cases BI:j<lo+x
    .exact cw i j hi cm BI
    .have ej:j=lo+x:=Zz
     subst ej;by_cases ei:i=lo+x
     .rw[ei];exact KeyOrd.kle_refl _
     .exact KeyOrd.kle_trans (KeyOrd.kle_of_klt e) (cw i (lo+x-1) hi Zz Zz)
   by_cases BN:q>0
   .rw[zAx BN];refine Zaa (tO (Zab ⟨0,rfl,B'.arr (mirror_perm _ _ _ _),O'.trans (Out.rev hsz Zz Zz),more _ (KK_mirror_equal hsz he),Zz,λi z1 z2=>by congr 1;lia⟩))
   .rw[zAw BN];exact Zab ⟨0,rfl,B',O',more _ (λ_=>rfl),Zz,λi z1 z2=>by congr 1;lia⟩
  |false=>
   dsimp only;rw[zAw Zx];refine Zaa (ltA hL B' h0 Zz Zz ?_)
   cases e2:κ.blt (KK κ (arrOf Zr) (lo+x-1)) (KK κ (arrOf Zr) (lo+x))with
   |true=>
    dsimp only;rw[zAx rfl];exact Zab (h x q Zr B' O' F5 Zz cw hq he)
   |false=>
    dsimp only;rw[zAw Zx];have ex:KK κ (arrOf Zr) (lo+x)=KK κ (arrOf Zr) (lo+x-1):=KeyOrd.kle_antisymm e2 e;refine Zab ⟨q+1,rfl,B',O',λi j hi cm hj=>?_,Zz,λi z1 z2=>?_⟩
    .by_cases BI:j<lo+x
     .exact cw i j hi cm BI
     .have ej:j=lo+x:=Zz
      subst ej;by_cases ei:i=lo+x
      .rw[ei];exact KeyOrd.kle_refl _
      .rw[ex];exact cw i (lo+x-1) hi Zz Zz
    .rw[show lo+(x+1)-1=lo+x by lia];by_cases ei:i=lo+x
     .rw[ei]
     .rw[ex];exact he i Zz Zz
 .rintro c Zr ⟨q,rfl,B',O',cw,hq,he⟩;rw[show max n m=m by lia]at cw hq he⊢;exact h m q Zr B' O' oP (zA3 _) cw hq he
theorem uX(hL:LtAll prog w A E s κ ks)(h0:KeysOf κ ae){st:SortSt}{n:Nat}{Q:Option Nat->SortSt->Prop}(hn:lo+m<=ae.size)(oP:n+1<=m)(B:SB ks ae st)(hs:Non κ (arrOf st) lo (lo+(n+1)))
  (h:∀k Zr,SB ks ae Zr->Out st Zr lo (lo+m)->1<=k->k<=m->Seg κ (arrOf Zr) lo (lo+k)->Q (some k) Zr):wpS (model prog w) A E s (qT lo n m) Q st:=by
 unfold qT;refine Zaa (wpS_lift (wpAny_rule ⟨rfl,?_⟩));refine Zaa (Cy hL h0 hn Zz oP B hs λk q Zr B' O' k1 k2 cw hq he=>?_);dsimp only;have hsz:lo+k<=(arrOf Zr).size:=by rw[B'.size];lia
 by_cases BN:q>0
 .rw[zAx BN];refine Zaa (tO (uW hL h0 hn Zz k2 (B'.arr (mirror_perm _ _ _ _)) ?_ λk' st2 B2 O2=>h k' st2 B2 ((O'.trans (Out.rev hsz Zz Zz)).trans O2)));intro i j hi cm hj;show κ.kle (KK κ (mirror (arrOf Zr) _ _ _) j) (KK κ (mirror (arrOf Zr) _ _ _) i);rw[KK_mirror_equal hsz he,KK_mirror_equal hsz he];exact cw i j hi cm hj
 .rw[zAw BN];exact uW hL h0 hn Zz k2 B' cw λk' st2 B2 O2=>h k' st2 B2 (O'.trans O2)
theorem Cz(hL:LtAll prog w A E s κ ks)(h0:KeysOf κ ae){st:SortSt}{Q:Option Nat->SortSt->Prop}(hn:lo+m<=ae.size)(h1:1<=m)(B:SB ks ae st)
  (h:∀k Zr,SB ks ae Zr->Out st Zr lo (lo+m)->1<=k->k<=m->Seg κ (arrOf Zr) lo (lo+k)->Q (some k) Zr):wpS (model prog w) A E s (countRun' lo m) Q st:=by
 rw[Ae];refine Zaa (yl hL h0 hn (zA3 1) h1 B (λi j hi cm hj=>by have:i=j:=Zz;rw[this];exact KeyOrd.kle_refl _) λn n1 n2 D9 Qv=>?_);dsimp only;by_cases oP:n=m
 .rw[zAx (by simpa using oP)];exact Zab (h n st B (Out.refl _ _ _) n1 n2 D9)
 .rw[zAw (by simpa using oP)];have aI:=Qv.resolve_left oP;by_cases NS:n>1
  .rw[zAx NS];refine Zaa (ltA hL B h0 Zz Zz ?_)
   cases e:κ.blt (KK κ (arrOf st) lo) (KK κ (arrOf st) (lo+n-1))with
   |true=>
    dsimp only;rw[zAx rfl];exact Zab (h n st B (Out.refl _ _ _) n1 n2 D9)
   |false=>
    dsimp only;rw[zAw Zx];have hsz:lo+n<=(arrOf st).size:=by rw[B.size];lia
    have fF:∀k,lo<=k->k<lo+n->KK κ (arrOf st) k=KK κ (arrOf st) (lo+n-1):=λk zk hk=>by
     have a1:=D9 lo k (zA3 _) zk hk;have a2:=D9 k (lo+n-1) zk Zz Zz;exact KeyOrd.kle_antisymm a2 (KeyOrd.kle_trans e a1)
    refine Zaa (tO (uX hL h0 hn Zz (B.arr (mirror_perm _ _ _ _)) ?_ λk st2 B2 O2=>h k st2 B2 ((Out.rev hsz (zA3 _) Zz).trans O2)));intro i j hi cm hj;show κ.kle (KK κ (mirror (arrOf st) _ _ _) j) (KK κ (mirror (arrOf st) _ _ _) i);rw[KK_mirror_equal hsz fF,KK_mirror_equal hsz fF];by_cases Qw:j<lo+n
    .rw[fF i hi Zz,fF j Zz Qw];exact KeyOrd.kle_refl _
    .have ej:j=lo+n:=Zz
     subst ej;by_cases ei:i=lo+n
     .rw[ei];exact KeyOrd.kle_refl _
     .rw[fF i hi Zz];exact KeyOrd.kle_of_klt aI
  .rw[zAw NS];have e1:n=1:=Zz
   subst e1;refine uX hL h0 hn Zz B ?_ h;intro i j hi cm hj;by_cases ei:i=j
   .rw[ei];exact KeyOrd.kle_refl _
   .have i0:i=lo:=Zz
    have j1:j=lo+1:=Zz
    rw[i0,j1];exact KeyOrd.kle_of_klt aI
theorem Jm(hL:LtAll prog w A E s κ ks)(h0:KeysOf κ ae){st:SortSt}{n ok:Nat}{Q:Bool->SortSt->Prop}(hn:lo+n<=ae.size)(hok:ok<=n)(B:SB ks ae st)(hs:Seg κ (arrOf st) lo (lo+ok))
  (h:∀Zr,SB ks ae Zr->Out st Zr lo (lo+n)->Seg κ (arrOf Zr) lo (lo+n)->Q true Zr):wpS (model prog w) A E s (binarySort' lo n ok) Q st:=by
 rw[binarySort'_eq]
 refine Zaa (wpS_mono (wpS_forRange (I:=λk c Zr=>c=(none,())/\SB ks ae Zr/\Out st Zr lo (lo+n)/\Seg κ (arrOf Zr) lo (lo+min k n))
  (Q:=λc Zr=>c=(none,())/\SB ks ae Zr/\Out st Zr lo (lo+n)/\Seg κ (arrOf Zr) lo (lo+n)) ?_ ?_ ?_) ?_)
 .rintro k c Zr zk WQ ⟨rfl,B',O',cw⟩;rw[show min k n=k by lia]at cw
  refine Zaa (wpS_mono (wpS_forRange (I:=λx c st2=>st2=Zr/\∃l r,c=(none,l,r)/\l<=r/\r<=k/\r-l<=k-x/\(∀i,i<l->κ.kle (KK κ (arrOf Zr) (lo+i)) (KK κ (arrOf Zr) (lo+k)))/\(∀i,r<=i->i<k->κ.klt (KK κ (arrOf Zr) (lo+k)) (KK κ (arrOf Zr) (lo+i))))
   (Q:=λc st2=>st2=Zr/\∃l r,c=(none,l,r)/\l<=k/\(∀i,i<l->κ.kle (KK κ (arrOf Zr) (lo+i)) (KK κ (arrOf Zr) (lo+k)))/\(∀i,l<=i->i<k->κ.klt (KK κ (arrOf Zr) (lo+k)) (KK κ (arrOf Zr) (lo+i)))) ?_ ?_ ?_) ?_)
  .rintro x c st2 _ WR ⟨rfl,l,r,rfl,jI,zo,hm,fh,kB⟩;dsimp only;by_cases rL:l≥r
   .rw[zAx rL];have e:l=r:=Zz
    subst e;exact Zab ⟨rfl,l,l,rfl,zo,fh,kB⟩
   .rw[zAw rL];refine Zaa (ltA hL B' h0 Zz Zz ?_)
    cases e:κ.blt (KK κ (arrOf st2) (lo+k)) (KK κ (arrOf st2) (lo+(l+r) / 2))with
    |true=>
     dsimp only;rw[zAx rfl];exact Zab ⟨rfl,l,(l+r) / 2,rfl,Zz,Zz,Zz,fh,λi z1 z2=>KeyOrd.klt_of_klt_of_kle e (cw (lo+(l+r) / 2) (lo+i) Zz Zz Zz)⟩
    |false=>
     dsimp only;rw[zAw Zx];exact Zab ⟨rfl,(l+r) / 2+1,r,rfl,Zz,Zz,Zz,λi z1=>KeyOrd.kle_trans (cw (lo+i) (lo+(l+r) / 2) Zz Zz Zz) (show κ.kle _ _ from e),kB⟩
  .rintro c st2 ⟨rfl,l,r,rfl,jI,zo,hm,fh,kB⟩;have e:l=r:=Zz
   subst e;exact⟨rfl,l,l,rfl,zo,fh,kB⟩
  .exact⟨rfl,0,k,rfl,Zz,Zz,Zz,λi hi=>by lia,λi z1 z2=>by lia⟩
  .rintro c st2 ⟨rfl,l,r,rfl,jS,fh,kB⟩;show wpS _ _ _ _ (do moveDown' (lo+k) (lo+l);pure (ForInStep.yield (none,()))) _ _;rw[moveDown'_eq];have F6:lo+k<(arrOf st2).size:=by rw[B'.size];lia
   refine Zaa (wpS_modify (Zab ⟨rfl,B'.arr (bubble_perm _ _ _),O'.trans ⟨λz hz=>?_,rfl⟩,?_⟩))
   .show(bubble (arrOf st2) (lo+k) (lo+k-(lo+l)))[z]?=_;rw[getElem?_bubble F6 _ Zz,zAw Zz,zAw Zz]
   .rw[show min (k+1) n=k+1 by lia];intro i j hi cm hj;show κ.kle (KK κ (bubble (arrOf st2) (lo+k) (lo+k-(lo+l))) i) (KK κ (bubble (arrOf st2) (lo+k) (lo+k-(lo+l))) j);rw[KK_bubble F6 Zz,KK_bubble F6 Zz,show lo+k-(lo+k-(lo+l))=lo+l by lia]
    have F7:∀z,lo<=z->z<lo+l->κ.kle (KK κ (arrOf st2) z) (KK κ (arrOf st2) (lo+k)):=λz z1 z2=>by
     have:=fh (z-lo) Zz;rw[show lo+(z-lo)=z by lia]at this;exact this
    have GA:∀z,lo+l<=z->z<lo+k->κ.kle (KK κ (arrOf st2) (lo+k)) (KK κ (arrOf st2) z):=λz z1 z2=>by
     have:=kB (z-lo) Zz Zz;rw[show lo+(z-lo)=z by lia]at this;exact KeyOrd.kle_of_klt this
    repeat' split
    all_goals first
     | (exfalso;lia)
     |exact KeyOrd.kle_refl _
     |exact F7 _ Zz Zz
     |exact GA _ Zz Zz
     |exact cw _ _ Zz Zz Zz
 .rintro c Zr ⟨hc,B',O',cw⟩;refine⟨hc,B',O',?_⟩
  rwa [show min (max (max ok 1) n) n=n by lia]at cw
 .refine⟨rfl,B,Out.refl _ _ _,λi j hi cm hj=>?_⟩;by_cases z:ok=0
  .have e:i=j:=Zz
   rw[e];exact KeyOrd.kle_refl _
  .exact hs i j hi cm Zz
 .rintro c Zr ⟨rfl,B',O',cw⟩;exact Zab (h Zr B' O' cw)
end
section
variable{α:Type}{le:α->α->Prop}
structure MI(le:α->α->Prop)(la lb lo:List α)(ia ib:Nat):Prop where
 pm:lo.Perm (la.take ia++lb.take ib)
 sr:lo.Pairwise le
 be:∀x∈lo,∀y,y∈la.drop ia\/y∈lb.drop ib->le x y
theorem iU{l:List α}{i j:Nat}{y:α}(cm:i<=j)(h:y∈l.drop j):y∈l.drop i:=by
 have:l.drop j=(l.drop i).drop (j-i):=by rw[List.drop_drop];congr 1;lia
 rw[this]at h;exact List.mem_of_mem_drop h
theorem ym{l:List α}(h:l.Pairwise le){i j:Nat}(cm:i<=j):∀x∈(l.drop i).take (j-i),∀y∈l.drop j,le x y:=by
 have e:l.drop i=(l.drop i).take (j-i)++l.drop j:=by
  have:=zBf (j-i) (l.drop i);rw[List.drop_drop]at this;rw[show i+(j-i)=j by lia]at this;exact this.symm
 have hp:(l.drop i).Pairwise le:=h.sublist (Zax _ _);rw[e]at hp;exact λx hx y hy=>(Zah.mp hp).2.2 x hx y hy
theorem qU(l:List α)(i k:Nat):l.take (i+k)=l.take i++(l.drop i).take k:=List.take_add
theorem MI.segA{la lb lo:List α}{k:Nat}(m:MI le la lb lo ia ib)(sa:la.Pairwise le)(h:∀x∈(la.drop ia).take k,∀y∈lb.drop ib,le x y):MI le la lb (lo++(la.drop ia).take k) (ia+k) ib:=by
 refine⟨?_,Zah.mpr ⟨m.sr,(sa.sublist (Zax _ _)).sublist (Za3 _ _),λx hx y hy=>m.be x hx y (.inl (Zaq hy))⟩,λx hx y hy=>?_⟩
 .rw[qU];refine(m.pm.append_right _).trans ?_;rw[zAf,zAf];exact List.Perm.append_left _ (Za7)
 .rcases zA6.mp hx with z|z
  .exact m.be x z y (hy.imp (iU Zz) id)
  .rcases hy with hy|hy
   .have:=ym sa (i:=ia) (j:=ia+k) Zz x (by rw[show ia+k-ia=k by lia];exact z) y hy;exact this
   .exact h x z y hy
theorem MI.segB{la lb lo:List α}{k:Nat}(m:MI le la lb lo ia ib)(sb:lb.Pairwise le)(h:∀x∈(lb.drop ib).take k,∀y∈la.drop ia,le x y):MI le la lb (lo++(lb.drop ib).take k) ia (ib+k):=by
 refine⟨?_,Zah.mpr ⟨m.sr,(sb.sublist (Zax _ _)).sublist (Za3 _ _),λx hx y hy=>m.be x hx y (.inr (Zaq hy))⟩,λx hx y hy=>?_⟩
 .rw[qU];refine(m.pm.append_right _).trans ?_;rw[zAf]
 .rcases zA6.mp hx with z|z
  .exact m.be x z y (hy.imp id (iU Zz))
  .rcases hy with hy|hy
   .exact h x z y hy
   .have:=ym sb (i:=ib) (j:=ib+k) Zz x (by rw[show ib+k-ib=k by lia];exact z) y hy;exact this
structure Done(le:α->α->Prop)(la lb lo:List α):Prop where
 pm:lo.Perm (la++lb)
 sr:lo.Pairwise le
theorem MI.endB{la lb lo:List α}(m:MI le la lb lo ia ib)(sa:la.Pairwise le)(hb:lb.length<=ib):Done le la lb (lo++la.drop ia++lb.drop ib):=by
 have e:lb.drop ib=[]:=Zav hb;have e2:lb.take ib=lb:=Zai hb;rw[e,zAn];refine⟨?_,Zah.mpr ⟨m.sr,sa.sublist (Zax _ _),λx hx y hy=>m.be x hx y (.inl hy)⟩⟩;have:=m.pm;rw[e2]at this;refine(this.append_right _).trans ?_;rw[zAf];refine(List.Perm.append_left _ Za7).trans ?_;rw[<-zAf,zBf]
theorem MI.endA{la lb lo:List α}(m:MI le la lb lo ia ib)(sb:lb.Pairwise le)(ha:la.length<=ia):Done le la lb (lo++la.drop ia++lb.drop ib):=by
 have e:la.drop ia=[]:=Zav ha;have e2:la.take ia=la:=Zai ha;rw[e,zAn];refine⟨?_,Zah.mpr ⟨m.sr,sb.sublist (Zax _ _),λx hx y hy=>m.be x hx y (.inr hy)⟩⟩;have:=m.pm;rw[e2]at this;refine(this.append_right _).trans ?_;rw[zAf,zBf]
theorem MI.last{la lb lo:List α}(m:MI le la lb lo ia ib)(sa:la.Pairwise le)(sb:lb.Pairwise le)(h:∀y∈lb.drop ib,∀x∈la.drop ia,le y x):Done le la lb (lo++lb.drop ib++la.drop ia):=by
 refine⟨?_,Zah.mpr ⟨Zah.mpr ⟨m.sr,sb.sublist (Zax _ _),λx hx y hy=>m.be x hx y (.inr hy)⟩,sa.sublist (Zax _ _),λx hx y hy=>?_⟩⟩
 .refine((m.pm.append_right _).append_right _).trans ?_
  have e:(la.take ia++lb.take ib++lb.drop ib++la.drop ia)=la.take ia++(lb++la.drop ia):=by
   rw[zAf (la.take ia),zBf,zAf]
  rw[e];refine(List.Perm.append_left _ Za7).trans ?_;rw[<-zAf,zBf]
 .rcases zA6.mp hx with z|z
  .exact m.be x z y (.inl hy)
  .exact h x z y hy
end
def jO:Array Keyed->Array Keyed->Sm (Array Keyed):=sortPriv% PySem.Builtin.mergeLo
def jP:Nat->Sm Unit:=sortPriv% PySem.Builtin.setMinGallop
abbrev C1:=Option (Array Keyed)×Array Keyed×Nat×Nat×Nat×Nat
abbrev C2:=Option (Array Keyed)×Array Keyed×Nat×Nat×Nat×Nat×Nat
abbrev C0:=Option (Array Keyed)×Array Keyed×Nat×Nat×Nat
def one(a b:Array Keyed)(g:Nat)(out:Array Keyed)(ia ib ac bc:Nat):Sm (ForInStep C1):=do
 let y <-elem' b ib
 let x <-elem' a ia
 let r <-lt' y x
 match r with
 |some w=>
  if w=true then do
   let y <-elem' b ib
   if(ib+1==b.size)=true then pure (ForInStep.done (some (out.push y++a.extract ia a.size++b.extract (ib+1) b.size),out.push y,ia,ib+1,0,bc+1))
   else if bc+1≥g then pure (ForInStep.done (none,out.push y,ia,ib+1,0,bc+1))else pure (ForInStep.yield (none,out.push y,ia,ib+1,0,bc+1))
  else do
   let x <-elem' a ia
   if(ia+1+1==a.size)=true then pure (ForInStep.done (some (out.push x++b.extract ib b.size++a.extract (ia+1) a.size),out.push x,ia+1,ib,ac+1,0))
   else if ac+1≥g then pure (ForInStep.done (none,out.push x,ia+1,ib,ac+1,0))else pure (ForInStep.yield (none,out.push x,ia+1,ib,ac+1,0))
 |_=>pure (ForInStep.done (some (out++a.extract ia a.size++b.extract ib b.size),out,ia,ib,ac,bc))
def gl4(a b:Array Keyed)(out:Array Keyed)(ia ib g k k1:Nat):Sm (ForInStep C2):=do
 let x <-elem' a ia
 if(ia+1+1==a.size)=true then pure (ForInStep.done (some (out.push x++b.extract ib b.size++a.extract (ia+1) a.size),out.push x,ia+1,ib,g,k,k1))
 else if(decide (k<7)&&decide (k1<7))=true then pure (ForInStep.done (none,out.push x,ia+1,ib,g,k,k1))else pure (ForInStep.yield (none,out.push x,ia+1,ib,g,k,k1))
def gl3(a b:Array Keyed)(out:Array Keyed)(ia ib g k bc:Nat):Sm (ForInStep C2):=do
 let x <-elem' a ia
 let r <-gF true x b ib (b.size-ib) 0
 match r with
 |some k1=>
  if k1>0 then
   if(ib+k1==b.size)=true then pure (ForInStep.done (some (out++b.extract ib (ib+k1)++a.extract ia a.size++b.extract (ib+k1) b.size),out++b.extract ib (ib+k1),ia,ib+k1,g,k,k1))
   else gl4 a b (out++b.extract ib (ib+k1)) ia (ib+k1) g k k1
  else gl4 a b out ia ib g k k1
 |_=>pure (ForInStep.done (some (out++a.extract ia a.size++b.extract ib b.size),out,ia,ib,g,k,bc))
def gl2(a b:Array Keyed)(out:Array Keyed)(ia ib g k bc:Nat):Sm (ForInStep C2):=do
 let y <-elem' b ib
 if(ib+1==b.size)=true then pure (ForInStep.done (some (out.push y++a.extract ia a.size++b.extract (ib+1) b.size),out.push y,ia,ib+1,g,k,bc))
 else gl3 a b (out.push y) ia (ib+1) g k bc
def gl1(a b:Array Keyed)(out:Array Keyed)(ia ib g ac bc:Nat):Sm (ForInStep C2):=do
 jP g
 let y <-elem' b ib
 let r <-gF false y a ia (a.size-ia) 0
 match r with
 |some k=>
  if k>0 then
   if(ia+k+1==a.size)=true then pure (ForInStep.done (some (out++a.extract ia (ia+k)++b.extract ib b.size++a.extract (ia+k) a.size),out++a.extract ia (ia+k),ia+k,ib,g,k,bc))
   else if(ia+k==a.size)=true then pure (ForInStep.done (some (out++a.extract ia (ia+k)++a.extract (ia+k) a.size++b.extract ib b.size),out++a.extract ia (ia+k),ia+k,ib,g,k,bc))
   else gl2 a b (out++a.extract ia (ia+k)) (ia+k) ib g k bc
  else gl2 a b out ia ib g k bc
 |_=>pure (ForInStep.done (some (out++a.extract ia a.size++b.extract ib b.size),out,ia,ib,g,ac,bc))
def gal(a b:Array Keyed)(out:Array Keyed)(ia ib g ac bc:Nat):Sm (ForInStep C2):=if g>1 then gl1 a b out ia ib (g-1) ac bc else gl1 a b out ia ib g ac bc
def round(a b:Array Keyed)(out:Array Keyed)(ia ib g:Nat):Sm (ForInStep C0):=do
 let c <-forIn [0:a.size+b.size] ((none,out,ia,ib,0,0):C1) λ_ c=>one a b g c.2.1 c.2.2.1 c.2.2.2.1 c.2.2.2.2.1 c.2.2.2.2.2
 match c.1 with
 |some r=>pure (ForInStep.done (some r,c.2.1,c.2.2.1,c.2.2.2.1,g))
 |none=>do
  liftM (rule "list.sort.gallop")
  let d <-forIn [0:a.size+b.size] ((none,c.2.1,c.2.2.1,c.2.2.2.1,g+1,c.2.2.2.2.1,c.2.2.2.2.2):C2) λ_ d=>gal a b d.2.1 d.2.2.1 d.2.2.2.1 d.2.2.2.2.1 d.2.2.2.2.2.1 d.2.2.2.2.2.2
  match d.1 with
  |some r=>pure (ForInStep.done (some r,d.2.1,d.2.2.1,d.2.2.2.1,d.2.2.2.2.1))
  |none=>do
   jP (d.2.2.2.2.1+1)
   pure (ForInStep.yield (none,d.2.1,d.2.2.1,d.2.2.2.1,d.2.2.2.2.1+1))
theorem fi{β:Type}{r:Std.Legacy.Range}{c:β}{f f':Nat->β->Sm (ForInStep β)}(h:f=f'):(forIn r c f:Sm β)=forIn r c f':=by rw[h]
theorem ic{α:Type}{c:Prop}[Decidable c]{x x' y y':α}(h:x=x')(h':y=y'):(if c then x else y)=if c then x' else y':=by rw[h,h']
theorem Kw(a b:Array Keyed):jO a b=(do
  liftM (rule "list.sort.merge-lo")
  let e <-elem' b 0
  if(1==b.size)=true then pure (#[e]++a.extract 0 a.size++b.extract 1 b.size)
  else if(0+1==a.size)=true then pure (#[e]++b.extract 1 b.size++a.extract 0 a.size)
  else do
   let s <-get
   let c <-forIn [0:a.size+b.size] ((none,#[e],0,1,gallopOf s):C0) λ_ c=>round a b c.2.1 c.2.2.1 c.2.2.2.1 c.2.2.2.2
   match c.1 with
   |some r=>pure r
   |none=>liftM (unsupported "internal:list.sort.merge-bound")):=by
 delta jO
 refine bc rfl (funext λu=>bc rfl (funext λe=>ic rfl (ic rfl (bc rfl (funext λs=>bc (fi (funext λx=>funext λc=>?_)) (funext λc=>?_))))))
 .unfold round;refine bc (fi (funext λx=>funext λc1=>?_)) (funext λc1=>?_)
  .unfold one;refine bc rfl (funext λy=>bc rfl (funext λx=>bc rfl (funext λr=>?_)))
   cases r with
   |none=>rfl
   |some w=>exact ic (bc rfl (funext λy=>ic rfl (ic rfl rfl))) (bc rfl (funext λy=>ic rfl (ic rfl rfl)))
  .obtain⟨r,c1⟩:=c1
   cases r with
   |some r=>rfl
   |none=>
    refine bc rfl (funext λu=>bc (fi (funext λx=>funext λd=>?_)) (funext λd=>?_))
    .unfold gal;refine ic ?_ ?_
     .unfold gl1;exact bc rfl (funext λu=>bc rfl (funext λy=>bc rfl (funext λr=>by cases r with|none=>rfl|some k=>exact ic (ic rfl (ic rfl (by unfold gl2;exact bc rfl (funext λy=>ic rfl (by unfold gl3;exact bc rfl (funext λx=>bc rfl (funext λr=>by cases r with|none=>rfl|some k1=>exact ic (ic rfl (by unfold gl4;exact bc rfl (funext λx=>ic rfl (ic rfl rfl)))) (by unfold gl4;exact bc rfl (funext λx=>ic rfl (ic rfl rfl)))))))))) (by unfold gl2;exact bc rfl (funext λy=>ic rfl (by unfold gl3;exact bc rfl (funext λx=>bc rfl (funext λr=>by cases r with|none=>rfl|some k1=>exact ic (ic rfl (by unfold gl4;exact bc rfl (funext λx=>ic rfl (ic rfl rfl)))) (by unfold gl4;exact bc rfl (funext λx=>ic rfl (ic rfl rfl)))))))))))
     .unfold gl1;exact bc rfl (funext λu=>bc rfl (funext λy=>bc rfl (funext λr=>by cases r with|none=>rfl|some k=>exact ic (ic rfl (ic rfl (by unfold gl2;exact bc rfl (funext λy=>ic rfl (by unfold gl3;exact bc rfl (funext λx=>bc rfl (funext λr=>by cases r with|none=>rfl|some k1=>exact ic (ic rfl (by unfold gl4;exact bc rfl (funext λx=>ic rfl (ic rfl rfl)))) (by unfold gl4;exact bc rfl (funext λx=>ic rfl (ic rfl rfl)))))))))) (by unfold gl2;exact bc rfl (funext λy=>ic rfl (by unfold gl3;exact bc rfl (funext λx=>bc rfl (funext λr=>by cases r with|none=>rfl|some k1=>exact ic (ic rfl (by unfold gl4;exact bc rfl (funext λx=>ic rfl (ic rfl rfl)))) (by unfold gl4;exact bc rfl (funext λx=>ic rfl (ic rfl rfl)))))))))))
    .obtain⟨r,d⟩:=d;cases r<;>rfl
 .obtain⟨r,c⟩:=c;cases r<;>rfl
def key(κ:PyProof.Rows.KeyKind)(p:Keyed):κ.α:=(κ.keyOf p.1).getD κ.dflt
def leK(κ:PyProof.Rows.KeyKind)(x y:Keyed):Prop:=κ.kle (key κ x) (key κ y)
theorem dR{κ:PyProof.Rows.KeyKind}{x y z:Keyed}(h:leK κ x y)(h':leK κ y z):leK κ x z:=KeyOrd.kle_trans h h'
structure SG(st Zr:SortSt):Prop where
 kind:kindOf Zr=kindOf st
 arr:arrOf Zr=arrOf st
 pend:pendingOf Zr=pendingOf st
 fail:failedOf Zr=failedOf st
theorem SG.refl(st:SortSt):SG st st:=⟨rfl,rfl,rfl,rfl⟩
structure Two(κ:PyProof.Rows.KeyKind)(a b:Array Keyed):Prop where
 ka:KeysOf κ a
 kb:KeysOf κ b
 sa:a.toList.Pairwise (leK κ)
 sb:b.toList.Pairwise (leK κ)
theorem item{κ:PyProof.Rows.KeyKind}{a:Array Keyed}(ka:KeysOf κ a){i:Nat}(hi:i<a.size):∃p,a[i]?=some p/\κ.keyOf p.1=some (key κ p)/\KK κ a i=key κ p/\a.toList.drop i=p::a.toList.drop (i+1):=by
 have e:a[i]?=some a[i]:=Array.getElem?_eq_getElem hi;obtain⟨k,hk⟩:=ka a[i] (Array.mem_toList_iff.mpr (Array.getElem_mem hi))
 have ek:key κ a[i]=k:=by
  unfold key;rw[hk];rfl
 refine⟨a[i],e,by rw[ek];exact hk,?_,?_⟩
 .unfold KK;rw[e,ek];dsimp only;rw[hk];rfl
 .have:=Zaw (l:=a.toList) (i:=i) (by simpa using hi);rw[this];simp
theorem jQ{κ:PyProof.Rows.KeyKind}{l r:List Keyed}{p:Keyed}{i:Nat}(h:l.Pairwise (leK κ))(e:l.drop i=p::r):∀y∈l.drop i,leK κ p y:=by
 have hp:=h.sublist (Zax i l);rw[e]at hp⊢;intro y hy;rcases zAo.mp hy with z|z
 .rw[z];exact KeyOrd.kle_refl _
 .exact(List.pairwise_cons.mp hp).1 y z
theorem gU(a:Array Keyed)(i j:Nat):(a.extract i j).toList=(a.toList.drop i).take (j-i):=by
 rw[Array.toList_extract]
theorem jd(a:Array Keyed)(i:Nat):(a.extract i a.size).toList=a.toList.drop i:=by
 rw[gU];refine Zai ?_;rw[Zam,zA9];exact zA3 _
theorem jR{κ:PyProof.Rows.KeyKind}{a:Array Keyed}(ka:KeysOf κ a){i k:Nat}{x:Keyed}(h:x∈(a.toList.drop i).take k):∃j,j<k/\i+j<a.size/\KK κ a (i+j)=key κ x:=by
 obtain⟨j,hj,rfl⟩:=List.getElem_of_mem h;rw[zAd,Zam,zA9]at hj;refine⟨j,Zz,Zz,?_⟩;obtain⟨p,e1,e2,e3,e4⟩:=item ka (i:=i+j) Zz;rw[e3,List.getElem_take,List.getElem_drop]
 have:a.toList[i+j]?=some p:=by
  rw[Zat];exact e1
 rw[zA0 (by rw[zA9];lia)]at this;rw[zAl this]
theorem oU{κ:PyProof.Rows.KeyKind}{a:Array Keyed}(ka:KeysOf κ a){i:Nat}{x:Keyed}(h:x∈a.toList.drop i):∃j,i<=j/\j<a.size/\KK κ a j=key κ x:=by
 have h':x∈(a.toList.drop i).take (a.toList.drop i).length:=by rw[zAm];exact h
 obtain⟨j,_,h2,h3⟩:=jR ka h';exact⟨i+j,Zz,h2,h3⟩
theorem jT{κ:PyProof.Rows.KeyKind}{a:Array Keyed}(ka:KeysOf κ a)(sa:a.toList.Pairwise (leK κ)){i j:Nat}(cm:i<=j)(hj:j<a.size):κ.kle (KK κ a i) (KK κ a j):=by
 obtain⟨p,_,_,e3,e4⟩:=item ka (i:=i) Zz;obtain⟨q,_,_,f3,f4⟩:=item ka (i:=j) hj;rw[e3,f3];refine jQ sa e4 q ?_;have:q∈a.toList.drop j:=by rw[f4];exact Za1
 exact iU cm this
section
variable{prog:Program}{w:World}{A:Around}{E:Value->Shared->Prop}{s:Shared}{κ:PyProof.Rows.KeyKind}{ks:SortKind}{a b:Array Keyed}
theorem je{g:Nat}{Q:Unit->SortSt->Prop}{st:SortSt}(h:∀Zr,SG st Zr->Q () Zr):wpS (model prog w) A E s (jP g) Q st:=wpS_modify (h _ ⟨rfl,rfl,rfl,rfl⟩)
structure At(κ:PyProof.Rows.KeyKind)(a b out:Array Keyed)(ia ib:Nat):Prop where
 mi:MI (leK κ) a.toList b.toList out.toList ia ib
 ha:ia+1<a.size
 hb:ib<b.size
theorem At.pushA{out:Array Keyed}{x:Keyed}(T:Two κ a b)(m:MI (leK κ) a.toList b.toList out.toList ia ib)(e:a.toList.drop ia=x::a.toList.drop (ia+1))(h:∀y∈b.toList.drop ib,leK κ x y):
  MI (leK κ) a.toList b.toList (out.push x).toList (ia+1) ib:=by
 have:=m.segA (k:=1) T.sa λz hz y hy=>by
  rw[e]at hz;have:z=x:=by simpa using hz
  rw[this];exact h y hy
 rw[e]at this;rw[Array.toList_push];exact this
theorem At.pushB{out:Array Keyed}{x:Keyed}(T:Two κ a b)(m:MI (leK κ) a.toList b.toList out.toList ia ib)(e:b.toList.drop ib=x::b.toList.drop (ib+1))(h:∀y∈a.toList.drop ia,leK κ x y):
  MI (leK κ) a.toList b.toList (out.push x).toList ia (ib+1):=by
 have:=m.segB (k:=1) T.sb λz hz y hy=>by
  rw[e]at hz;have:z=x:=by simpa using hz
  rw[this];exact h y hy
 rw[e]at this;rw[Array.toList_push];exact this
theorem At.segA{out:Array Keyed}{k:Nat}(T:Two κ a b)(m:MI (leK κ) a.toList b.toList out.toList ia ib)(h:∀x∈(a.toList.drop ia).take k,∀y∈b.toList.drop ib,leK κ x y):MI (leK κ) a.toList b.toList (out++a.extract ia (ia+k)).toList (ia+k) ib:=by
 have:=m.segA (k:=k) T.sa h;rw[Zaj,gU,show ia+k-ia=k by lia];exact this
theorem At.segB{out:Array Keyed}{k:Nat}(T:Two κ a b)(m:MI (leK κ) a.toList b.toList out.toList ia ib)(h:∀x∈(b.toList.drop ib).take k,∀y∈a.toList.drop ia,leK κ x y):MI (leK κ) a.toList b.toList (out++b.extract ib (ib+k)).toList ia (ib+k):=by
 have:=m.segB (k:=k) T.sb h;rw[Zaj,gU,show ib+k-ib=k by lia];exact this
abbrev Rs(κ:PyProof.Rows.KeyKind)(a b:Array Keyed)(r:Array Keyed):Prop:=Done (leK κ) a.toList b.toList r.toList
def jo(κ:PyProof.Rows.KeyKind)(a b:Array Keyed):Prop:=∀y∈b.toList,∀x∈a.toList.drop (a.size-1),leK κ y x
theorem yo{out:Array Keyed}(T:Two κ a b)(m:MI (leK κ) a.toList b.toList out.toList ia ib)(h:ib=b.size):Rs κ a b (out++a.extract ia a.size++b.extract ib b.size):=by
 have:=m.endB T.sa (by rw[zA9];lia);unfold Rs;rw[Zaj,Zaj,jd,jd];exact this
theorem Ky{out:Array Keyed}(T:Two κ a b)(m:MI (leK κ) a.toList b.toList out.toList ia ib)(h:ia=a.size):Rs κ a b (out++a.extract ia a.size++b.extract ib b.size):=by
 have:=m.endA T.sb (by rw[zA9];lia);unfold Rs;rw[Zaj,Zaj,jd,jd];exact this
theorem yp{out:Array Keyed}(T:Two κ a b)(L:jo κ a b)(m:MI (leK κ) a.toList b.toList out.toList ia ib)(h:ia+1=a.size):Rs κ a b (out++b.extract ib b.size++a.extract ia a.size):=by
 have:=m.last T.sa T.sb λy hy x hx=>L y (List.mem_of_mem_drop hy) x (by rw[show a.size-1=ia by lia];exact hx);unfold Rs;rw[Zaj,Zaj,jd,jd];exact this
theorem wQ(hL:LtAll prog w A E s κ ks)(T:Two κ a b)(L:jo κ a b){g bc:Nat}{out:Array Keyed}{st:SortSt}(hk:kindOf st=ks)(m:At κ a b out ia ib):
  wpS (model prog w) A E s (one a b g out ia ib ac bc) (λr Zr=>Zr=st/\match r with
   |.done c=>(∃z,c.1=some z/\Rs κ a b z)\/(c.1=none/\At κ a b c.2.1 c.2.2.1 c.2.2.2.1/\ia+ib+1=c.2.2.1+c.2.2.2.1)
   |.yield c=>c.1=none/\At κ a b c.2.1 c.2.2.1 c.2.2.2.1/\ia+ib+1=c.2.2.1+c.2.2.2.1) st:=by
 obtain⟨x,x1,x2,x3,x4⟩:=item T.ka (i:=ia) (by have:=m.ha;lia);obtain⟨y,y1,y2,y3,y4⟩:=item T.kb m.hb;unfold one;refine Zaa (bD y1 (Zaa (bD x1 (Zaa (hL st hk _ _ _ _ _ y2 x2 ?_)))))
 cases e:κ.blt (key κ y) (key κ x)with
 |true=>
  dsimp only;rw[zAx rfl];refine Zaa (bD y1 ?_);have m':=At.pushB T m.mi y4 λz hz=>dR (KeyOrd.kle_of_klt e) (jQ T.sa x4 z hz);by_cases hb:ib+1=b.size
  .rw[zAx (by simpa using hb)];exact Zab ⟨rfl,.inl ⟨_,rfl,yo T m' hb⟩⟩
  .rw[zAw (by simpa using hb)]
   have at':At κ a b (out.push y) ia (ib+1):=⟨m',m.ha,by have:=m.hb;lia⟩
   split
   .exact Zab ⟨rfl,.inr ⟨rfl,at',by dsimp only;lia⟩⟩
   .exact Zab ⟨rfl,rfl,at',by dsimp only;lia⟩
 |false=>
  dsimp only;rw[zAw Zx];refine Zaa (bD x1 ?_);have m':=At.pushA T m.mi x4 λz hz=>dR (show leK κ x y from e) (jQ T.sb y4 z hz);by_cases ha:ia+1+1=a.size
  .rw[zAx (by simpa using ha)];exact Zab ⟨rfl,.inl ⟨_,rfl,yp T L m' ha⟩⟩
  .rw[zAw (by simpa using ha)]
   have at':At κ a b (out.push x) (ia+1) ib:=⟨m',by have:=m.ha;lia,m.hb⟩
   split
   .exact Zab ⟨rfl,.inr ⟨rfl,at',by dsimp only;lia⟩⟩
   .exact Zab ⟨rfl,rfl,at',by dsimp only;lia⟩
def G2(κ:PyProof.Rows.KeyKind)(a b:Array Keyed)(n:Nat)(st:SortSt)(r:ForInStep C2)(Zr:SortSt):Prop:=SG st Zr/\match r with
 |.done c=>(∃z,c.1=some z/\Rs κ a b z)\/(c.1=none/\At κ a b c.2.1 c.2.2.1 c.2.2.2.1/\n<=c.2.2.1+c.2.2.2.1)
 |.yield c=>c.1=none/\At κ a b c.2.1 c.2.2.1 c.2.2.2.1/\n<=c.2.2.1+c.2.2.2.1
theorem oV(T:Two κ a b)(L:jo κ a b){g k k1 n:Nat}{out:Array Keyed}{bP st:SortSt}(sg:SG bP st)(m:At κ a b out ia ib)(hn:n<=ia+ib+1)(h:∀y∈b.toList.drop ib,∀x,a[ia]?=some x->leK κ x y):
  wpS (model prog w) A E s (gl4 a b out ia ib g k k1) (G2 κ a b n bP) st:=by
 obtain⟨x,x1,x2,x3,x4⟩:=item T.ka (i:=ia) (by have:=m.ha;lia);unfold gl4;refine Zaa (bD x1 ?_);have m':=At.pushA T m.mi x4 λz hz=>h z hz x x1;by_cases ha:ia+1+1=a.size
 .rw[zAx (by simpa using ha)];exact Zab ⟨sg,.inl ⟨_,rfl,yp T L m' ha⟩⟩
 .rw[zAw (by simpa using ha)]
  have at':At κ a b (out.push x) (ia+1) ib:=⟨m',by have:=m.ha;lia,m.hb⟩
  split
  .exact Zab ⟨sg,.inr ⟨rfl,at',by dsimp only;lia⟩⟩
  .exact Zab ⟨sg,rfl,at',by dsimp only;lia⟩
theorem wR(hL:LtAll prog w A E s κ ks)(T:Two κ a b)(L:jo κ a b){g k bc n:Nat}{out:Array Keyed}{bP st:SortSt}(hk:kindOf st=ks)(sg:SG bP st)(m:At κ a b out ia ib)(hn:n<=ia+ib+1):
  wpS (model prog w) A E s (gl3 a b out ia ib g k bc) (G2 κ a b n bP) st:=by
 obtain⟨x,x1,x2,x3,x4⟩:=item T.ka (i:=ia) (by have:=m.ha;lia);have hb:=m.hb;unfold gl3;refine Zaa (bD x1 ?_);refine Zaa (eQ (κ:=κ) (kk:=key κ x) (hL st hk) x2 Zz (λi hi=>?_) (λi j cm hj kc=>?_) λk1 kn kt kf=>?_)
 .obtain⟨p,p1,p2,p3,_⟩:=item T.kb (i:=ib+i) Zz;exact⟨p,_,p1,p2,p3⟩
 .have mono:=jT T.kb T.sb (i:=ib+i) (j:=ib+j) Zz Zz;exact KeyOrd.klt_of_kle_of_klt mono kc
 .have ip:∀y∈b.toList.drop (ib+k1),∀z,a[ia]?=some z->leK κ z y:=λy hy z hz=>by
   rw[x1]at hz;cases hz;obtain⟨j,j1,j2,j3⟩:=oU T.kb hy;have:=kf (j-ib) Zz Zz;rw[show ib+(j-ib)=j by lia,j3]at this;exact this
  by_cases h0:k1>0
  .dsimp only;rw[zAx h0]
   have m':=At.segB (k:=k1) T m.mi λz hz y hy=>by
    obtain⟨j,j1,j2,j3⟩:=jR T.kb hz;have:=kt j j1;rw[j3]at this;exact dR (KeyOrd.kle_of_klt this) (jQ T.sa x4 y hy)
   by_cases e:ib+k1=b.size
   .rw[zAx (by simpa using e)];exact Zab ⟨sg,.inl ⟨_,rfl,yo T m' e⟩⟩
   .rw[zAw (by simpa using e)];exact oV T L sg ⟨m',m.ha,Zz⟩ Zz ip
  .dsimp only;rw[zAw h0];have e:k1=0:=Zz
   rw[e]at ip;exact oV T L sg m hn ip
theorem oW(hL:LtAll prog w A E s κ ks)(T:Two κ a b)(L:jo κ a b){g k bc n:Nat}{out:Array Keyed}{bP st:SortSt}(hk:kindOf st=ks)(sg:SG bP st)(m:At κ a b out ia ib)(hn:n<=ia+ib+1)(h:∀x∈a.toList.drop ia,∀y,b[ib]?=some y->leK κ y x):
  wpS (model prog w) A E s (gl2 a b out ia ib g k bc) (G2 κ a b n bP) st:=by
 obtain⟨y,y1,y2,y3,y4⟩:=item T.kb m.hb;unfold gl2;refine Zaa (bD y1 ?_);have m':=At.pushB T m.mi y4 λz hz=>h z hz y y1;by_cases hb:ib+1=b.size
 .rw[zAx (by simpa using hb)];exact Zab ⟨sg,.inl ⟨_,rfl,yo T m' hb⟩⟩
 .rw[zAw (by simpa using hb)];exact wR hL T L hk sg ⟨m',m.ha,by have:=m.hb;lia⟩ Zz
theorem wU(hL:LtAll prog w A E s κ ks)(T:Two κ a b)(L:jo κ a b){g bc n:Nat}{out:Array Keyed}{bP st:SortSt}(hk:kindOf st=ks)(sg:SG bP st)(m:At κ a b out ia ib)(hn:n<=ia+ib+1):
  wpS (model prog w) A E s (gl1 a b out ia ib g ac bc) (G2 κ a b n bP) st:=by
 obtain⟨y,y1,y2,y3,y4⟩:=item T.kb m.hb;have ha:=m.ha;unfold gl1;refine Zaa (je λZr gL=>?_);have df:kindOf Zr=ks:=gL.kind.trans hk
 have bX:SG bP Zr:=⟨gL.kind.trans sg.kind,gL.arr.trans sg.arr,gL.pend.trans sg.pend,gL.fail.trans sg.fail⟩
 refine Zaa (bD y1 ?_);refine Zaa (eQ (κ:=κ) (kk:=key κ y) (hL Zr df) y2 Zz (λi hi=>?_) (λi j cm hj kc=>?_) λk kn kt kf=>?_)
 .obtain⟨p,p1,p2,p3,_⟩:=item T.ka (i:=ia+i) Zz;exact⟨p,_,p1,p2,p3⟩
 .have mono:=jT T.ka T.sa (i:=ia+i) (j:=ia+j) Zz Zz;have kc:(!κ.blt (key κ y) (KK κ a (ia+j)))=true:=kc;show(!κ.blt (key κ y) (KK κ a (ia+i)))=true;rw[Za4]at kc⊢;exact KeyOrd.kle_trans mono kc
 .have ip:∀x∈a.toList.drop (ia+k),∀z,b[ib]?=some z->leK κ z x:=λx hx z hz=>by
   rw[y1]at hz;cases hz;obtain⟨j,j1,j2,j3⟩:=oU T.ka hx;have:=kf (j-ia) Zz Zz;rw[show ia+(j-ia)=j by lia,j3]at this;have this:(!κ.blt (key κ y) (key κ x))=false:=this;rw[Bool.not_eq_false']at this;exact KeyOrd.kle_of_klt this
  by_cases h0:k>0
  .dsimp only;rw[zAx h0]
   have m':=At.segA (k:=k) T m.mi λz hz x hx=>by
    obtain⟨j,j1,j2,j3⟩:=jR T.ka hz;have:=kt j j1;rw[j3]at this;have this:(!κ.blt (key κ y) (key κ z))=true:=this;rw[Za4]at this;exact dR (show leK κ z y from this) (jQ T.sb y4 x hx)
   by_cases e:ia+k+1=a.size
   .rw[zAx (by simpa using e)];exact Zab ⟨bX,.inl ⟨_,rfl,yp T L m' e⟩⟩
   .rw[zAw (by simpa using e)];by_cases e2:ia+k=a.size
    .rw[zAx (by simpa using e2)];exact Zab ⟨bX,.inl ⟨_,rfl,Ky T m' e2⟩⟩
    .rw[zAw (by simpa using e2)];exact oW hL T L df bX ⟨m',Zz,m.hb⟩ Zz ip
  .dsimp only;rw[zAw h0];have e:k=0:=Zz
   rw[e]at ip;exact oW hL T L df bX m hn ip
theorem oX(hL:LtAll prog w A E s κ ks)(T:Two κ a b)(L:jo κ a b){g:Nat}{out:Array Keyed}{bP st:SortSt}(hk:kindOf st=ks)(sg:SG bP st)(m:At κ a b out ia ib):
  wpS (model prog w) A E s (round a b out ia ib g) (λr Zr=>SG bP Zr/\match r with
   |.done c=>∃z,c.1=some z/\Rs κ a b z
   |.yield c=>c.1=none/\At κ a b c.2.1 c.2.2.1 c.2.2.2.1/\ia+ib+1<=c.2.2.1+c.2.2.2.1) st:=by
 unfold round;have Qx:0<a.size+b.size:=by have:=m.ha;lia
 refine Zaa (wpS_mono (wpS_forRange (I:=λx c Zr=>Zr=st/\c.1=none/\At κ a b c.2.1 c.2.2.1 c.2.2.2.1/\ia+ib+x=c.2.2.1+c.2.2.2.1)
  (Q:=λc Zr=>Zr=st/\((∃z,c.1=some z/\Rs κ a b z)\/(c.1=none/\At κ a b c.2.1 c.2.2.1 c.2.2.2.1/\ia+ib+1<=c.2.2.1+c.2.2.2.1))) ?_ ?_ ⟨rfl,rfl,m,rfl⟩) ?_)
 .rintro x ⟨c0,o,i,j,ac,bc⟩ Zr _ hx ⟨rfl,rfl,m',e⟩;dsimp only at m' e⊢;refine wpS_mono (wQ hL T L hk m') λr st2 h2=>?_;obtain⟨rfl,h2⟩:=h2
  cases r with
  |done c=>
   rcases h2 with h2|⟨h2,h3,h4⟩
   .exact⟨rfl,.inl h2⟩
   .exact⟨rfl,.inr ⟨h2,h3,Zz⟩⟩
  |yield c=>
   obtain⟨h2,h3,h4⟩:=h2;exact⟨rfl,h2,h3,Zz⟩
 .rintro c Zr ⟨rfl,h1,h2,h3⟩;exact⟨rfl,.inr ⟨h1,h2,Zz⟩⟩
 .rintro⟨c0,o,i,j,ac,bc⟩ Zr ⟨rfl,h⟩;dsimp only at h⊢;rcases h with⟨z,rfl,hz⟩|⟨rfl,m',cm⟩
  .exact Zab ⟨sg,z,rfl,hz⟩
  .dsimp only;refine Zaa (wpS_lift (wpAny_rule ⟨rfl,?_⟩))
   refine Zaa (wpS_mono (wpS_forRange (I:=λx c st2=>SG bP st2/\c.1=none/\At κ a b c.2.1 c.2.2.1 c.2.2.2.1/\ia+ib+1<=c.2.2.1+c.2.2.2.1)
    (Q:=λc st2=>SG bP st2/\((∃z,c.1=some z/\Rs κ a b z)\/(c.1=none/\At κ a b c.2.1 c.2.2.1 c.2.2.2.1/\ia+ib+1<=c.2.2.1+c.2.2.2.1))) ?_ ?_ ⟨sg,rfl,m',cm⟩) ?_)
   .rintro x ⟨c0,o,i,j,g2,ac,bc⟩ st2 _ hx ⟨bX,rfl,m2,e2⟩;dsimp only at m2 e2⊢;have BM:kindOf st2=ks:=bX.kind.trans (sg.kind.symm.trans hk);have go:∀g',wpS (model prog w) A E s (gl1 a b o i j g' ac bc) (G2 κ a b (ia+ib+1) bP) st2:=λg'=>wU hL T L BM bX m2 Zz;unfold gal;split
    .refine wpS_mono (go _) λr iL h3=>?_;obtain⟨h3,h4⟩:=h3
     cases r with
     |done c=>exact⟨h3,h4⟩
     |yield c=>exact⟨h3,h4⟩
    .refine wpS_mono (go _) λr iL h3=>?_;obtain⟨h3,h4⟩:=h3
     cases r with
     |done c=>exact⟨h3,h4⟩
     |yield c=>exact⟨h3,h4⟩
   .rintro c st2 ⟨h0,h1,h2,h3⟩;exact⟨h0,.inr ⟨h1,h2,h3⟩⟩
   .rintro⟨c0,o,i,j,g2,ac,bc⟩ st2 ⟨bX,h⟩;dsimp only at h⊢;rcases h with⟨z,rfl,hz⟩|⟨rfl,m2,wc⟩
    .exact Zab ⟨bX,z,rfl,hz⟩
    .dsimp only;refine Zaa (je λiL oQ=>Zab ⟨⟨oQ.kind.trans bX.kind,oQ.arr.trans bX.arr,oQ.pend.trans bX.pend,oQ.fail.trans bX.fail⟩,rfl,m2,wc⟩)
theorem Kz(hL:LtAll prog w A E s κ ks)(T:Two κ a b)(L:jo κ a b)(ha:0<a.size)(hb:0<b.size)(F:∀x∈a.toList,∀y,b[0]?=some y->leK κ y x){st:SortSt}(hk:kindOf st=ks){Q:Array Keyed->SortSt->Prop}
  (h:∀r Zr,SG st Zr->Rs κ a b r->Q r Zr):wpS (model prog w) A E s (jO a b) Q st:=by
 rw[Kw];obtain⟨y,y1,y2,y3,y4⟩:=item T.kb hb;refine Zaa (wpS_lift (wpAny_rule ⟨rfl,?_⟩));refine Zaa (bD y1 ?_)
 have m0:MI (leK κ) a.toList b.toList ([]:List Keyed) 0 0:=⟨by simp,.nil,λx hx=>absurd hx Zy⟩
 have m:MI (leK κ) a.toList b.toList (#[y]:Array Keyed).toList 0 1:=by
  have:=At.pushB (out:=#[]) T m0 y4 λz hz=>F z hz y y1;exact this
 by_cases e1:1=b.size
 .rw[zAx (by simpa using e1)];exact Zab (h _ st (SG.refl _) (yo T m e1))
 .rw[zAw (by simpa using e1)];by_cases e2:0+1=a.size
  .rw[zAx (by simpa using e2)];exact Zab (h _ st (SG.refl _) (yp T L m e2))
  .rw[zAw (by simpa using e2)];refine Zaa (wpS_get ?_)
   refine Zaa (wpS_mono (wpS_forRange (I:=λx c Zr=>SG st Zr/\c.1=none/\At κ a b c.2.1 c.2.2.1 c.2.2.2.1/\1+x<=c.2.2.1+c.2.2.2.1)
    (Q:=λc Zr=>SG st Zr/\∃z,c.1=some z/\Rs κ a b z) ?_ ?_ ⟨SG.refl _,rfl,⟨m,by dsimp only;lia,by dsimp only;lia⟩,by dsimp only;lia⟩) ?_)
   .rintro x ⟨c0,o,i,j,g⟩ Zr _ hx ⟨sg,rfl,m',e⟩;dsimp only at m' e⊢;refine wpS_mono (oX hL T L (sg.kind.trans hk) sg m') λr st2 h2=>?_;obtain⟨bX,h2⟩:=h2
    cases r with
    |done c=>exact⟨bX,h2⟩
    |yield c=>
     obtain⟨h2,h3,h4⟩:=h2;exact⟨bX,h2,h3,Zz⟩
   .rintro c Zr ⟨sg,h1,m',e⟩;have:=m'.ha;have:=m'.hb;exact absurd e Zz
   .rintro⟨c0,o,i,j,g⟩ Zr ⟨sg,z,e,hz⟩;dsimp only at e;rw[e];exact Zab (h z Zr sg hz)
end
def jU:Array Keyed->Array Keyed->Sm (Array Keyed):=sortPriv% PySem.Builtin.mergeHi
namespace Hi
abbrev dn(a b out:Array Keyed)(na nb:Nat):Array Keyed:=a.extract 0 na++b.extract 0 nb++out.reverse
abbrev fb(a b out:Array Keyed)(na nb:Nat):Array Keyed:=b.extract 0 nb++a.extract 0 na++out.reverse
abbrev H1:=Option (Array Keyed)×Nat×Nat×Array Keyed×Nat×Nat
abbrev H2:=Option (Array Keyed)×Nat×Nat×Array Keyed×Nat×Nat×Nat
abbrev H0:=Option (Array Keyed)×Nat×Nat×Array Keyed×Nat
def one(a b:Array Keyed)(g:Nat)(na nb:Nat)(out:Array Keyed)(ac bc:Nat):Sm (ForInStep H1):=do
 let y <-elem' b (nb-1)
 let x <-elem' a (na-1)
 let r <-lt' y x
 match r with
 |some w=>
  if w=true then do
   let x <-elem' a (na-1)
   if(na-1==0)=true then pure (ForInStep.done (some (dn a b (out.push x) (na-1) nb),na-1,nb,out.push x,ac+1,0))
   else if ac+1≥g then pure (ForInStep.done (none,na-1,nb,out.push x,ac+1,0))else pure (ForInStep.yield (none,na-1,nb,out.push x,ac+1,0))
  else do
   let y <-elem' b (nb-1)
   if(nb-1==1)=true then pure (ForInStep.done (some (fb a b (out.push y) na (nb-1)),na,nb-1,out.push y,0,bc+1))
   else if bc+1≥g then pure (ForInStep.done (none,na,nb-1,out.push y,0,bc+1))else pure (ForInStep.yield (none,na,nb-1,out.push y,0,bc+1))
 |_=>pure (ForInStep.done (some (dn a b out na nb),na,nb,out,ac,bc))
def gl4(a b:Array Keyed)(na nb:Nat)(out:Array Keyed)(g k k1:Nat):Sm (ForInStep H2):=do
 let x <-elem' a (na-1)
 if(na-1==0)=true then pure (ForInStep.done (some (dn a b (out.push x) (na-1) nb),na-1,nb,out.push x,g,k,k1))
 else if(decide (k<7)&&decide (k1<7))=true then pure (ForInStep.done (none,na-1,nb,out.push x,g,k,k1))else pure (ForInStep.yield (none,na-1,nb,out.push x,g,k,k1))
def gl3(a b:Array Keyed)(na nb:Nat)(out:Array Keyed)(g k bc:Nat):Sm (ForInStep H2):=do
 let x <-elem' a (na-1)
 let r <-gF true x b 0 nb (nb-1)
 match r with
 |some t=>
  if nb-t>0 then
   if(t==1)=true then pure (ForInStep.done (some (fb a b (out++(b.extract t nb).reverse) na t),na,t,out++(b.extract t nb).reverse,g,k,nb-t))
   else if(t==0)=true then pure (ForInStep.done (some (dn a b (out++(b.extract t nb).reverse) na t),na,t,out++(b.extract t nb).reverse,g,k,nb-t))
   else gl4 a b na t (out++(b.extract t nb).reverse) g k (nb-t)
  else gl4 a b na nb out g k (nb-t)
 |_=>pure (ForInStep.done (some (dn a b out na nb),na,nb,out,g,k,bc))
def gl2(a b:Array Keyed)(na nb:Nat)(out:Array Keyed)(g k bc:Nat):Sm (ForInStep H2):=do
 let y <-elem' b (nb-1)
 if(nb-1==1)=true then pure (ForInStep.done (some (fb a b (out.push y) na (nb-1)),na,nb-1,out.push y,g,k,bc))
 else gl3 a b na (nb-1) (out.push y) g k bc
def gl1(a b:Array Keyed)(na nb:Nat)(out:Array Keyed)(g ac bc:Nat):Sm (ForInStep H2):=do
 jP g
 let y <-elem' b (nb-1)
 let r <-gF false y a 0 na (na-1)
 match r with
 |some t=>
  if na-t>0 then
   if(t==0)=true then pure (ForInStep.done (some (dn a b (out++(a.extract t na).reverse) t nb),t,nb,out++(a.extract t na).reverse,g,na-t,bc))
   else gl2 a b t nb (out++(a.extract t na).reverse) g (na-t) bc
  else gl2 a b na nb out g (na-t) bc
 |_=>pure (ForInStep.done (some (dn a b out na nb),na,nb,out,g,ac,bc))
def gal(a b:Array Keyed)(na nb:Nat)(out:Array Keyed)(g ac bc:Nat):Sm (ForInStep H2):=if g>1 then gl1 a b na nb out (g-1) ac bc else gl1 a b na nb out g ac bc
def round(a b:Array Keyed)(na nb:Nat)(out:Array Keyed)(g:Nat):Sm (ForInStep H0):=do
 let c <-forIn [0:a.size+b.size] ((none,na,nb,out,0,0):H1) λ_ c=>one a b g c.2.1 c.2.2.1 c.2.2.2.1 c.2.2.2.2.1 c.2.2.2.2.2
 match c.1 with
 |some r=>pure (ForInStep.done (some r,c.2.1,c.2.2.1,c.2.2.2.1,g))
 |none=>do
  liftM (rule "list.sort.gallop")
  let d <-forIn [0:a.size+b.size] ((none,c.2.1,c.2.2.1,c.2.2.2.1,g+1,c.2.2.2.2.1,c.2.2.2.2.2):H2) λ_ d=>gal a b d.2.1 d.2.2.1 d.2.2.2.1 d.2.2.2.2.1 d.2.2.2.2.2.1 d.2.2.2.2.2.2
  match d.1 with
  |some r=>pure (ForInStep.done (some r,d.2.1,d.2.2.1,d.2.2.2.1,d.2.2.2.2.1))
  |none=>do
   jP (d.2.2.2.2.1+1)
   pure (ForInStep.yield (none,d.2.1,d.2.2.1,d.2.2.2.1,d.2.2.2.2.1+1))
theorem KC(a b:Array Keyed):jU a b=(do
  liftM (rule "list.sort.merge-hi")
  let e <-elem' a (a.size-1)
  if(a.size-1==0)=true then pure (dn a b #[e] (a.size-1) b.size)
  else if(b.size==1)=true then pure (fb a b #[e] (a.size-1) b.size)
  else do
   let s <-get
   let c <-forIn [0:a.size+b.size] ((none,a.size-1,b.size,#[e],gallopOf s):H0) λ_ c=>round a b c.2.1 c.2.2.1 c.2.2.2.1 c.2.2.2.2
   match c.1 with
   |some r=>pure r
   |none=>liftM (unsupported "internal:list.sort.merge-bound")):=by
 delta jU
 refine bc rfl (funext λu=>bc rfl (funext λe=>ic rfl (ic rfl (bc rfl (funext λs=>bc (fi (funext λx=>funext λc=>?_)) (funext λc=>?_))))))
 .unfold round;refine bc (fi (funext λx=>funext λc1=>?_)) (funext λc1=>?_)
  .unfold one;refine bc rfl (funext λy=>bc rfl (funext λx=>bc rfl (funext λr=>?_)))
   cases r with
   |none=>rfl
   |some w=>exact ic (bc rfl (funext λy=>ic rfl (ic rfl rfl))) (bc rfl (funext λy=>ic rfl (ic rfl rfl)))
  .obtain⟨r,c1⟩:=c1
   cases r with
   |some r=>rfl
   |none=>
    refine bc rfl (funext λu=>bc (fi (funext λx=>funext λd=>?_)) (funext λd=>?_))
    .unfold gal;refine ic ?_ ?_
     .unfold gl1;exact bc rfl (funext λu=>bc rfl (funext λy=>bc rfl (funext λr=>by cases r with|none=>rfl|some k=>exact ic (ic rfl (by unfold gl2;exact bc rfl (funext λy=>ic rfl (by unfold gl3;exact bc rfl (funext λx=>bc rfl (funext λr=>by cases r with|none=>rfl|some k1=>exact ic (ic rfl (ic rfl (by unfold gl4;exact bc rfl (funext λx=>ic rfl (ic rfl rfl))))) (by unfold gl4;exact bc rfl (funext λx=>ic rfl (ic rfl rfl))))))))) (by unfold gl2;exact bc rfl (funext λy=>ic rfl (by unfold gl3;exact bc rfl (funext λx=>bc rfl (funext λr=>by cases r with|none=>rfl|some k1=>exact ic (ic rfl (ic rfl (by unfold gl4;exact bc rfl (funext λx=>ic rfl (ic rfl rfl))))) (by unfold gl4;exact bc rfl (funext λx=>ic rfl (ic rfl rfl)))))))))))
     .unfold gl1;exact bc rfl (funext λu=>bc rfl (funext λy=>bc rfl (funext λr=>by cases r with|none=>rfl|some k=>exact ic (ic rfl (by unfold gl2;exact bc rfl (funext λy=>ic rfl (by unfold gl3;exact bc rfl (funext λx=>bc rfl (funext λr=>by cases r with|none=>rfl|some k1=>exact ic (ic rfl (ic rfl (by unfold gl4;exact bc rfl (funext λx=>ic rfl (ic rfl rfl))))) (by unfold gl4;exact bc rfl (funext λx=>ic rfl (ic rfl rfl))))))))) (by unfold gl2;exact bc rfl (funext λy=>ic rfl (by unfold gl3;exact bc rfl (funext λx=>bc rfl (funext λr=>by cases r with|none=>rfl|some k1=>exact ic (ic rfl (ic rfl (by unfold gl4;exact bc rfl (funext λx=>ic rfl (ic rfl rfl))))) (by unfold gl4;exact bc rfl (funext λx=>ic rfl (ic rfl rfl)))))))))))
    .obtain⟨r,d⟩:=d;cases r<;>rfl
 .obtain⟨r,c⟩:=c;cases r<;>rfl
section
variable{α:Type}{le:α->α->Prop}
structure MH(le:α->α->Prop)(la lb lo:List α)(na nb:Nat):Prop where
 pm:lo.Perm (la.drop na++lb.drop nb)
 sr:lo.Pairwise le
 be:∀x∈lo,∀y,y∈la.take na\/y∈lb.take nb->le y x
theorem yq{l:List α}{i j:Nat}{y:α}(h:i<=j)(hy:y∈l.take i):y∈l.take j:=by
 rw[show i=min i j by lia,<-List.take_take]at hy;exact Zaq hy
theorem cut_drop{l:List α}{t n:Nat}(h:t<=n)(hn:n<=l.length):(l.take n).drop t++l.drop n=l.drop t:=by
 have e:=zBf n l;have:(l.take n++l.drop n).drop t=(l.take n).drop t++l.drop n:=List.drop_append_of_le_length (by rw[zAd];lia);rw[e]at this;exact this.symm
theorem CG{l:List α}(hp:l.Pairwise le){t n:Nat}(h:t<=n):∀y∈l.take t,∀x∈(l.take n).drop t,le y x:=by
 have h2:(l.take n).Pairwise le:=hp.sublist (Za3 _ _);have e:=zBf t (l.take n);rw[<-e]at h2;rw[List.take_take,show min t n=t by lia]at h2;exact λy hy x hx=>(Zah.mp h2).2.2 y hy x hx
theorem MH.segA{la lb lo:List α}{t:Nat}(m:MH le la lb lo na nb)(sa:la.Pairwise le)(ht:t<=na)(hn:na<=la.length)(h:∀x∈(la.take na).drop t,∀y∈lb.take nb,le y x):MH le la lb ((la.take na).drop t++lo) t nb:=by
 refine⟨?_,Zah.mpr ⟨(sa.sublist (Za3 _ _)).sublist (Zax _ _),m.sr,λx hx y hy=>m.be y hy x (.inl (List.mem_of_mem_drop hx))⟩,λx hx y hy=>?_⟩
 .refine(List.Perm.append_left _ m.pm).trans ?_;rw[<-zAf,cut_drop ht hn]
 .rcases zA6.mp hx with z|z
  .rcases hy with hy|hy
   .exact CG sa ht y hy x z
   .exact h x z y hy
  .exact m.be x z y (hy.imp (yq ht) id)
theorem MH.segB{la lb lo:List α}{t:Nat}(m:MH le la lb lo na nb)(sb:lb.Pairwise le)(ht:t<=nb)(hn:nb<=lb.length)(h:∀x∈(lb.take nb).drop t,∀y∈la.take na,le y x):MH le la lb ((lb.take nb).drop t++lo) na t:=by
 refine⟨?_,Zah.mpr ⟨(sb.sublist (Za3 _ _)).sublist (Zax _ _),m.sr,λx hx y hy=>m.be y hy x (.inr (List.mem_of_mem_drop hx))⟩,λx hx y hy=>?_⟩
 .refine(List.Perm.append_left _ m.pm).trans ?_;refine(List.perm_append_comm_assoc _ _ _).trans ?_;rw[cut_drop ht hn]
 .rcases zA6.mp hx with z|z
  .rcases hy with hy|hy
   .exact h x z y hy
   .exact CG sb ht y hy x z
  .exact m.be x z y (hy.imp id (yq ht))
theorem MH.first{la lb lo:List α}(m:MH le la lb lo na nb)(sa:la.Pairwise le)(sb:lb.Pairwise le)(h:∀y∈lb.take nb,∀x∈la.take na,le y x):Done le la lb (lb.take nb++la.take na++lo):=by
 refine⟨?_,Zah.mpr ⟨Zah.mpr ⟨sb.sublist (Za3 _ _),sa.sublist (Za3 _ _),h⟩,m.sr,λx hx y hy=>m.be y hy x ((zA6.mp hx).symm)⟩⟩;refine(List.Perm.append_left _ m.pm).trans ?_
 have e:lb.take nb++la.take na++(la.drop na++lb.drop nb)=lb.take nb++(la++lb.drop nb):=by
  rw[zAf,<-zAf (la.take na),zBf]
 rw[e];refine(List.perm_append_comm_assoc _ _ _).trans ?_;rw[zBf]
theorem MH.endA{la lb lo:List α}(m:MH le la lb lo 0 nb)(sa:la.Pairwise le)(sb:lb.Pairwise le):Done le la lb (la.take 0++lb.take nb++lo):=by
 have:=m.first sa sb λy _ x hx=>absurd hx Zy
 rw[Zay,zAn]at this;rw[Zay,List.nil_append];exact this
theorem MH.endB{la lb lo:List α}(m:MH le la lb lo na 0)(sa:la.Pairwise le)(sb:lb.Pairwise le):Done le la lb (la.take na++lb.take 0++lo):=by
 have:=m.first sa sb λy hy x _=>absurd hy Zy
 rw[Zay,List.nil_append]at this;rw[Zay,zAn];exact this
end
section
variable{prog:Program}{w:World}{A:Around}{E:Value->Shared->Prop}{s:Shared}{κ:PyProof.Rows.KeyKind}{ks:SortKind}{a b:Array Keyed}
theorem Af(a:Array Keyed)(n:Nat):(a.extract 0 n).toList=a.toList.take n:=by
 rw[gU];simp
theorem ext_cut(a:Array Keyed)(t n:Nat):(a.extract t n).toList=(a.toList.take n).drop t:=by
 rw[gU,List.drop_take]
theorem uY(out:Array Keyed)(x:Keyed):(out.push x).reverse.toList=x::out.reverse.toList:=by simp
theorem yt(out seg:Array Keyed):(out++seg.reverse).reverse.toList=seg.toList++out.reverse.toList:=by simp
abbrev Mh(κ:PyProof.Rows.KeyKind)(a b out:Array Keyed)(na nb:Nat):Prop:=MH (leK κ) a.toList b.toList out.reverse.toList na nb
structure At(κ:PyProof.Rows.KeyKind)(a b out:Array Keyed)(na nb:Nat):Prop where
 mi:Mh κ a b out na nb
 a1:1<=na
 a2:na<=a.size
 b1:2<=nb
 b2:nb<=b.size
theorem iu{κ:PyProof.Rows.KeyKind}{a:Array Keyed}(ka:KeysOf κ a){n:Nat}(h1:1<=n)(h2:n<=a.size):∃p,a[n-1]?=some p/\κ.keyOf p.1=some (key κ p)/\KK κ a (n-1)=key κ p/\(a.toList.take n).drop (n-1)=[p]:=by
 obtain⟨p,p1,p2,p3,p4⟩:=item ka (i:=n-1) Zz;refine⟨p,p1,p2,p3,?_⟩;rw[List.drop_take,p4,show n-(n-1)=1 by lia];rfl
theorem take_key{κ:PyProof.Rows.KeyKind}{a:Array Keyed}(ka:KeysOf κ a){n t:Nat}{x:Keyed}(h:x∈(a.toList.take n).drop t):∃j,t<=j/\j<n/\j<a.size/\KK κ a j=key κ x:=by
 rw[List.drop_take]at h;obtain⟨j,j1,j2,j3⟩:=jR ka h;exact⟨t+j,Zz,Zz,j2,j3⟩
theorem take_key0{κ:PyProof.Rows.KeyKind}{a:Array Keyed}(ka:KeysOf κ a){n:Nat}{x:Keyed}(h:x∈a.toList.take n):∃j,j<n/\j<a.size/\KK κ a j=key κ x:=by
 have h':x∈(a.toList.take n).drop 0:=by rw[List.drop_zero];exact h
 obtain⟨j,_,j1,j2,j3⟩:=take_key ka h';exact⟨j,j1,j2,j3⟩
theorem yu{κ:PyProof.Rows.KeyKind}{a:Array Keyed}(ka:KeysOf κ a)(sa:a.toList.Pairwise (leK κ)){n:Nat}{p:Keyed}(h1:1<=n)(h2:n<=a.size)(e:KK κ a (n-1)=key κ p):∀y∈a.toList.take n,leK κ y p:=λy hy=>by
 obtain⟨j,j1,j2,j3⟩:=take_key0 ka hy;have:=jT ka sa (i:=j) (j:=n-1) Zz Zz;rw[j3,e]at this;exact this
theorem pushA{out:Array Keyed}{x:Keyed}(T:Two κ a b)(m:Mh κ a b out na nb)(h1:1<=na)(h2:na<=a.size)(e:(a.toList.take na).drop (na-1)=[x])(h:∀y∈b.toList.take nb,leK κ y x):Mh κ a b (out.push x) (na-1) nb:=by
 have:=MH.segA (t:=na-1) m T.sa Zz (by rw[zA9];exact h2) λz hz y hy=>by
  rw[e]at hz;rw[Zae.mp hz];exact h y hy
 rw[e]at this;unfold Mh;rw[uY];exact this
theorem pushB{out:Array Keyed}{x:Keyed}(T:Two κ a b)(m:Mh κ a b out na nb)(h1:1<=nb)(h2:nb<=b.size)(e:(b.toList.take nb).drop (nb-1)=[x])(h:∀y∈a.toList.take na,leK κ y x):Mh κ a b (out.push x) na (nb-1):=by
 have:=MH.segB (t:=nb-1) m T.sb Zz (by rw[zA9];exact h2) λz hz y hy=>by
  rw[e]at hz;rw[Zae.mp hz];exact h y hy
 rw[e]at this;unfold Mh;rw[uY];exact this
theorem KD{out:Array Keyed}{t:Nat}(T:Two κ a b)(m:Mh κ a b out na nb)(ht:t<=na)(h2:na<=a.size)(h:∀x∈(a.toList.take na).drop t,∀y∈b.toList.take nb,leK κ y x):Mh κ a b (out++(a.extract t na).reverse) t nb:=by
 have:=MH.segA m T.sa ht (by rw[zA9];exact h2) h;unfold Mh;rw[yt,ext_cut];exact this
theorem KH{out:Array Keyed}{t:Nat}(T:Two κ a b)(m:Mh κ a b out na nb)(ht:t<=nb)(h2:nb<=b.size)(h:∀x∈(b.toList.take nb).drop t,∀y∈a.toList.take na,leK κ y x):Mh κ a b (out++(b.extract t nb).reverse) na t:=by
 have:=MH.segB m T.sb ht (by rw[zA9];exact h2) h;unfold Mh;rw[yt,ext_cut];exact this
def FirstB(κ:PyProof.Rows.KeyKind)(a b:Array Keyed):Prop:=∀y∈b.toList.take 1,∀x∈a.toList,leK κ y x
theorem e_a{out:Array Keyed}(T:Two κ a b)(m:Mh κ a b out na nb)(h:na=0):Rs κ a b (dn a b out na nb):=by
 subst h;have:=MH.endA m T.sa T.sb;unfold Rs dn;rw[Zaj,Zaj,Af,Af];exact this
theorem e_b{out:Array Keyed}(T:Two κ a b)(m:Mh κ a b out na nb)(h:nb=0):Rs κ a b (dn a b out na nb):=by
 subst h;have:=MH.endB m T.sa T.sb;unfold Rs dn;rw[Zaj,Zaj,Af,Af];exact this
theorem e_f{out:Array Keyed}(T:Two κ a b)(F:FirstB κ a b)(m:Mh κ a b out na nb)(h:nb=1):Rs κ a b (fb a b out na nb):=by
 subst h
 have:=MH.first m T.sa T.sb λy hy x hx=>F y hy x (Zaq hx)
 unfold Rs fb;rw[Zaj,Zaj,Af,Af];exact this
theorem wQ(hL:LtAll prog w A E s κ ks)(T:Two κ a b)(F:FirstB κ a b){g bc:Nat}{out:Array Keyed}{st:SortSt}(hk:kindOf st=ks)(m:At κ a b out na nb):
  wpS (model prog w) A E s (one a b g na nb out ac bc) (λr Zr=>Zr=st/\match r with
   |.done c=>(∃z,c.1=some z/\Rs κ a b z)\/(c.1=none/\At κ a b c.2.2.2.1 c.2.1 c.2.2.1/\c.2.1+c.2.2.1+1=na+nb)
   |.yield c=>c.1=none/\At κ a b c.2.2.2.1 c.2.1 c.2.2.1/\c.2.1+c.2.2.1+1=na+nb) st:=by
 obtain⟨mi,a1,a2,b1,b2⟩:=m;obtain⟨x,x1,x2,x3,x4⟩:=iu T.ka a1 a2;obtain⟨y,y1,y2,y3,y4⟩:=iu T.kb (show 1<=nb by lia) b2;unfold one;refine Zaa (bD y1 (Zaa (bD x1 (Zaa (hL st hk _ _ _ _ _ y2 x2 ?_)))))
 cases e:κ.blt (key κ y) (key κ x)with
 |true=>
  dsimp only;rw[zAx rfl];refine Zaa (bD x1 ?_);have m':=pushA T mi a1 a2 x4 λz hz=>dR (yu T.kb T.sb Zz b2 y3 z hz) (KeyOrd.kle_of_klt e);by_cases h0:na-1=0
  .rw[zAx (by simpa using h0)];exact Zab ⟨rfl,.inl ⟨_,rfl,e_a T m' h0⟩⟩
  .rw[zAw (by simpa using h0)]
   have at':At κ a b (out.push x) (na-1) nb:=⟨m',Zz,Zz,b1,b2⟩
   split
   .exact Zab ⟨rfl,.inr ⟨rfl,at',by dsimp only;lia⟩⟩
   .exact Zab ⟨rfl,rfl,at',by dsimp only;lia⟩
 |false=>
  dsimp only;rw[zAw Zx];refine Zaa (bD y1 ?_);have m':=pushB T mi Zz b2 y4 λz hz=>dR (yu T.ka T.sa a1 a2 x3 z hz) (show leK κ x y from e);by_cases h0:nb-1=1
  .rw[zAx (by simpa using h0)];exact Zab ⟨rfl,.inl ⟨_,rfl,e_f T F m' h0⟩⟩
  .rw[zAw (by simpa using h0)]
   have at':At κ a b (out.push y) na (nb-1):=⟨m',a1,a2,Zz,Zz⟩
   split
   .exact Zab ⟨rfl,.inr ⟨rfl,at',by dsimp only;lia⟩⟩
   .exact Zab ⟨rfl,rfl,at',by dsimp only;lia⟩
def G2(κ:PyProof.Rows.KeyKind)(a b:Array Keyed)(n:Nat)(st:SortSt)(r:ForInStep H2)(Zr:SortSt):Prop:=SG st Zr/\match r with
 |.done c=>(∃z,c.1=some z/\Rs κ a b z)\/(c.1=none/\At κ a b c.2.2.2.1 c.2.1 c.2.2.1/\c.2.1+c.2.2.1<n)
 |.yield c=>c.1=none/\At κ a b c.2.2.2.1 c.2.1 c.2.2.1/\c.2.1+c.2.2.1<n
theorem oV(T:Two κ a b){g k k1 n:Nat}{out:Array Keyed}{bP st:SortSt}(sg:SG bP st)(m:At κ a b out na nb)(hn:na+nb<=n)(h:∀y∈b.toList.take nb,∀x,a[na-1]?=some x->leK κ y x):
  wpS (model prog w) A E s (gl4 a b na nb out g k k1) (G2 κ a b n bP) st:=by
 obtain⟨mi,a1,a2,b1,b2⟩:=m;obtain⟨x,x1,x2,x3,x4⟩:=iu T.ka a1 a2;unfold gl4;refine Zaa (bD x1 ?_);have m':=pushA T mi a1 a2 x4 λz hz=>h z hz x x1;by_cases h0:na-1=0
 .rw[zAx (by simpa using h0)];exact Zab ⟨sg,.inl ⟨_,rfl,e_a T m' h0⟩⟩
 .rw[zAw (by simpa using h0)]
  have at':At κ a b (out.push x) (na-1) nb:=⟨m',Zz,Zz,b1,b2⟩
  split
  .exact Zab ⟨sg,.inr ⟨rfl,at',by dsimp only;lia⟩⟩
  .exact Zab ⟨sg,rfl,at',by dsimp only;lia⟩
theorem wR(hL:LtAll prog w A E s κ ks)(T:Two κ a b)(F:FirstB κ a b){g k bc n:Nat}{out:Array Keyed}{bP st:SortSt}(hk:kindOf st=ks)(sg:SG bP st)(m:At κ a b out na nb)(hn:na+nb<=n):
  wpS (model prog w) A E s (gl3 a b na nb out g k bc) (G2 κ a b n bP) st:=by
 obtain⟨mi,a1,a2,b1,b2⟩:=id m;obtain⟨x,x1,x2,x3,x4⟩:=iu T.ka a1 a2;unfold gl3;refine Zaa (bD x1 ?_);refine Zaa (eQ (κ:=κ) (kk:=key κ x) (hL st hk) x2 Zz (λi hi=>?_) (λi j cm hj kc=>?_) λt kn kt kf=>?_)
 .obtain⟨p,p1,p2,p3,_⟩:=item T.kb (i:=0+i) Zz;exact⟨p,_,p1,p2,p3⟩
 .have mono:=jT T.kb T.sb (i:=0+i) (j:=0+j) Zz Zz;exact KeyOrd.klt_of_kle_of_klt mono kc
 .have early:∀y∈b.toList.take t,∀z,a[na-1]?=some z->leK κ y z:=λy hy z hz=>by
   rw[x1]at hz;cases hz;obtain⟨j,j1,j2,j3⟩:=take_key0 T.kb hy;have:=kt j j1;rw[Nat.zero_add,j3]at this;exact KeyOrd.kle_of_klt this
  by_cases h0:nb-t>0
  .dsimp only;rw[zAx h0]
   have m':=KH T mi (show t<=nb by lia) b2 λz hz y hy=>by
    obtain⟨j,j1,j2,j3,j4⟩:=take_key T.kb hz;have:=kf j j1 j2;rw[Nat.zero_add,j4]at this;exact dR (yu T.ka T.sa a1 a2 x3 y hy) (show leK κ x z from this)
   by_cases e:t=1
   .rw[zAx (by simpa using e)];exact Zab ⟨sg,.inl ⟨_,rfl,e_f T F m' e⟩⟩
   .rw[zAw (by simpa using e)];by_cases e2:t=0
    .rw[zAx (by simpa using e2)];exact Zab ⟨sg,.inl ⟨_,rfl,e_b T m' e2⟩⟩
    .rw[zAw (by simpa using e2)];exact oV T sg ⟨m',a1,a2,Zz,Zz⟩ Zz early
  .dsimp only;rw[zAw h0];have e:t=nb:=Zz
   rw[e]at early;exact oV T sg m hn early
theorem oW(hL:LtAll prog w A E s κ ks)(T:Two κ a b)(F:FirstB κ a b){g k bc n:Nat}{out:Array Keyed}{bP st:SortSt}(hk:kindOf st=ks)(sg:SG bP st)(m:At κ a b out na nb)(hn:na+nb<=n)(h:∀x∈a.toList.take na,∀y,b[nb-1]?=some y->leK κ x y):
  wpS (model prog w) A E s (gl2 a b na nb out g k bc) (G2 κ a b n bP) st:=by
 obtain⟨mi,a1,a2,b1,b2⟩:=m;obtain⟨y,y1,y2,y3,y4⟩:=iu T.kb (show 1<=nb by lia) b2;unfold gl2;refine Zaa (bD y1 ?_);have m':=pushB T mi Zz b2 y4 λz hz=>h z hz y y1;by_cases h0:nb-1=1
 .rw[zAx (by simpa using h0)];exact Zab ⟨sg,.inl ⟨_,rfl,e_f T F m' h0⟩⟩
 .rw[zAw (by simpa using h0)];exact wR hL T F hk sg ⟨m',a1,a2,Zz,Zz⟩ Zz
theorem wU(hL:LtAll prog w A E s κ ks)(T:Two κ a b)(F:FirstB κ a b){g bc n:Nat}{out:Array Keyed}{bP st:SortSt}(hk:kindOf st=ks)(sg:SG bP st)(m:At κ a b out na nb)(hn:na+nb<=n):
  wpS (model prog w) A E s (gl1 a b na nb out g ac bc) (G2 κ a b n bP) st:=by
 obtain⟨mi,a1,a2,b1,b2⟩:=id m;obtain⟨y,y1,y2,y3,y4⟩:=iu T.kb (show 1<=nb by lia) b2;unfold gl1;refine Zaa (je λZr gL=>?_);have df:kindOf Zr=ks:=gL.kind.trans hk
 have bX:SG bP Zr:=⟨gL.kind.trans sg.kind,gL.arr.trans sg.arr,gL.pend.trans sg.pend,gL.fail.trans sg.fail⟩
 refine Zaa (bD y1 ?_);refine Zaa (eQ (κ:=κ) (kk:=key κ y) (hL Zr df) y2 Zz (λi hi=>?_) (λi j cm hj kc=>?_) λt kn kt kf=>?_)
 .obtain⟨p,p1,p2,p3,_⟩:=item T.ka (i:=0+i) Zz;exact⟨p,_,p1,p2,p3⟩
 .have mono:=jT T.ka T.sa (i:=0+i) (j:=0+j) Zz Zz;have kc:(!κ.blt (key κ y) (KK κ a (0+j)))=true:=kc;show(!κ.blt (key κ y) (KK κ a (0+i)))=true;rw[Za4]at kc⊢;exact KeyOrd.kle_trans mono kc
 .have early:∀x∈a.toList.take t,∀z,b[nb-1]?=some z->leK κ x z:=λx hx z hz=>by
   rw[y1]at hz;cases hz;obtain⟨j,j1,j2,j3⟩:=take_key0 T.ka hx;have:=kt j j1;rw[Nat.zero_add,j3]at this;have this:(!κ.blt (key κ y) (key κ x))=true:=this;rw[Za4]at this;exact this
  by_cases h0:na-t>0
  .dsimp only;rw[zAx h0]
   have m':=KD T mi (show t<=na by lia) a2 λz hz x hx=>by
    obtain⟨j,j1,j2,j3,j4⟩:=take_key T.ka hz;have:=kf j j1 j2;rw[Nat.zero_add,j4]at this;have this:(!κ.blt (key κ y) (key κ z))=false:=this;rw[Bool.not_eq_false']at this;exact dR (yu T.kb T.sb Zz b2 y3 x hx) (KeyOrd.kle_of_klt this)
   by_cases e:t=0
   .rw[zAx (by simpa using e)];exact Zab ⟨bX,.inl ⟨_,rfl,e_a T m' e⟩⟩
   .rw[zAw (by simpa using e)];exact oW hL T F df bX ⟨m',Zz,Zz,b1,b2⟩ Zz early
  .dsimp only;rw[zAw h0];have e:t=na:=Zz
   rw[e]at early;exact oW hL T F df bX m hn early
theorem oX(hL:LtAll prog w A E s κ ks)(T:Two κ a b)(F:FirstB κ a b){g:Nat}{out:Array Keyed}{bP st:SortSt}(hk:kindOf st=ks)(sg:SG bP st)(m:At κ a b out na nb):
  wpS (model prog w) A E s (round a b na nb out g) (λr Zr=>SG bP Zr/\match r with
   |.done c=>∃z,c.1=some z/\Rs κ a b z
   |.yield c=>c.1=none/\At κ a b c.2.2.2.1 c.2.1 c.2.2.1/\c.2.1+c.2.2.1<na+nb) st:=by
 unfold round
 have Qx:0<a.size+b.size:=by
  have:=m.a1;have:=m.a2;lia
 refine Zaa (wpS_mono (wpS_forRange (I:=λx c Zr=>Zr=st/\c.1=none/\At κ a b c.2.2.2.1 c.2.1 c.2.2.1/\c.2.1+c.2.2.1+x=na+nb)
  (Q:=λc Zr=>Zr=st/\((∃z,c.1=some z/\Rs κ a b z)\/(c.1=none/\At κ a b c.2.2.2.1 c.2.1 c.2.2.1/\c.2.1+c.2.2.1<na+nb))) ?_ ?_ ⟨rfl,rfl,m,rfl⟩) ?_)
 .rintro x ⟨c0,i,j,o,ac,bc⟩ Zr _ hx ⟨rfl,rfl,m',e⟩;dsimp only at m' e⊢;refine wpS_mono (wQ hL T F hk m') λr st2 h2=>?_;obtain⟨rfl,h2⟩:=h2
  cases r with
  |done c=>
   rcases h2 with h2|⟨h2,h3,h4⟩
   .exact⟨rfl,.inl h2⟩
   .exact⟨rfl,.inr ⟨h2,h3,Zz⟩⟩
  |yield c=>
   obtain⟨h2,h3,h4⟩:=h2;exact⟨rfl,h2,h3,Zz⟩
 .rintro c Zr ⟨rfl,h1,h2,h3⟩;exact⟨rfl,.inr ⟨h1,h2,Zz⟩⟩
 .rintro⟨c0,i,j,o,ac,bc⟩ Zr ⟨rfl,h⟩;dsimp only at h⊢;rcases h with⟨z,rfl,hz⟩|⟨rfl,m',cm⟩
  .exact Zab ⟨sg,z,rfl,hz⟩
  .dsimp only;refine Zaa (wpS_lift (wpAny_rule ⟨rfl,?_⟩))
   refine Zaa (wpS_mono (wpS_forRange (I:=λx c st2=>SG bP st2/\c.1=none/\At κ a b c.2.2.2.1 c.2.1 c.2.2.1/\c.2.1+c.2.2.1<na+nb)
    (Q:=λc st2=>SG bP st2/\((∃z,c.1=some z/\Rs κ a b z)\/(c.1=none/\At κ a b c.2.2.2.1 c.2.1 c.2.2.1/\c.2.1+c.2.2.1<na+nb))) ?_ ?_ ⟨sg,rfl,m',cm⟩) ?_)
   .rintro x ⟨c0,i,j,o,g2,ac,bc⟩ st2 _ hx ⟨bX,rfl,m2,e2⟩;dsimp only at m2 e2⊢;have BM:kindOf st2=ks:=bX.kind.trans (sg.kind.symm.trans hk);have go:∀g',wpS (model prog w) A E s (gl1 a b i j o g' ac bc) (G2 κ a b (na+nb) bP) st2:=λg'=>wU hL T F BM bX m2 Zz;unfold gal;split
    .refine wpS_mono (go _) λr iL h3=>?_;obtain⟨h3,h4⟩:=h3
     cases r with
     |done c=>exact⟨h3,h4⟩
     |yield c=>exact⟨h3,h4⟩
    .refine wpS_mono (go _) λr iL h3=>?_;obtain⟨h3,h4⟩:=h3
     cases r with
     |done c=>exact⟨h3,h4⟩
     |yield c=>exact⟨h3,h4⟩
   .rintro c st2 ⟨h0,h1,h2,h3⟩;exact⟨h0,.inr ⟨h1,h2,h3⟩⟩
   .rintro⟨c0,i,j,o,g2,ac,bc⟩ st2 ⟨bX,h⟩;dsimp only at h⊢;rcases h with⟨z,rfl,hz⟩|⟨rfl,m2,wc⟩
    .exact Zab ⟨bX,z,rfl,hz⟩
    .dsimp only;refine Zaa (je λiL oQ=>Zab ⟨⟨oQ.kind.trans bX.kind,oQ.arr.trans bX.arr,oQ.pend.trans bX.pend,oQ.fail.trans bX.fail⟩,rfl,m2,wc⟩)
theorem hi_wp(hL:LtAll prog w A E s κ ks)(T:Two κ a b)(L:jo κ a b)(F:FirstB κ a b)(ha:0<a.size)(hb:0<b.size){st:SortSt}(hk:kindOf st=ks){Q:Array Keyed->SortSt->Prop}
  (h:∀r Zr,SG st Zr->Rs κ a b r->Q r Zr):wpS (model prog w) A E s (jU a b) Q st:=by
 rw[KC];obtain⟨x,x1,x2,x3,x4⟩:=iu T.ka (n:=a.size) ha (zA3 _);refine Zaa (wpS_lift (wpAny_rule ⟨rfl,?_⟩));refine Zaa (bD x1 ?_)
 have m0:Mh κ a b #[] a.size b.size:=by
  refine⟨?_,List.Pairwise.nil,λx hx=>absurd hx Zy⟩;rw[Zav (by rw[zA9];exact zA3 _),Zav (by rw[zA9];exact zA3 _)];exact List.Perm.nil
 have m:Mh κ a b #[x] (a.size-1) b.size:=pushA (out:=#[]) T m0 ha (zA3 _) x4 λy hy=>L y (Zaq hy) x (by
  rw[<-zA9,zAm,zA9]at x4;rw[x4]
  exact Za1)
 by_cases e1:a.size-1=0
 .rw[zAx (by simpa using e1)];exact Zab (h _ st (SG.refl _) (e_a T m e1))
 .rw[zAw (by simpa using e1)];by_cases e2:b.size=1
  .rw[zAx (by simpa using e2)];exact Zab (h _ st (SG.refl _) (e_f T F m e2))
  .rw[zAw (by simpa using e2)];refine Zaa (wpS_get ?_)
   refine Zaa (wpS_mono (wpS_forRange (I:=λx c Zr=>SG st Zr/\c.1=none/\At κ a b c.2.2.2.1 c.2.1 c.2.2.1/\c.2.1+c.2.2.1+x<a.size+b.size)
    (Q:=λc Zr=>SG st Zr/\∃z,c.1=some z/\Rs κ a b z) ?_ ?_ ⟨SG.refl _,rfl,⟨m,by dsimp only;lia,by dsimp only;lia,by dsimp only;lia,zA3 _⟩,by dsimp only;lia⟩) ?_)
   .rintro x ⟨c0,i,j,o,g⟩ Zr _ hx ⟨sg,rfl,m',e⟩;dsimp only at m' e⊢;refine wpS_mono (oX hL T F (sg.kind.trans hk) sg m') λr st2 h2=>?_;obtain⟨bX,h2⟩:=h2
    cases r with
    |done c=>exact⟨bX,h2⟩
    |yield c=>
     obtain⟨h2,h3,h4⟩:=h2;exact⟨bX,h2,h3,Zz⟩
   .rintro c Zr ⟨sg,h1,m',e⟩;exact absurd e Zz
   .rintro⟨c0,i,j,o,g⟩ Zr ⟨sg,z,e,hz⟩;dsimp only at e;rw[e];exact Zab (h z Zr sg hz)
end
end Hi
open PySem PyProof.Rows
def over(arr:Array Keyed)(n:Nat)(l:List Keyed):Array Keyed:=l.zipIdx.foldl (λa p=>a.setIfInBounds (n+p.2) p.1) arr
theorem tQ:∀(l:List Keyed) (j n:Nat) (arr:Array Keyed),n+j+l.length<=arr.size->
  (((l.zipIdx j).foldl (λa p=>a.setIfInBounds (n+p.2) p.1) arr).size=arr.size/\∀i,((l.zipIdx j).foldl (λa p=>a.setIfInBounds (n+p.2) p.1) arr)[i]?=if n+j<=i/\i<n+j+l.length then l[i-(n+j)]? else arr[i]?)
 |[],j,n,arr,_=>by
  refine⟨rfl,λi=>?_⟩;rw[zAw (by rw[List.length_nil];lia)];rfl
 |p::l,j,n,arr,h=>by
  rw[zAe]at h;rw[List.zipIdx_cons,List.foldl_cons];obtain⟨h1,h2⟩:=tQ l (j+1) n (arr.setIfInBounds (n+j) p) (by rw[Array.size_setIfInBounds];lia);refine⟨by rw[h1,Array.size_setIfInBounds],λi=>?_⟩;rw[h2 i,zAe,Array.getElem?_setIfInBounds];by_cases e:n+j=i
  .subst e;rw[zAw Zz,zAx rfl,zAx Zz,zAx Zz];simp
  .rw[zAw e];by_cases e2:n+(j+1)<=i/\i<n+(j+1)+l.length
   .rw[zAx e2,zAx Zz,show i-(n+j)=(i-(n+(j+1)))+1 by lia];rfl
   .rw[zAw e2,zAw Zz]
theorem Ag{arr:Array Keyed}{n:Nat}{l:List Keyed}(h:n+l.length<=arr.size):(over arr n l).toList=arr.toList.take n++l++arr.toList.drop (n+l.length):=by
 obtain⟨h1,h2⟩:=tQ l 0 n arr Zz;refine List.ext_getElem? λi=>?_;rw[Zat];show((l.zipIdx 0).foldl (λa p=>a.setIfInBounds (n+p.2) p.1) arr)[i]?=_;have hl:arr.toList.length=arr.size:=zA9;rw[h2 i,zAf,List.getElem?_append,zAd,hl,show min n arr.size=n by lia,List.getElem?_append];by_cases e1:i<n
 .rw[zAw Zz,zAx e1,List.getElem?_take,zAx e1,Zat]
 .rw[zAw e1];by_cases e2:i<n+l.length
  .rw[zAx Zz,zAx Zz];rfl
  .rw[zAw Zz,zAw Zz,List.getElem?_drop,Zat];congr 1;lia
theorem pw_of_seg{κ:PyProof.Rows.KeyKind}{arr:Array Keyed}(ka:KeysOf κ arr){hi:Nat}(hh:hi<=arr.size)(h:Seg κ arr lo hi):((arr.toList.take hi).drop lo).Pairwise (leK κ):=by
 rw[List.pairwise_iff_getElem];intro i j hX nE cm;rw[Zam,zAd,zA9]at hX nE;rw[List.getElem_drop,List.getElem_drop,List.getElem_take,List.getElem_take]
 have dP:∀k,(hk:k<arr.toList.length)->k<arr.size->key κ arr.toList[k]=KK κ arr k:=λk hk df=>by
  obtain⟨p,p1,p2,p3,p4⟩:=item ka df;rw[p3]
  have e:arr.toList[k]?=some p:=by
   rw[Zat];exact p1
  rw[zA0 hk]at e;rw[zAl e]
 unfold leK;rw[dP _ _ Zz,dP _ _ Zz];exact h _ _ Zz Zz Zz
theorem Ah{κ:PyProof.Rows.KeyKind}{arr:Array Keyed}(ka:KeysOf κ arr){hi:Nat}(hh:hi<=arr.size)(h:((arr.toList.take hi).drop lo).Pairwise (leK κ)):Seg κ arr lo hi:=by
 intro i j h1 h2 h3;by_cases e:i=j
 .rw[e];exact KeyOrd.kle_refl _
 .rw[List.pairwise_iff_getElem]at h
  have dP:∀k,(hk:k<arr.toList.length)->k<arr.size->key κ arr.toList[k]=KK κ arr k:=λk hk df=>by
   obtain⟨p,p1,p2,p3,p4⟩:=item ka df;rw[p3]
   have e:arr.toList[k]?=some p:=by
    rw[Zat];exact p1
   rw[zA0 hk]at e;rw[zAl e]
  have:=h (i-lo) (j-lo) (by rw[Zam,zAd,zA9];lia) (by rw[Zam,zAd,zA9];lia) Zz;rw[List.getElem_drop,List.getElem_drop,List.getElem_take,List.getElem_take]at this;unfold leK at this;rw[dP _ _ Zz,dP _ _ Zz]at this;rw[show lo+(i-lo)=i by lia,show lo+(j-lo)=j by lia]at this;exact this
theorem KJ(i:Nat):mergeAt' i=(do
  let s <-get
  match(pendingOf s)[i]?,(pendingOf s)[i+1]? with
  |some p,some q=>do
   set (setPending s (((pendingOf s).setIfInBounds i (p.1,p.2.1+q.2.1,p.2.2)).eraseIdxIfInBounds (i+1)))
   let y <-elem' (arrOf s) q.1
   let r <-gF false y (arrOf s) p.1 p.2.1 0
   match r with
   |some k=>
    if(p.2.1-k==0)=true then pure true
    else do
     let x <-elem' (arrOf s) (p.1+k+(p.2.1-k)-1)
     let r <-gF true x (arrOf s) q.1 q.2.1 (q.2.1-1)
     match r with
     |some n=>
      if(n==0)=true then pure true
      else do
       let m <-if p.2.1-k<=n then jO ((arrOf s).extract (p.1+k) q.1) ((arrOf s).extract q.1 (q.1+n))else jU ((arrOf s).extract (p.1+k) q.1) ((arrOf s).extract q.1 (q.1+n))
       modify λs'=>setArr s' (over (arrOf s') (p.1+k) m.toList)
       let s' <-get
       pure (failedOf s').isNone
     |_=>pure false
   |_=>pure false
  |_,_=>liftM (unsupported "internal:list.sort.pending")):=by
 delta mergeAt'
 refine bc rfl (funext λs=>?_);generalize e1:(pendingOf s)[i]?=o1;generalize e2:(pendingOf s)[i+1]?=o2
 cases o1 with
 |none=>cases o2<;>rfl
 |some p=>
  obtain⟨sa,na,pw⟩:=p
  cases o2 with
  |none=>rfl
  |some q=>
   obtain⟨sb,nb,GB⟩:=q;refine bc rfl (funext λu=>bc rfl (funext λy=>bc rfl (funext λr=>?_)))
   cases r with
   |none=>rfl
   |some k=>
    refine ic rfl (bc rfl (funext λx=>bc rfl (funext λr=>?_)))
    cases r with
    |none=>rfl
    |some n=>exact ic rfl (ic (bc rfl (funext λm=>rfl)) (bc rfl (funext λm=>rfl)))
theorem keys_perm{κ:PyProof.Rows.KeyKind}{ae xs:Array Keyed}(h0:KeysOf κ ae)(h:xs.Perm ae):KeysOf κ xs:=λp hp=>h0 p ((Array.perm_iff_toList_perm.mp h).mem_iff.mp hp)
theorem uZ{κ:PyProof.Rows.KeyKind}{xs:Array Keyed}(h0:KeysOf κ xs)(i j:Nat):KeysOf κ (xs.extract i j):=λp hp=>by
 rw[gU]at hp;exact h0 p (List.mem_of_mem_drop (Zaq hp))
section
variable{prog:Program}{w:World}{A:Around}{E:Value->Shared->Prop}{s:Shared}{κ:PyProof.Rows.KeyKind}{ks:SortKind}{ae:Array Keyed}
structure Mg(κ:PyProof.Rows.KeyKind)(ks:SortKind)(ae:Array Keyed)(st Zr:SortSt)(sa hi:Nat)(pend:Array (Nat×Nat×Nat)):Prop where
 base:SB ks ae Zr
 out:∀k,(k<sa\/hi<=k)->(arrOf Zr)[k]?=(arrOf st)[k]?
 seg:Seg κ (arrOf Zr) sa hi
 pend:pendingOf Zr=pend
theorem CJ{l:List Keyed}{i j k:Nat}(h1:i<=j)(h2:j<=k)(h3:k<=m)(h4:m<=l.length):(l.take m).drop i=(l.take j).drop i++((l.take k).drop j++(l.take m).drop k):=by
 have c:∀{x y z:Nat},x<=y->y<=z->z<=l.length->(l.take z).drop x=(l.take y).drop x++(l.take z).drop y:=λ{x y z} a b d=>by
  have:=Hi.cut_drop (l:=l.take z) (t:=x) (n:=y) a (by rw[zAd];lia);rw[List.take_take,show min y z=y by lia]at this;exact this.symm
 rw[c h1 Zz h4,c h2 h3 h4]
theorem KN(hL:LtAll prog w A E s κ ks)(h0:KeysOf κ ae){st:SortSt}(B:SB ks ae st){i sa pw GB:Nat}(e1:(pendingOf st)[i]?=some (sa,na,pw))(e2:(pendingOf st)[i+1]?=some (sa+na,nb,GB))
  (n1:1<=na) (n2:1<=nb) (hz:sa+na+nb<=ae.size) (s1:Seg κ (arrOf st) sa (sa+na)) (s2:Seg κ (arrOf st) (sa+na) (sa+na+nb)) {Q:Bool->SortSt->Prop}
  (h:∀Zr,Mg κ ks ae st Zr sa (sa+na+nb) (((pendingOf st).setIfInBounds i (sa,na+nb,pw)).eraseIdxIfInBounds (i+1))->Q true Zr):wpS (model prog w) A E s (mergeAt' i) Q st:=by
 rw[KJ];refine Zaa (wpS_get ?_);rw[e1,e2];dsimp only;have kA:KeysOf κ (arrOf st):=keys_perm h0 B.pm;have hsz:(arrOf st).size=ae.size:=B.size;have eI:(arrOf st).toList.length=ae.size:=by rw[zA9,hsz]
 obtain⟨P,eP⟩:∃P,P=((pendingOf st).setIfInBounds i (sa,na+nb,pw)).eraseIdxIfInBounds (i+1):=⟨_,rfl⟩
 rw[<-eP]at h⊢
 have GH:∀{R:PUnit->SortSt->Prop},R ⟨⟩ (setPending st P)->wpS (model prog w) A E s (set (setPending st P):Sm PUnit) R st:=λhR=>by
  unfold wpS;rw[StateT.run_set];exact zAz ⟨rfl,hR⟩
 refine Zaa (GH ?_)
 obtain⟨gI,oS⟩:∃gI,gI=setPending st P:=⟨_,rfl⟩
 have k1:kindOf gI=ks:=by rw[oS];exact B.kind
 have a1:arrOf gI=arrOf st:=by rw[oS]
 have p1:pendingOf gI=P:=by rw[oS]
 have f1:failedOf gI=none:=by rw[oS];exact B.ok
 rw[<-oS]
 have all:Seg κ (arrOf st) sa (sa+na+nb)->Mg κ ks ae st gI sa (sa+na+nb) P:=λsg=>⟨⟨k1,f1,by rw[a1];exact B.pm⟩,λk _=>by rw[a1],by rw[a1];exact sg,p1⟩
 obtain⟨y,y1,y2,y3,y4⟩:=item kA (i:=sa+na) Zz;refine Zaa (bD y1 ?_);refine Zaa (eQ (κ:=κ) (kk:=key κ y) (hL gI k1) y2 Zz (λj hj=>?_) (λj j' Qy nE hb=>?_) λk kn kt kf=>?_)
 .obtain⟨p,q1,q2,q3,_⟩:=item kA (i:=sa+j) Zz;exact⟨p,_,q1,q2,q3⟩
 .have mono:=s1 (sa+j) (sa+j') Zz Zz Zz;have hb:(!κ.blt (key κ y) (KK κ (arrOf st) (sa+j')))=true:=hb;show(!κ.blt (key κ y) (KK κ (arrOf st) (sa+j)))=true;rw[Za4]at hb⊢;exact KeyOrd.kle_trans mono hb
 .have GI:∀j,sa<=j->j<sa+k->κ.kle (KK κ (arrOf st) j) (KK κ (arrOf st) (sa+na)):=λj j1 j2=>by
   have:=kt (j-sa) Zz;rw[show sa+(j-sa)=j by lia]at this;have this:(!κ.blt (key κ y) (KK κ (arrOf st) j))=true:=this;rw[Za4]at this;rw[y3];exact this
  have Qz:∀j,sa+k<=j->j<sa+na->κ.kle (KK κ (arrOf st) (sa+na)) (KK κ (arrOf st) j):=λj j1 j2=>by
   have:=kf (j-sa) Zz Zz;rw[show sa+(j-sa)=j by lia]at this;have this:(!κ.blt (key κ y) (KK κ (arrOf st) j))=false:=this;rw[Bool.not_eq_false']at this;rw[y3];exact KeyOrd.kle_of_klt this
  dsimp only;by_cases zk:na-k=0
  .rw[zAx (by simpa using zk)];refine Zab (h gI (all λu v hu BO hv=>?_));by_cases c1:v<sa+na
   .exact s1 u v hu BO c1
   .by_cases c2:u<sa+na
    .exact KeyOrd.kle_trans (GI u hu Zz) (s2 (sa+na) v (zA3 _) Zz hv)
    .exact s2 u v Zz BO hv
  .rw[zAw (by simpa using zk)];rw[show sa+k+(na-k)-1=sa+na-1 by lia];obtain⟨x,x1,x2,x3,x4⟩:=item kA (i:=sa+na-1) Zz;refine Zaa (bD x1 ?_);refine Zaa (eQ (κ:=κ) (kk:=key κ x) (hL gI k1) x2 Zz (λj hj=>?_) (λj j' Qy nE hb=>?_) λn nn nt nf=>?_)
   .obtain⟨p,q1,q2,q3,_⟩:=item kA (i:=sa+na+j) Zz;exact⟨p,_,q1,q2,q3⟩
   .exact KeyOrd.klt_of_kle_of_klt (s2 (sa+na+j) (sa+na+j') Zz Zz Zz) hb
   .have QA:∀j,sa+na<=j->j<sa+na+n->κ.kle (KK κ (arrOf st) j) (KK κ (arrOf st) (sa+na-1)):=λj j1 j2=>by
     have:=nt (j-(sa+na)) Zz;rw[show sa+na+(j-(sa+na))=j by lia]at this;rw[x3];exact KeyOrd.kle_of_klt this
    have NT:∀j,sa+na+n<=j->j<sa+na+nb->κ.kle (KK κ (arrOf st) (sa+na-1)) (KK κ (arrOf st) j):=λj j1 j2=>by
     have:=nf (j-(sa+na)) Zz Zz;rw[show sa+na+(j-(sa+na))=j by lia]at this;rw[x3];exact this
    dsimp only;by_cases NU:n=0
    .rw[zAx (by simpa using NU)];refine Zab (h gI (all λu v hu BO hv=>?_));by_cases c1:v<sa+na
     .exact s1 u v hu BO c1
     .by_cases c2:u<sa+na
      .exact KeyOrd.kle_trans (s1 u (sa+na-1) hu Zz Zz) (NT v Zz hv)
      .exact s2 u v Zz BO hv
    .rw[zAw (by simpa using NU)]
     obtain⟨X,eX⟩:∃X,X=(arrOf st).extract (sa+k) (sa+na):=⟨_,rfl⟩
     obtain⟨Y,eY⟩:∃Y,Y=(arrOf st).extract (sa+na) (sa+na+n):=⟨_,rfl⟩
     rw[<-eX,<-eY];have lX:X.toList=((arrOf st).toList.take (sa+na)).drop (sa+k):=by rw[eX,Hi.ext_cut]
     have lY:Y.toList=((arrOf st).toList.take (sa+na+n)).drop (sa+na):=by rw[eY,Hi.ext_cut]
     have zX:X.size=na-k:=by rw[<-zA9,lX,Zam,zAd,eI];lia
     have zY:Y.size=n:=by rw[<-zA9,lY,Zam,zAd,eI];lia
     have pA:=pw_of_seg kA Zz s1;have pB:=pw_of_seg kA Zz s2;have eA:=CJ (l:=(arrOf st).toList) (i:=sa) (j:=sa+k) (k:=sa+na) (m:=sa+na) Zz Zz (zA3 _) (by rw[eI];lia);have eB:=CJ (l:=(arrOf st).toList) (i:=sa+na) (j:=sa+na+n) (k:=sa+na+nb) (m:=sa+na+nb) Zz Zz (zA3 _) (by rw[eI];lia);have GL:((arrOf st).toList.take (sa+na)).drop (sa+na)=[]:=Zav (by rw[zAd];lia);have GN:((arrOf st).toList.take (sa+na+nb)).drop (sa+na+nb)=[]:=Zav (by rw[zAd];lia);rw[GL,zAn,<-lX]at eA;rw[GN,zAn,<-lY]at eB
     obtain⟨A1,GO⟩:∃A1,A1=((arrOf st).toList.take (sa+k)).drop sa:=⟨_,rfl⟩
     obtain⟨B2,GS⟩:∃B2,B2=((arrOf st).toList.take (sa+na+nb)).drop (sa+na+n):=⟨_,rfl⟩
     rw[<-GO]at eA;rw[<-GS]at eB;rw[eA]at pA;rw[eB]at pB;obtain⟨QB,pX,QC⟩:=Zah.mp pA;obtain⟨pY,QD,QE⟩:=Zah.mp pB
     have NV:∀z∈X.toList,∃j,sa+k<=j/\j<sa+na/\KK κ (arrOf st) j=key κ z:=λz dv=>by
      rw[lX]at dv;obtain⟨j,j1,j2,_,j4⟩:=Hi.take_key kA dv;exact⟨j,j1,j2,j4⟩
     have NW:∀z∈Y.toList,∃j,sa+na<=j/\j<sa+na+n/\KK κ (arrOf st) j=key κ z:=λz dv=>by
      rw[lY]at dv;obtain⟨j,j1,j2,_,j4⟩:=Hi.take_key kA dv;exact⟨j,j1,j2,j4⟩
     have QF:∀z∈A1,∃j,sa<=j/\j<sa+k/\KK κ (arrOf st) j=key κ z:=λz dv=>by
      rw[GO]at dv;obtain⟨j,j1,j2,_,j4⟩:=Hi.take_key kA dv;exact⟨j,j1,j2,j4⟩
     have NX:∀z∈B2,∃j,sa+na+n<=j/\j<sa+na+nb/\KK κ (arrOf st) j=key κ z:=λz dv=>by
      rw[GS]at dv;obtain⟨j,j1,j2,_,j4⟩:=Hi.take_key kA dv;exact⟨j,j1,j2,j4⟩
     have TT:Two κ X Y:=⟨by rw[eX];exact uZ kA _ _,by rw[eY];exact uZ kA _ _,pX,pY⟩
     have LL:jo κ X Y:=λz dv v hv=>by
      obtain⟨j,j1,j2,j3⟩:=NW z dv;obtain⟨j',BQ,BU,we⟩:=oU TT.ka hv;have ej:j'=X.size-1:=Zz
      have e:KK κ X j'=KK κ (arrOf st) (sa+na-1):=by
       refine KK_congr ?_;rw[eX,Array.getElem?_extract,zAx Zz];congr 1;lia
      show κ.kle (key κ z) (key κ v);rw[<-j3,<-we,e];exact QA j j1 j2
     have F0:∀v∈X.toList,∀z,Y[0]?=some z->leK κ z v:=λv hv z dv=>by
      obtain⟨j,j1,j2,j3⟩:=NV v hv
      have ez:z=y:=by
       rw[eY,Array.getElem?_extract,zAx Zz,Nat.add_zero,y1]at dv;exact(zAl dv).symm
      show κ.kle (key κ z) (key κ v);rw[ez,<-y3,<-j3];exact Qz j j1 j2
     have FB:Hi.FirstB κ X Y:=λz dv v hv=>by
      obtain⟨j,j1,j2,j3⟩:=Hi.take_key0 TT.kb dv;obtain⟨q,q1,q2,q3,_⟩:=item TT.kb (i:=0) Zz;have e0:j=0:=Zz
      rw[e0,q3]at j3;have:=F0 v hv q q1;unfold leK at this⊢;rw[<-j3];exact this
     have fin:∀m st2,SG gI st2->Rs κ X Y m->wpS (model prog w) A E s (do
       modify λs'=>setArr s' (over (arrOf s') (sa+k) m.toList)
       let s' <-get
       pure (failedOf s').isNone) Q st2:=λm st2 sg D=>by
      refine Zaa (wpS_modify (Zaa (wpS_get (Zab ?_))))
      have ft:(failedOf (setArr st2 (over (arrOf st2) (sa+k) m.toList))).isNone=true:=by
       show(failedOf st2).isNone=true;rw[sg.fail,f1];rfl
      rw[ft];have am:arrOf st2=arrOf st:=sg.arr.trans a1
      have lm:m.toList.length=na-k+n:=by
       rw[D.pm.length_eq,zA2,zA9,zA9,zX,zY]
      have ol:(over (arrOf st) (sa+k) m.toList).toList=(arrOf st).toList.take (sa+k)++m.toList++(arrOf st).toList.drop (sa+na+n):=by
       rw[Ag (by rw[lm,hsz];lia),lm,show sa+k+(na-k+n)=sa+na+n by lia]
      have BY:(over (arrOf st) (sa+k) m.toList).toList.Perm (arrOf st).toList:=by
       rw[ol]
       have e:(arrOf st).toList=(arrOf st).toList.take (sa+k)++(X.toList++Y.toList)++(arrOf st).toList.drop (sa+na+n):=by
        rw[lX,lY];have c1:=Hi.cut_drop (l:=(arrOf st).toList) (t:=sa+na) (n:=sa+na+n) Zz (by rw[eI];lia);have c2:=Hi.cut_drop (l:=(arrOf st).toList) (t:=sa+k) (n:=sa+na) Zz (by rw[eI];lia);rw[zAf,zAf,c1,c2,zBf]
       conv=>rhs;rw[e]
       exact List.Perm.append_right _ (List.Perm.append_left _ D.pm)
      have kX:(over (arrOf st) (sa+k) m.toList).Perm (arrOf st):=Array.perm_iff_toList_perm.mpr BY;have kO:KeysOf κ (over (arrOf st) (sa+k) m.toList):=keys_perm kA kX;have zO:(over (arrOf st) (sa+k) m.toList).size=ae.size:=kX.size_eq.trans hsz;have og:∀j,(over (arrOf st) (sa+k) m.toList)[j]?=if sa+k+0<=j/\j<sa+k+0+m.toList.length then m.toList[j-(sa+k+0)]? else(arrOf st)[j]?:=(tQ m.toList 0 (sa+k) (arrOf st) (by rw[lm,hsz];lia)).2;refine h _ ⟨⟨sg.kind.trans k1,by show failedOf st2=none;rw[sg.fail,f1],?_⟩,λj hj=>?_,?_,?_⟩
      .show(over (arrOf st2) (sa+k) m.toList).Perm ae;rw[am];exact kX.trans B.pm
      .show(over (arrOf st2) (sa+k) m.toList)[j]?=_;rw[am,og j,zAw (by rw[lm];lia)]
      .show Seg κ (over (arrOf st2) (sa+k) m.toList) sa (sa+na+nb);rw[am];refine Ah kO (by rw[zO];exact hz) ?_
       have cut:((over (arrOf st) (sa+k) m.toList).toList.take (sa+na+nb)).drop sa=A1++(m.toList++B2):=by
        rw[ol,GO,GS];have tl:((arrOf st).toList.take (sa+k)).length=sa+k:=by rw[zAd,eI];lia
        rw[zAf,List.take_append,tl,Zai (l:=(arrOf st).toList.take (sa+k)) (by rw[tl];lia),List.take_append,lm,Zai (l:=m.toList) (by rw[lm];lia)];rw[List.drop_append_of_le_length (by rw[tl];lia)];congr 2;rw[List.drop_take];congr 1;lia
       rw[cut];refine Zah.mpr ⟨QB,Zah.mpr ⟨D.sr,QD,λu hu v hv=>?_⟩,λu hu v hv=>?_⟩
       .rcases zA6.mp (D.pm.mem_iff.mp hu)with c|c
        .obtain⟨j,j1,j2,j3⟩:=NV u c;obtain⟨j',BQ,BU,we⟩:=NX v hv;show κ.kle (key κ u) (key κ v);rw[<-j3,<-we];exact KeyOrd.kle_trans (s1 j (sa+na-1) Zz Zz Zz) (NT j' BQ BU)
        .exact QE u c v hv
       .obtain⟨j,j1,j2,j3⟩:=QF u hu;rcases zA6.mp hv with c|c
        .rcases zA6.mp (D.pm.mem_iff.mp c)with c|c
         .exact QC u hu v c
         .obtain⟨j',BQ,BU,we⟩:=NW v c;show κ.kle (key κ u) (key κ v);rw[<-j3,<-we];exact KeyOrd.kle_trans (GI j j1 j2) (s2 (sa+na) j' (zA3 _) BQ Zz)
        .obtain⟨j',BQ,BU,we⟩:=NX v c;show κ.kle (key κ u) (key κ v);rw[<-j3,<-we];exact KeyOrd.kle_trans (GI j j1 j2) (s2 (sa+na) j' (zA3 _) Zz BU)
      .show pendingOf st2=P;rw[sg.pend,p1]
     by_cases hc:na-k<=n
     .rw[zAx hc];exact Zaa (Kz hL TT LL Zz Zz F0 k1 λm st2 sg D=>fin m st2 sg D)
     .rw[zAw hc];exact Zaa (Hi.hi_wp hL TT LL FB Zz Zz k1 λm st2 sg D=>fin m st2 sg D)
end
abbrev Run:=Nat×Nat×Nat
def Ch(κ:PyProof.Rows.KeyKind)(arr:Array Keyed):List Run->Nat->Nat->Prop
 |[],a,b=>a=b
 |r::l,a,b=>r.1=a/\1<=r.2.1/\Seg κ arr a (a+r.2.1)/\Ch κ arr l (a+r.2.1) b
theorem Ch.le{κ:PyProof.Rows.KeyKind}{arr:Array Keyed}:∀{l:List Run} {a b:Nat},Ch κ arr l a b->a+l.length<=b
 |[],a,b,h=>by
  have h:a=b:=h;simp[h]
 |r::l,a,b,h=>by
  have:=Ch.le h.2.2.2;have:=h.2.1;rw[zAe];lia
theorem Ch.split{κ:PyProof.Rows.KeyKind}{arr:Array Keyed}:∀{l1 l2:List Run} {a b:Nat},Ch κ arr (l1++l2) a b↔∃m,Ch κ arr l1 a m/\Ch κ arr l2 m b
 |[],l2,a,b=>⟨λh=>⟨a,rfl,h⟩,λhZ=>by
  obtain⟨m,h1,h2⟩:=hZ;have h1:a=m:=h1;rw[h1]
  exact h2⟩
 |r::l1,l2,a,b=>by
  constructor
  .intro h;obtain⟨m,h1,h2⟩:=Ch.split.mp h.2.2.2;exact⟨m,⟨h.1,h.2.1,h.2.2.1,h1⟩,h2⟩
  .rintro⟨m,h1,h2⟩;exact⟨h1.1,h1.2.1,h1.2.2.1,Ch.split.mpr ⟨m,h1.2.2.2,h2⟩⟩
theorem v5{κ:PyProof.Rows.KeyKind}{arr lh:Array Keyed}{a b:Nat}(h:Seg κ arr a b)(e:∀k,a<=k->k<b->lh[k]?=arr[k]?):Seg κ lh a b:=λi j h1 h2 h3=>by
 rw[KK_congr (e i h1 Zz),KK_congr (e j Zz h3)];exact h i j h1 h2 h3
theorem Ch.same{κ:PyProof.Rows.KeyKind}{arr lh:Array Keyed}:∀{l:List Run} {a b:Nat},Ch κ arr l a b->(∀k,a<=k->k<b->lh[k]?=arr[k]?)->Ch κ lh l a b
 |[],_,_,h,_=>h
 |r::l,a,b,h,e=>by
  have:=Ch.le h.2.2.2;exact⟨h.1,h.2.1,v5 h.2.2.1 λk k1 k2=>e k k1 Zz,h.2.2.2.same λk k1 k2=>e k Zz k2⟩
theorem Ai{p:Array Run}{i:Nat}{v:Run}(h:i+1<p.size):((p.setIfInBounds i v).eraseIdxIfInBounds (i+1)).toList=p.toList.take i++v::p.toList.drop (i+2):=by
 have hl:p.toList.length=p.size:=zA9
 have e1:(p.setIfInBounds i v).eraseIdxIfInBounds (i+1)=(p.setIfInBounds i v).eraseIdx (i+1) (by rw[Array.size_setIfInBounds];exact h):=by
  rw[Array.eraseIdxIfInBounds,dif_pos (by rw[Array.size_setIfInBounds];exact h)]
 rw[e1,Array.toList_eraseIdx,Array.toList_setIfInBounds,List.eraseIdx_eq_take_drop_succ,List.take_set,List.drop_set,zAx Zz]
 have e2:p.toList.take (i+1)=p.toList.take i++[p.toList[i]'Zz]:=by
  rw[zAj,zA0 Zz];rfl
 rw[e2,List.set_append_right _ _ (by rw[zAd];lia)];rw[zAd,show i-min i p.toList.length=0 by lia];simp
section
variable{prog:Program}{w:World}{A:Around}{E:Value->Shared->Prop}{s:Shared}{κ:PyProof.Rows.KeyKind}{ks:SortKind}{ae:Array Keyed}
structure St(κ:PyProof.Rows.KeyKind)(ks:SortKind)(ae:Array Keyed)(st:SortSt)(lo:Nat):Prop where
 base:SB ks ae st
 ch:Ch κ (arrOf st) (pendingOf st).toList 0 lo
 le:lo<=ae.size
theorem v6(hL:LtAll prog w A E s κ ks)(h0:KeysOf κ ae){st:SortSt}{i:Nat}(S:St κ ks ae st lo)(hi:i+1<(pendingOf st).size){Q:Bool->SortSt->Prop}
  (h:∀Zr,St κ ks ae Zr lo->(pendingOf Zr).size+1=(pendingOf st).size->(∀k,lo<=k->(arrOf Zr)[k]?=(arrOf st)[k]?)->Q true Zr):wpS (model prog w) A E s (mergeAt' i) Q st:=by
 have hl:(pendingOf st).toList.length=(pendingOf st).size:=zA9;have d1:(pendingOf st).toList.drop i=(pendingOf st).toList[i]'Zz::(pendingOf st).toList.drop (i+1):=Zaw Zz;have d2:(pendingOf st).toList.drop (i+1)=(pendingOf st).toList[i+1]'Zz::(pendingOf st).toList.drop (i+2):=Zaw Zz;have g1:(pendingOf st)[i]?=some ((pendingOf st).toList[i]'Zz):=by rw[<-Zat,zA0 Zz]
 have g2:(pendingOf st)[i+1]?=some ((pendingOf st).toList[i+1]'Zz):=by rw[<-Zat,zA0 Zz]
 obtain⟨⟨sa,na,pw⟩,ep⟩:∃r,r=(pendingOf st).toList[i]'Zz:=⟨_,rfl⟩
 obtain⟨⟨sb,nb,GB⟩,eq⟩:∃r,r=(pendingOf st).toList[i+1]'Zz:=⟨_,rfl⟩
 rw[<-ep]at d1 g1;rw[<-eq]at d2 g2;have c:=S.ch;rw[<-zBf i (pendingOf st).toList,d1,d2]at c;obtain⟨m,c1,c2⟩:=Ch.split.mp c;obtain⟨q1,q2,q3,q4,q5,q6,q7⟩:=c2;dsimp only at q1 q2 q3 q4 q5 q6 q7;subst q1;subst q4;have lb:=Ch.le q7;have lm:=Ch.le c1;refine KN hL h0 S.base g1 g2 q2 q5 (by have:=S.le;lia) q3 q6 λZr M=>?_;have pl:(pendingOf Zr).toList=(pendingOf st).toList.take i++(sa,na+nb,pw)::(pendingOf st).toList.drop (i+2):=by rw[M.pend,Ai hi]
 refine h Zr ⟨M.base,?_,S.le⟩ ?_ λk hk=>M.out k (.inr Zz)
 .rw[pl];refine Ch.split.mpr ⟨sa,c1.same λk _ k2=>M.out k (.inl k2),rfl,by dsimp only;lia,?_,?_⟩
  .dsimp only;rw[<-Nat.add_assoc];exact M.seg
  .dsimp only;rw[<-Nat.add_assoc];exact q7.same λk k1 _=>M.out k (.inr k1)
 .rw[<-zA9,pl,zA2,zAe,zAd,Zam];lia
def rest(z lo n:Nat):Sm (ForInStep (Option Unit×Nat)):=do
 let s <-get
 match(pendingOf s).back? with
 |some (s1,n1,_)=>do
  let c <-forIn [0:z] ((none,()):Option Unit×Unit) λ_ _=>do
    let s <-get
    match(if(pendingOf s).size>1 then(pendingOf s)[(pendingOf s).size-2]? else none)with
    |some (_,_,rS)=>
     if rS<=power' z (2*s1+n1) (2*s1+n1+n1+n) z then pure (ForInStep.done (none,()))
     else do
      let b <-mergeAt' ((pendingOf s).size-2)
      if(!b)=true then pure (ForInStep.done (some (),()))else pure (ForInStep.yield (none,()))
    |_=>pure (ForInStep.done (none,()))
  match c.1 with
  |some r=>pure (ForInStep.done (some r,lo))
  |none=>do
   modify λs=>setPending s ((pendingOf s).modify ((pendingOf s).size-1) λx=>(x.1,x.2.1,power' z (2*s1+n1) (2*s1+n1+n1+n) z))
   modify λs=>setPending s ((pendingOf s).push (lo,n,0))
   pure (ForInStep.yield (none,lo+n))
 |_=>do
  modify λs=>setPending s ((pendingOf s).push (lo,n,0))
  pure (ForInStep.yield (none,lo+n))
theorem Ch.pw{κ:PyProof.Rows.KeyKind}{arr:Array Keyed}(f:Run->Run)(hf:∀r,(f r).1=r.1/\(f r).2.1=r.2.1):∀{l:List Run} {a b i:Nat},Ch κ arr l a b->Ch κ arr (l.modify i f) a b
 |[],a,b,i,h=>by
  cases i<;>exact h
 |r::l,a,b,0,h=>by
  obtain⟨e1,e2⟩:=hf r;refine⟨e1.trans h.1,by rw[e2];exact h.2.1,by rw[e2];exact h.2.2.1,?_⟩;rw[e2];exact h.2.2.2
 |r::l,a,b,i+1,h=>⟨h.1,h.2.1,h.2.2.1,Ch.pw f hf h.2.2.2⟩
theorem St.push{st:SortSt}{n:Nat}(S:St κ ks ae st lo)(n1:1<=n)(hn:lo+n<=ae.size)(sg:Seg κ (arrOf st) lo (lo+n)):St κ ks ae (setPending st ((pendingOf st).push (lo,n,0))) (lo+n):=by
 refine⟨⟨S.base.kind,S.base.ok,S.base.pm⟩,?_,hn⟩;show Ch κ (arrOf st) ((pendingOf st).push (lo,n,0)).toList 0 (lo+n);rw[Array.toList_push];exact Ch.split.mpr ⟨lo,S.ch,rfl,n1,sg,rfl⟩
theorem St.pw{st:SortSt}{i:Nat}(S:St κ ks ae st lo)(f:Run->Run)(hf:∀r,(f r).1=r.1/\(f r).2.1=r.2.1):St κ ks ae (setPending st ((pendingOf st).modify i f)) lo:=by
 refine⟨⟨S.base.kind,S.base.ok,S.base.pm⟩,?_,S.le⟩;show Ch κ (arrOf st) ((pendingOf st).modify i f).toList 0 lo;rw[Array.toList_modify];exact S.ch.pw f hf
theorem yw(hL:LtAll prog w A E s κ ks)(h0:KeysOf κ ae){st:SortSt}{n x:Nat}(S:St κ ks ae st lo)(n1:1<=n)(hn:lo+n<=ae.size)(sg:Seg κ (arrOf st) lo (lo+n))(hx:x<=lo){Q:ForInStep (Option Unit×Nat)->SortSt->Prop}
  (h:∀Zr,St κ ks ae Zr (lo+n)->Q (.yield (none,lo+n)) Zr):wpS (model prog w) A E s (rest ae.size lo n) Q st:=by
 unfold rest;refine Zaa (wpS_get ?_)
 cases(pendingOf st).back? with
 |none=>exact Zaa (wpS_modify (Zab (h _ (S.push n1 hn sg))))
 |some q=>
  obtain⟨s1,GU,p1⟩:=q;dsimp only;refine Zaa (wpS_mono (wpS_forRange (I:=λ_ c Zr=>c=(none,())/\St κ ks ae Zr lo/\Seg κ (arrOf Zr) lo (lo+n)) (Q:=λc Zr=>c=(none,())/\St κ ks ae Zr lo/\Seg κ (arrOf Zr) lo (lo+n)) ?_ (λ_ _ z=>z) ⟨rfl,S,sg⟩) ?_)
  .rintro y c Zr _ _ ⟨rfl,S',gL⟩;refine Zaa (wpS_get ?_);by_cases h1:(pendingOf Zr).size>1
   .rw[zAx h1];have hl:(pendingOf Zr).size-2<(pendingOf Zr).size:=Zz
    rw[Array.getElem?_eq_getElem hl]
    obtain⟨⟨a1,a2,rS⟩,eo⟩:∃r,r=(pendingOf Zr)[(pendingOf Zr).size-2]:=⟨_,rfl⟩
    rw[<-eo];dsimp only;split
    .exact Zab ⟨rfl,S',gL⟩
    .refine Zaa (v6 hL h0 S' Zz λst2 S2 _ o2=>?_);rw[zAw Zx];exact Zab ⟨rfl,S2,v5 gL λk k1 _=>o2 k k1⟩
   .rw[zAw h1];exact Zab ⟨rfl,S',gL⟩
  .rintro c Zr ⟨rfl,S',gL⟩;dsimp only;refine Zaa (wpS_modify (Zaa (wpS_modify (Zab (h _ ?_)))));exact(S'.pw (λx=>(x.1,x.2.1,power' ae.size (2*s1+GU) (2*s1+GU+GU+n) ae.size)) λ_=>⟨rfl,rfl⟩).push n1 hn gL
theorem ifl(c:Prop)[Decidable c](n:Nat):(if c then n-1 else n)<=n:=by split<;>lia
theorem runs_wp(hL:LtAll prog w A E s κ ks)(h0:KeysOf κ ae){st:SortSt}(B:SB ks ae st)(hp:pendingOf st=#[]){Q:Unit->SortSt->Prop}
  (h:∀Zr,SB ks ae Zr->Seg κ (arrOf Zr) 0 ae.size->Q () Zr):wpS (model prog w) A E s sortRuns' Q st:=by
 rw[sortRuns'_eq];refine Zaa (wpS_get ?_);dsimp only;rw[B.size];generalize minRun' ae.size ae.size 0=mr;refine Zaa (wpS_mono (wpS_forRange (I:=λx c Zr=>c.1=none/\St κ ks ae Zr c.2/\x<=c.2) (Q:=λc Zr=>c.1=none/\St κ ks ae Zr ae.size) ?_ ?_ ⟨rfl,⟨B,by rw[hp];rfl,zAp _⟩,zA3 _⟩) ?_)
 .rintro x ⟨c0,lo⟩ Zr _ hx ⟨rfl,S,fh⟩;dsimp only at S fh⊢;by_cases rL:lo≥ae.size
  .rw[zAx rL]
   have e:lo=ae.size:=by
    have:=S.le;lia
   refine Zab ⟨rfl,?_⟩;rw[<-e];exact S
  .rw[zAw rL];refine Zaa (Cz hL h0 Zz Zz S.base λn gI B1 O1 n1 n2 NY=>?_);dsimp only
   have S1:St κ ks ae gI lo:=⟨B1,by rw[O1.pend];exact S.ch.same λk _ k2=>O1.out k (.inl k2),S.le⟩
   have tr:∀{m m':Sm (ForInStep (Option Unit×Nat))} {R:ForInStep (Option Unit×Nat)->SortSt->Prop} {st2:SortSt},m=m'->wpS (model prog w) A E s m' R st2->wpS (model prog w) A E s m R st2:=λe h=>e▸h;by_cases hm:n<mr
   .rw[zAx hm];refine Zaa (wpS_lift (wpAny_rule ⟨rfl,?_⟩));refine Zaa (Jm hL h0 Zz Zz B1 NY λst2 B2 O2 bX=>?_);rw[zAw Zx];refine tr ?_ (yw hL h0 ⟨B2,by rw[O2.pend];exact S1.ch.same λk _ k2=>O2.out k (.inl k2),S.le⟩ Zz Zz bX fh λiL S3=>⟨rfl,S3,by dsimp only;lia⟩)
    .skip
     unfold rest;refine bc rfl (funext λs=>?_)
     cases(pendingOf s).back? with
     |none=>rfl
     |some q=>
      obtain⟨s1,n1,p⟩:=q;refine bc (fi (funext λx=>funext λc=>bc rfl (funext λs=>?_))) (funext λc=>?_)
      .generalize(if(pendingOf s).size>1 then(pendingOf s)[(pendingOf s).size-2]? else none)=o
       cases o with
       |none=>rfl
       |some r=>
        obtain⟨r1,r2,r3⟩:=r;exact ic rfl (bc rfl (funext λb=>rfl))
      .obtain⟨r,u⟩:=c;cases r<;>rfl
   .rw[zAw hm];refine tr ?_ (yw hL h0 S1 n1 Zz NY fh λiL S3=>⟨rfl,S3,by dsimp only;lia⟩)
    .skip
     unfold rest;refine bc rfl (funext λs=>?_)
     cases(pendingOf s).back? with
     |none=>rfl
     |some q=>
      obtain⟨s1,n1,p⟩:=q;refine bc (fi (funext λx=>funext λc=>bc rfl (funext λs=>?_))) (funext λc=>?_)
      .generalize(if(pendingOf s).size>1 then(pendingOf s)[(pendingOf s).size-2]? else none)=o
       cases o with
       |none=>rfl
       |some r=>
        obtain⟨r1,r2,r3⟩:=r;exact ic rfl (bc rfl (funext λb=>rfl))
      .obtain⟨r,u⟩:=c;cases r<;>rfl
 .rintro⟨c0,lo⟩ Zr ⟨h1,S,h2⟩;dsimp only at h1 S h2⊢
  have e:lo=ae.size:=by
   have:=S.le;lia
  rw[<-e];exact⟨h1,S⟩
 .rintro⟨c0,lo⟩ Zr ⟨h1,S⟩;dsimp only at h1;subst h1;dsimp only
  have one:∀{Zr:SortSt},St κ ks ae Zr ae.size->(pendingOf Zr).size<=1->Seg κ (arrOf Zr) 0 ae.size:=λ{Zr} S hs=>by
   have c:=S.ch;rw[<-zA9]at hs
   cases e:(pendingOf Zr).toList with
   |nil=>
    rw[e]at c;have c:0=ae.size:=c;intro i j _ _ h3;lia
   |cons r l=>
    rw[e]at c hs
    have l0:l=[]:=by
     cases l with
     |nil=>rfl
     |cons _ _=>rw[zAe,zAe]at hs;lia
    rw[l0]at c;obtain⟨_,_,sg,c4⟩:=c;have c4:0+r.2.1=ae.size:=c4;rw[c4]at sg;exact sg
  have p0:(pendingOf Zr).size<=ae.size:=by
   have:=Ch.le S.ch;rw[zA9]at this;lia
  refine Zaa (wpS_mono (wpS_forRange (I:=λx c st2=>c=(none,())/\St κ ks ae st2 ae.size/\(pendingOf st2).size+x<=ae.size) (Q:=λc st2=>c=(none,())/\St κ ks ae st2 ae.size/\(pendingOf st2).size<=1) ?_ ?_ ⟨rfl,S,Zz⟩) ?_)
  .rintro x c st2 _ hx ⟨rfl,S2,BG⟩;refine Zaa (wpS_get ?_);by_cases h1:(pendingOf st2).size<=1
   .rw[zAx h1];exact Zab ⟨rfl,S2,h1⟩
   .rw[zAw h1];have hz:2<=(pendingOf st2).size:=Zz
    refine Zaa (v6 hL h0 S2 (Nat.lt_of_le_of_lt (Nat.succ_le_succ (ifl _ _)) (show(pendingOf st2).size-2+1<(pendingOf st2).size by lia)) λiL S3 z3 _=>?_);rw[zAw Zx];exact Zab ⟨rfl,S3,Zz⟩
  .rintro c st2 ⟨rfl,S2,BG⟩;exact⟨rfl,S2,Zz⟩
  .rintro c st2 ⟨rfl,S2,BG⟩;exact Zab (h st2 S2.base (one S2 BG))
end
end Srt
namespace L2
open PySem PySem.Spec PyProof.Rows PySem.Calls
variable{row:Addr->PP}{X:Cx}{tg:Expr}{H:Hp}{P:Program}{Q:Value->Shared->Prop}
theorem tR:∀a:PP,HT.lexLt a a=false
 |[]=>rfl
 |x::xs=>by
  rw[HT.lexLt_cons,zAx rfl];exact tR xs
theorem nu:∀a b:PP,HT.lexLt a b=false->HT.lexLt b a=false->a=b
 |[],[],_,_=>rfl
 |[],_::_,h,_=>by cases h
 |_::_,[],_,h=>by cases h
 |x::xs,y::ys,h1,h2=>by
  rw[HT.lexLt_cons]at h1 h2;by_cases e:x=y
  .subst e;rw[zAx rfl]at h1 h2;rw[nu xs ys h1 h2]
  .rw[zAw e]at h1;rw[zAw (Ne.symm e)]at h2;have h1:=of_decide_eq_false h1;have h2:=of_decide_eq_false h2;lia
theorem tU:∀a b c:PP,HT.lexLt a b=true->HT.lexLt b c=true->HT.lexLt a c=true
 |[],[],_,h,_=>by cases h
 |[],_::_,[],_,h=>by cases h
 |[],_::_,_::_,_,_=>rfl
 |_::_,[],_,h,_=>by cases h
 |_::_,_::_,[],_,h=>by cases h
 |x::xs,y::ys,z::zs,h1,h2=>by
  rw[HT.lexLt_cons]at h1 h2⊢;by_cases e1:x=y
  .subst e1;rw[zAx rfl]at h1;by_cases e2:x=z
   .subst e2;rw[zAx rfl]at h2⊢;exact tU xs ys zs h1 h2
   .rw[zAw e2]at h2⊢;exact h2
  .rw[zAw e1]at h1;have h1:=zB6 h1;by_cases e2:y=z
   .subst e2;rw[zAw e1];exact zAt h1
   .rw[zAw e2]at h2;have h2:=zB6 h2;rw[zAw Zz];exact zAt Zz
theorem yx(a b c:PP)(h:HT.lexLt a c=true):HT.lexLt a b=true\/HT.lexLt b c=true:=by
 cases e1:HT.lexLt a b with
 |true=>exact .inl rfl
 |false=>
  cases e2:HT.lexLt b a with
  |true=>exact .inr (tU b a c e2 h)
  |false=>exact .inr (by rw[<-nu a b e1 e2];exact h)
def G9(ads:List Addr)(row:Addr->PP):PyProof.Rows.KeyKind where
 α:=PP
 blt:=HT.lexLt
 irrefl:=tR
 trans:=tU
 negTrans:=yx
 total:=nu
 keyOf:=λu=>match u with
  |.ref a=>if ads.contains a=true then some (row a)else none
  |_=>none
 dflt:=[]
section
open PySem.W
variable{prog:Program}{w:World}{A:Around}{E:Value->Shared->Prop}{s:Shared}
theorem CK{Q:Bool->Shared->Prop}:∀{ns ms:PP} {us vs:List Value} {i:Nat},Vals (ns.map V.int) us->Vals (ms.map V.int) vs->Q (HT.lexLt ns ms) s->KatLex prog w A true (decide (ns.length<ms.length)) Q (us.zip vs) i s
 |[],[],_,_,_,.nil,.nil,h=>h
 |[],_::_,_,_,_,.nil,.cons _ _,h=>by
  refine kat_nil ?_;rw[zAt Zy];exact h
 |_::_,[],_,_,_,.cons _ _,.nil,h=>by
  refine kat_nil ?_;rw[zB2 Zy];exact h
 |x::ns,y::ms,_,_,i,.cons r1 t1,.cons r2 t2,h=>by
  obtain⟨k1,rfl⟩:=r1;obtain⟨k2,rfl⟩:=r2;rw[HT.lexLt_cons]at h;refine kat_cons (wpAny_eqBool_int ?_);by_cases e:x=y
  .subst e;rw[zAx rfl]at h;rw[show(x==x)=true from beq_self_eq_true x];refine kat_yes ?_;have:=CK (i:=i+1) t1 t2 h;rw[show decide ((x::ns).length<(x::ms).length)=decide (ns.length<ms.length) by rw[zAe,zAe];exact decide_eq_decide.mpr Zz];exact this
  .rw[zAw e]at h;rw[show(x==y)=false from beq_false_of_ne e];refine kat_no ?_
   cases hi:(true&&i==0)with
   |true=>exact oneLt_int h
   |false=>exact kat_one _ _ (lt_int h)
theorem Ga{x y:Addr}{ox oy:Obj}{nx ny:Nat}{ns ms:PP}{us vs:List Value}{Q:Bool->Shared->Prop}(hx:s.heap.get? x=some ox)(dx:ox.data=.seq us.toArray nx)(hy:s.heap.get? y=some oy)(dy:oy.data=.seq vs.toArray ny)
  (r1:Vals (ns.map V.int) us) (r2:Vals (ms.map V.int) vs) (h:Q (HT.lexLt ns ms) s):wpAny (model prog w) A (keyLt' (tuples' true) (.ref x) (.ref y)) Q E s:=by
 refine kat_lt hx dx hy dy ?_;have l1:=r1.length;have l2:=r2.length;rw[zA1]at l1 l2;have:=CK (prog:=prog) (w:=w) (A:=A) (s:=s) (Q:=Q) (i:=0) r1 r2 h;rw[zA8,zA8,<-l1,<-l2];exact this
theorem Gb{l:Addr}{vs:List Value}{R:List Value->Prop}(lst:s.heap.IsList l vs.toArray)(fits:vs.length<=sizeLine)(small:vs.length<2->R vs)
  (big:2<=vs.length->∀g,(∀b o,s.heap.get? b=some o->g.get? b=some o)->wpAny (model prog w) A.in1.in1 (keyKind' vs.toArray) (λκ s1=>s1={s with heap:=g} /\
    wpS (model prog w) A.in1.in1 (λ_ _=>False) {s with heap:=g} sortRuns' (λ_ st=>failedOf st=none/\∃out,(arrOf st).map (·.2)=List.toArray out/\R out) (SortSt.mk' κ (vs.toArray.zip vs.toArray) #[] 7 none)) (λ_ _=>False) {s with heap:=g})
  (len:∀out,R out->out.length=vs.length)
  (fin:∀out,R out->∀h2 c,(∀b o,s.heap.get? b=some o->h2.get? b=some o)->h2.get? (s.heap.objs.size+1)=some (seqObj "list" out.toArray c)->Q (.ref (s.heap.objs.size+1)) {s with heap:=h2}):
  wpAny (model prog w) A (call (.builtin "sorted") [.ref l]) Q E s:=by
 refine call_function_entry kind_sorted plain_sorted entry_sorted (args_sorted1 _) ?_;unfold Builtin.«sorted»;refine zAv (m:=checkCount "sorted" 1 1 _) (zAz (zAv (collect_list lst ?_ fits)));refine zAv (wpAny_newList ?_ fits);have lI:((s.heap.push (seqObj "list" #[] 0)).update s.heap.objs.size (Obj.mapSeq (·++vs.toArray))).objs.size=s.heap.objs.size+1:=by rw[Heap.size_update,Heap.size_push]
 obtain⟨g1,B0⟩:∃g1,g1=((s.heap.push (seqObj "list" #[] 0)).update s.heap.objs.size (Obj.mapSeq (·++vs.toArray))).push (seqObj "list" vs.toArray 0):=⟨_,rfl⟩
 have B7:g1.get? (s.heap.objs.size+1)=some (seqObj "list" vs.toArray 0):=by rw[B0,<-lI];exact zB4 _ rfl
 have QG:∀b o,s.heap.get? b=some o->g1.get? b=some o:=λb o q=>by
  have lt:b<s.heap.objs.size:=zB0 q;rw[B0,Heap.get?_push_ne _ _ _ (by rw[lI];exact zBd (Nat.lt_succ_of_lt lt)),Heap.get?_update_ne _ _ _ _ (zBd lt),Heap.get?_push_ne _ _ _ (zBd lt)];exact q
 show wpAny _ _ _ _ _ {s with heap:=_};rw[lI,show((s.heap.push (seqObj "list" #[] 0)).update s.heap.objs.size (Obj.mapSeq (·++vs.toArray))).push (seqObj "list" vs.toArray 0)=g1 from B0.symm];refine zAv (wpAny_holding (wpAny_call_entry slot_list_sort ⟨_,B7,rfl⟩ entry_list_sort ?body (args_list_sort _)))
 obtain⟨D,eD⟩:∃D,D=s.heap.objs.size+1:=⟨_,rfl⟩
 rw[<-eD]at B7 fin⊢
 have apart:∀b o,s.heap.get? b=some o->b≠D:=λb o q e=>by
  have lt:b<s.heap.objs.size:=zB0 q;rw[e,eD]at lt;exact absurd lt (Nat.not_lt_of_le (Zar _))
 obtain⟨g2,GV⟩:∃g2,g2=g1.update D (Obj.mapSeq λ_=>(#[]:Array Value)):=⟨_,rfl⟩
 have B8:Heap.SameBut D g1 g2:=GV▸Heap.SameBut.update g1 D _
 obtain⟨e1,at2⟩:∃e1,g2.get? D=some (seqObj "list" #[] e1):=⟨_,GV▸get?_update_seq B7 λ_=>#[]⟩
 obtain⟨g3,GW⟩:∃g3,g3=(g2.push (seqObj "tuple" vs.toArray 0)).push (seqObj "list" #[] 0):=⟨_,rfl⟩
 have zt:g3.get? D=some (seqObj "list" #[] e1):=GW▸zAy _ (zAy _ at2);have GY:∀b o,s.heap.get? b=some o->g3.get? b=some o:=λb o q=>GW▸zAy _ (zAy _ ((B8.2 b (apart b o q)).trans (QG b o q)));rw[list_sort_plain];refine zAv (listItems_at B7 rfl (zAv (listUpdate_at B7 rfl ?_ (by rw[zA8];exact fits) (zAp _))));rw[<-GV];refine zAv (seqEpoch_at at2 rfl (zAv (wpAny_newTuple (zAv (wpAny_newList (wpAny_holding ?_) (zAp _))) fits)));show wpAny (model prog w) A.in1.in1 _ _ _ {s with heap:=(g2.push (seqObj "tuple" vs.toArray 0)).push (seqObj "list" #[] 0)};rw[<-GW];dsimp only;by_cases two:vs.toArray.size<2
 .have wm:vs.length<2:=by rw[zA8]at two;exact two
  rw[zAx two,zAx two];refine zAv (zAz ?_);show wpAny _ _ (do let r <-(pure ((),SortSt.mk' general' (vs.toArray.zip vs.toArray) #[] 7 none):Sem (Unit×SortSt));_) _ _ _;refine zAv (zAz ?_);dsimp only
  have em:(vs.toArray.zip vs.toArray).map (·.2)=vs.toArray:=by
   apply Array.toList_inj.mp;simp only[Array.toList_map,Array.toList_zip];exact List.map_snd_zip (zA3 _)
  rw[em];refine zAv (seqEpoch_at zt rfl (zAv (listUpdate_at zt rfl ?_ (zAp _) (by rw[zA8];lia))));simp only[bne_self_eq_false,Bool.false_eq_true,if_false];have G0:=Heap.SameBut.update g3 D (Obj.mapSeq λ_=>vs.toArray);exact zAz ⟨_,rfl,zAz ⟨_,rfl,fin vs (small wm) _ _ (λb o z=>(G0.2 b (apart b o z)).trans (GY b o z)) (get?_update_seq zt _)⟩⟩
 .have wm:2<=vs.length:=by rw[zA8]at two;lia
  rw[zAw two,zAw two];refine zAv (wpAny_mono (big wm g3 GY) (λκ s1=>?_) λ_ _ x=>x.elim);rintro⟨oS,run⟩;subst oS;refine zAv (wpAny_mono run ?_ λ_ _ x=>x.elim);rintro⟨⟨⟩,st⟩ s2 ⟨QH,NZ,out,B9,hR⟩;subst QH;dsimp only at NZ B9⊢;rw[B9];refine zAv (seqEpoch_at zt rfl (zAv (listUpdate_at zt rfl ?_ (zAp _) (by rw[zA8,len out hR];lia))));rw[NZ];simp only[bne_self_eq_false,Bool.false_eq_true,if_false];have G0:=Heap.SameBut.update g3 D (Obj.mapSeq λ_=>out.toArray);exact zAz ⟨_,rfl,zAz ⟨_,rfl,fin out hR _ _ (λb o z=>(G0.2 b (apart b o z)).trans (GY b o z)) (get?_update_seq zt _)⟩⟩
theorem oY{g:Heap}{ads:List Addr}{row:Addr->PP}:∀{l:List Addr},(∀a∈l,∃(us:List Value) (o:Obj) (n:Nat),g.get? a=some o/\o.cls=.type "tuple"/\o.data=.seq us.toArray n/\Vals ((row a).map V.int) us/\row a≠[])->∃fs,KatTups g (l.map Value.ref) fs/\fs.length=l.length/\∀v∈fs,∃i t,v=.int i t
 |[],_=>⟨[],.nil,rfl,λ_ h=>absurd h Zy⟩
 |a::l,h=>by
  obtain⟨us,o,n,h1,h2,h3,h4,h5⟩:=h a (.head _);obtain⟨fs,k,hl,hi⟩:=oY (ads:=ads) (row:=row) (l:=l) λb hb=>h b (.tail _ hb)
  cases er:row a with
  |nil=>exact absurd er h5
  |cons i r=>
   rw[er]at h4
   cases h4 with
   |cons r1 t1=>
    obtain⟨t,rfl⟩:=r1;refine⟨_,.cons h1 h2 h3 (f:=.int i t) Zy k,by rw[zAe,zAe,hl],λv hv=>?_⟩;rcases zAo.mp hv with z|z
    .exact⟨i,t,z⟩
    .exact hi v z
theorem Gd{l:List Addr}{Q:SortKind->Shared->Prop}(obj:∀a∈l,∃(us:List Value) (o:Obj) (n:Nat),s.heap.get? a=some o/\o.cls=.type "tuple"/\o.data=.seq us.toArray n/\Vals ((row a).map V.int) us/\row a≠[])(hl:0<l.length)(h:Q (tuples' true) s):
  wpAny (model prog w) A (keyKind' (l.map Value.ref).toArray) Q E s:=by
 obtain⟨fs,kt,fl,fi⟩:=oY (ads:=l) (row:=row) obj;refine PySem.W.kat_kind (T:=.type "int") kt (by rw[fl];exact hl) (λv hv=>?_) Zx h;obtain⟨i,t,rfl⟩:=fi v hv;exact .now
theorem wV{l:List Addr}(obj:∀a∈l,∃(us:List Value) (o:Obj) (n:Nat),s.heap.get? a=some o/\o.cls=.type "tuple"/\o.data=.seq us.toArray n/\Vals ((row a).map V.int) us/\row a≠[]):
  Srt.LtAll prog w A E s (G9 l row) (tuples' true):=λst hk x y a b Q' ka kb hQ=>by
 obtain⟨x1,x2⟩:=x;obtain⟨y1,y2⟩:=y
 cases x1 with
 |ref xa=>
  cases y1 with
  |ref ya=>
   have ka:(if l.contains xa=true then some (row xa)else none)=some a:=ka;have kb:(if l.contains ya=true then some (row ya)else none)=some b:=kb;by_cases c1:l.contains xa=true
   .rw[zAx c1]at ka;by_cases c2:l.contains ya=true
    .rw[zAx c2]at kb;cases ka;cases kb;obtain⟨WS,o1,n1,g1,_,d1,r1,_⟩:=obj xa (by simpa using c1);obtain⟨WT,o2,n2,g2,_,d2,r2,_⟩:=obj ya (by simpa using c2);rw[lt'_eq];refine Zaa (wpS_get ?_);rw[hk];refine Zaa (wpS_lift (wpAny_attempt (Ga g1 d1 g2 d2 r1 r2 ⟨rfl,?_⟩)));exact Zab hQ
    .rw[zAw c2]at kb;cases kb
   .rw[zAw c1]at ka;cases ka
  |_=>cases kb
 |_=>cases ka
theorem v7(l:List Addr):((l.map Value.ref).toArray.zip (l.map Value.ref).toArray).toList=l.map λa=>(Value.ref a,Value.ref a):=by
 rw[Array.toList_zip];show(l.map Value.ref).zip (l.map Value.ref)=_;rw[List.zip_map']
theorem qW(l:List Addr)(row:Addr->PP):KeysOf (G9 l row) ((l.map Value.ref).toArray.zip (l.map Value.ref).toArray):=λz dv=>by
 rw[v7]at dv;obtain⟨a,ha,rfl⟩:=zA5.mp dv;refine⟨row a,?_⟩;show(if l.contains a=true then some (row a)else none)=some (row a);rw[zAx (by simpa using ha)]
def CN(p:Keyed):Addr:=match p.1 with
 |.ref a=>a
 |_=>0
theorem v8{l:List Addr}{a:Addr}(h:a∈l):Srt.key (G9 l row) (Value.ref a,Value.ref a)=row a:=by
 show(if l.contains a=true then some (row a)else none).getD []=row a;rw[zAx (by simpa using h)];rfl
theorem Aj{l:List Addr}(obj:∀a∈l,∃(us:List Value) (o:Obj) (n:Nat),s.heap.get? a=some o/\o.cls=.type "tuple"/\o.data=.seq us.toArray n/\Vals ((row a).map V.int) us/\row a≠[]){Q:Unit->SortSt->Prop}
  (h:∀st (l':List Addr),failedOf st=none->(arrOf st).map (·.2)=List.toArray (l'.map Value.ref)->l'.Perm l->l'.Pairwise (λa b=>HT.lexLt (row b) (row a)=false)->Q () st):
  wpS (model prog w) A E s sortRuns' Q (SortSt.mk' (tuples' true) ((l.map Value.ref).toArray.zip (l.map Value.ref).toArray) #[] 7 none):=by
 refine Srt.runs_wp (κ:=G9 l row) (ks:=tuples' true) (wV obj) (qW l row) ⟨rfl,rfl,.refl _⟩ rfl λZr B sg=>?_;have zw:=Array.perm_iff_toList_perm.mp B.pm;rw[v7]at zw
 have e:(arrOf Zr).toList=((arrOf Zr).toList.map CN).map (λa=>(Value.ref a,Value.ref a)):=by
  rw[zAr]
  conv=>lhs;rw[<-List.map_id (arrOf Zr).toList]
  refine List.map_congr_left λz dv=>?_;obtain⟨a,ha,rfl⟩:=zA5.mp (zw.mem_iff.mp dv);rfl
 have pm:((arrOf Zr).toList.map CN).Perm l:=by
  have:=zw.map CN;rw[zAr]at this;rw[show(CN∘λa=>(Value.ref a,Value.ref a))=id from rfl,List.map_id]at this;exact this
 generalize(arrOf Zr).toList.map CN=l' at e pm;refine h Zr l' B.ok ?_ pm ?_
 .apply Array.toList_inj.mp;rw[Array.toList_map,e,zAr];rfl
 .have ka:=Srt.keys_perm (qW l row) B.pm;have:=Srt.pw_of_seg ka (by rw[B.size];exact zA3 _) sg;rw[List.drop_zero,<-B.size,<-zA9,zAm,e,Zan]at this;refine this.imp_of_mem λ{a b} ha hb hle=>?_;unfold Srt.leK at hle;rw[v8 (pm.mem_iff.mp ha),v8 (pm.mem_iff.mp hb)]at hle;exact hle
end
section
variable{X:Cx}
theorem qX:∀{l:List Addr} {us:List Value},Vals (l.map V.ref) us->us=l.map Value.ref
 |[],_,.nil=>rfl
 |a::l,_,.cons r t=>by
  rw[qX t,show _=Value.ref a from r];rfl
theorem yz:∀(l:List Addr),Vals (l.map V.ref) (l.map Value.ref)
 |[]=>.nil
 |_::l=>.cons rfl (yz l)
theorem CP{α:Type}{R:α->α->Prop}:∀{l:List α},l.length<2->l.Pairwise R
 |[],_=>.nil
 |[_],_=>List.pairwise_singleton _ _
 |_::_::_,h=>absurd h Zy
theorem dH:dG X (.builtin "sorted") (λxs H Q=>∃(p:Addr) (l:List Addr) (row:Addr->PP),xs=[.ref p]/\SqL X.K H p (l.map V.ref)/\(∀a∈l,SqT X.K H a ((row a).map V.int)/\row a≠[]) /\
  ∀(q:Addr) (l':List Addr),H q=none->q≠sysModules->l'.Perm l->l'.Pairwise (λa b=>HT.lexLt (row b) (row a)=false)->Q (.ref q) (upd H q (.lst (l'.map V.ref)))):=by
 intro Zt s σ H xs us Q I r h;obtain⟨p,l,row,rfl,hp,wo,q⟩:=h;obtain⟨u,rfl,ru⟩:=vals1 r;cases ru;obtain⟨Zs,rv,pl,hz⟩:=I.list hp;have ei:=qX rv;subst ei
 have hlen:(l.map Value.ref).length<=sizeLine:=by
  rw[zA1]at hz⊢;exact hz
 have obj:∀a∈l,∃(us:List Value) (o:Obj) (n:Nat),s.heap.get? a=some o/\o.cls=.type "tuple"/\o.data=.seq us.toArray n/\Vals ((row a).map V.int) us/\row a≠[]:=λa ha=>by
  obtain⟨ht,gz⟩:=wo a ha;obtain⟨as,ra,pa,_⟩:=I.tuple ht;obtain⟨oa,ga,ca,na,da⟩:=pa;exact⟨as,oa,na,ga,ca,da,ra,gz⟩
 refine Gb (R:=λout=>∃l':List Addr,out=l'.map Value.ref/\l'.Perm l/\l'.Pairwise λa b=>HT.lexLt (row b) (row a)=false) pl.isList hlen (λhs=>⟨l,rfl,.refl _,?_⟩) (λhb g kp=>?_) (λout ⟨l',e,pm,_⟩=>by rw[e,zA1,zA1,pm.length_eq]) λout ⟨l',e,pm,pw⟩ h2 c kp2 at2=>?_
 .rw[zA1]at hs;exact CP hs
 .have Cb:∀a∈l,∃(us:List Value) (o:Obj) (n:Nat),g.get? a=some o/\o.cls=.type "tuple"/\o.data=.seq us.toArray n/\Vals ((row a).map V.int) us/\row a≠[]:=λa ha=>by
   obtain⟨us,o,n,h1,h2⟩:=obj a ha;exact⟨us,o,n,kp _ _ h1,h2⟩
  refine Gd (s:={s with heap:=g}) Cb (by rw[zA1]at hb;lia) ?_;refine⟨rfl,Aj (s:={s with heap:=g}) Cb λst l' e1 e2 e3 e4=>⟨e1,l'.map Value.ref,e2,l',rfl,e3,e4⟩⟩
 .subst e;exact⟨.ref (s.heap.objs.size+1),_,I.laid (t':=s.toks) kp2 (Zar _) (show ObjOk X.prog X.w _ h2 _ (.lst (l'.map V.ref))from⟨by rw[zA1,pm.length_eq];rw[zA1]at hz;exact hz,_,c,yz l',at2⟩),rfl,q _ l' (I.hok.fresh (Zar _)) (Nat.ne_of_gt (zB5 I.big (Zar _))) pm pw⟩
theorem iw:dG X (.builtin "sorted") (λxs H Q=>∃(p:Addr) (l:List Addr) (row:Addr->PP),xs=[.ref p]/\SqL X.K H p (l.map V.ref)/\(∀a∈l,SqT X.K H a ((row a).map V.int)/\row a≠[]) /\
  ∀(q:Addr) (l':List Addr),H q=none->l'.Perm l->l'.Pairwise (λa b=>HT.lexLt (row b) (row a)=false)->Q (.ref q) (upd H q (.lst (l'.map V.ref)))):=by
 intro Zt s σ H xs us Q I r h;obtain⟨p,l,row,e,hp,wo,q⟩:=h;exact dH Zt s σ H xs us Q I r ⟨p,l,row,e,hp,wo,λq' l' a _ b c=>q q' l' a b c⟩
end
theorem Ak{M:Model}{A:Around}{E:Value->Shared->Prop}{s:Shared}{a b:Value}(ha:s.TypeIs a "list")(hb:s.TypeIs b "list")(hc:wpAny M A (call (.builtin "list.__iadd__") [a,b]) Q E s):wpAny M A (inplaceOp .Add a b) Q E s:=by
 unfold inplaceOp;refine wpAny_holding ?_;have hl:typeLookup (.type "list") (dunderI "add")=pure (some (.builtin "list.__iadd__")):=F.slot_list_iadd.lookup
 have QI:fillsInplaceSlot (.type "list") "add" (Operator.Add==.Add)=pure false:=by
  unfold fillsInplaceSlot;show(typeLookup (.type "list") (dunderI "add")>>=λfi=>pure (fi.isSome&&!isSeqSlot fi))=pure false;rw[hl];have:isSeqSlot (some (.builtin "list.__iadd__"))=true:=by decide +kernel
  show(pure (true&&!isSeqSlot (some (.builtin "list.__iadd__"))):Sem Bool)=_;rw[this];rfl
 have QJ:seqSlot? (.type "list") (dunderI "add")=pure (some (.builtin "list.__iadd__")):=PySem.seqSlot_of F.slot_list_iadd.lookup Zv;refine zAv (wpAny_typeOf ha (zAv (wpAny_of_eq QI ?_)));show wpAny M A (if false=true then _ else _) Q E s;rw[zAw zAg];refine zAv (wpAny_binaryOp1_none (nm:="add") ha hb noFill_list_add ?_);refine zAv (wpAny_of_eq QJ ?_);exact zAv (wpAny_rule hc)
inductive RICatI(x:V)(y:V)(H:Hp)(Q:VK):Prop
 |mk:∀l b xs zs,(x=.ref l)->(y=.ref b)->(H l=some (.lst xs))->(H b=some (.lst zs))->(xs.length+zs.length<=sizeLine)->(Q (.ref l) (upd H l (.lst (xs++zs))))->RICatI  x y H Q
def KQ:TIp:=λx y H Q=>RICatI  x y H Q
theorem tV:PIp X .Add KQ:=by
 intro Zt s σ H x y v u Q I rx ru h;obtain⟨l,b,xs,zs,rfl,rfl,hH,hB,hz,q⟩:=h;cases rx;cases ru;obtain⟨z,Zs,n,r,hl,e⟩:=I.lstM hH;obtain⟨z2,cq,n2,r2,iX,e2⟩:=I.lstM hB;have hsz:Zs.toArray.size+cq.toArray.size<=sizeLine:=by rw[zA8,zA8];lia
 have gu:¬(!Zs.toArray.isEmpty&&Builtin.List.listTooLong (Zs.toArray.size+cq.toArray.size))=true:=by
  rw[nW hsz,Bool.and_false];exact zAg
 refine Ak ⟨_,e,rfl⟩ ⟨_,e2,rfl⟩ (call_meets F.slot_list_iadd ⟨_,e,rfl⟩ F.entry_list_iadd (F.args_list_iadd_2 _ _)
  (AutoSeq1.list___iadd___list_list_0 l Zs.toArray n b cq.toArray n2 gu (by rw[zA8];lia) Zz) ⟨e,e2,?_⟩)
 refine⟨.ref l,_,I.lset (its':=Zs++cq) hH e Zy (r.append r2) ?_,rfl,q⟩;rw[zA2];lia
section
variable{prog:Program}{w:World}{A:Around}{E:Value->Shared->Prop}{s:Shared}{d it:Addr}{o:Obj}{es:Array DictEntry}{ep i:Nat}
theorem Ge{R:Value->Shared->Prop}(n1:(d==sysModules)=false)(g1:s.heap.get? d=some o)(g2:o.ExactDict)(g3:o.data=.dict es ep)
  (q:R (.ref s.heap.objs.size) {s with heap:=s.heap.push {cls:=.type "dict_keyiterator",data:=.fields #[.ref d,.int 0 0,.int es.size 0,.int ep 0]}}):wpAny (model prog w) A (pyIter (.ref d)) R E s:=by
 have ty:s.TypeIs (.ref d) "dict":=⟨o,g1,g2.1⟩
 refine wpAny_pyIter_slot ty F.slot_dict_iter (wpAny_call_entry F.slot_dict_iter ty F.entry_dict_iter ?_ (F.args_dict_iter_1 _));unfold Builtin.«dict.__iter__»;refine zAv ?_;unfold Builtin.Dict.dictSlotNone;refine zAv (wpAny_notOrdered_dict ty (show wpAny _ _ (pure (Value.ref d)) _ _ s from zAz ?_));show wpAny (model prog w) _ (Builtin.Dict.showsAll d>>=_) _ E s;unfold Builtin.Dict.showsAll;rw[n1,zAw zAg];refine zAv (zAz (zAv (wpAny_dictEntries g1 g3 (zAv (wpAny_dictEpoch g1 g3 ?_)))));refine zAv (Zac (zAz ⟨_,rfl,"dict_keyiterator",_,⟨_,zB4 _ rfl,rfl⟩,F.slot_dict_keyiterator_next.lookup,?_⟩));exact q
theorem Gf{e:DictEntry}{R:Option Value->Shared->Prop}(st:s.heap.IsKeyIter it d i es.size ep)(g1:s.heap.get? d=some o)(g3:o.data=.dict es ep)(hx:es[i]?=some e)
  (q:∀h',h'.IsKeyIter it d (i+1) es.size ep->Heap.SameBut it s.heap h'->R (some e.key) {s with heap:=h'}):wpAny (model prog w) A (pyNext (.ref it)) R E s:=by
 obtain⟨oi,i1,i2,i3⟩:=id st;have hb:i<es.size:=(Array.getElem?_eq_some_iff.mp hx).1;unfold pyNext;refine zAv (wpAny_attempt (wpAny_callSpecial?_slot (name:=Str.ofString "__next__") st.typeIs F.slot_dict_keyiterator_next (wpAny_call_entry F.slot_dict_keyiterator_next st.typeIs F.entry_dict_keyiterator_next ?_ (F.args_dict_keyiterator_next_1 _))));refine zAv (zAz (zAv (zAv ?_)));refine zAv (wpAny_typeNameOfWhole_keyiter st.typeIs (zAz (zAv (wpAny_fieldsOf i1 i3 ?_))));have ow:Builtin.Dict_items.ownsTuple "dict_keyiterator"=false:=by decide
 simp only[ow,Bool.false_eq_true,if_false];show wpAny (model prog w) _ (if(Value.ref d==Value.none)=true then _ else _) _ _ s;rw[zAw (show¬(Value.ref d==Value.none)=true from zAg)];refine zAv (zAz (zAv (wpAny_dictEntries g1 g3 ?_)));rw[zAw Zy];refine zAv (zAz (zAv (wpAny_dictEpoch g1 g3 ?_)));rw[zAw Zy];refine zAz ?_;simp only[show¬((i:Int)<0)from by lia,if_false,Int.toNat_natCast,hx];refine zAv (zAv (wpAny_typeNameOfWhole_keyiter st.typeIs (zAz ?_)));refine zAv (wpAny_isOneOf_keyiter st.typeIs ?_);show wpAny (model prog w) _ (setField (.ref it) 1 (rawInt ((i:Int)+1))>>=_) _ _ s;refine zAv (wpAny_setField i1 i3 Zy ?_)
 have Zr:(s.heap.update it (Obj.mapFields (·.setIfInBounds 1 (rawInt ((i:Int)+1))))).IsKeyIter it d (i+1) es.size ep:=
  ⟨_,Heap.get?_update_self _ i1 (Obj.isFreed_of_fields (Obj.data_mapFields i3 _)),(Obj.cls_mapFields ..).trans i2,by rw[Obj.data_mapFields i3];simp[rawInt]⟩
 refine zAv (wpAny_holding (zAv (wpAny_isOneOf_keyiter (s:={s with heap:=s.heap.update it (Obj.mapFields (·.setIfInBounds 1 (rawInt ((i:Int)+1))))}) Zr.typeIs ?_)));show wpAny (model prog w) _ (pure e.key) _ _ _;exact zAz (zAz ⟨_,rfl,zAz (q _ Zr (Heap.SameBut.update ..))⟩)
theorem Jo{R:Option Value->Shared->Prop}(hh:A.handled=none)(st:s.heap.IsKeyIter it d i es.size ep)(g1:s.heap.get? d=some o)(g3:o.data=.dict es ep)(hx:es.size<=i)
  (q:∀h',Heap.ExtBut it s.heap h'->R none {s with heap:=h'}):wpAny (model prog w) A (pyNext (.ref it)) R E s:=by
 obtain⟨oi,i1,i2,i3⟩:=id st;unfold pyNext;refine zAv (wpAny_attempt (wpAny_callSpecial?_slot (name:=Str.ofString "__next__") st.typeIs F.slot_dict_keyiterator_next (wpAny_call_entry F.slot_dict_keyiterator_next st.typeIs F.entry_dict_keyiterator_next ?_ (F.args_dict_keyiterator_next_1 _))));refine zAv (zAz (zAv (zAv ?_)));refine zAv (wpAny_typeNameOfWhole_keyiter st.typeIs (zAz (zAv (wpAny_fieldsOf i1 i3 ?_))));have ow:Builtin.Dict_items.ownsTuple "dict_keyiterator"=false:=by decide
 simp only[ow,Bool.false_eq_true,if_false];show wpAny (model prog w) _ (if(Value.ref d==Value.none)=true then _ else _) _ _ s;rw[zAw (show¬(Value.ref d==Value.none)=true from zAg)];refine zAv (zAz (zAv (wpAny_dictEntries g1 g3 ?_)));rw[zAw Zy];refine zAv (zAz (zAv (wpAny_dictEpoch g1 g3 ?_)));rw[zAw Zy];refine zAz ?_;simp only[show¬((i:Int)<0)from by lia,if_false,Int.toNat_natCast,Array.getElem?_eq_none hx];refine zAv (zAv (wpAny_typeNameOfWhole_keyiter st.typeIs (zAz ?_)));show wpAny (model prog w) _ (setField (.ref it) 0 .none>>=_) _ _ s;refine zAv (wpAny_setField i1 i3 Zy ?_);show wpAny (model prog w) _ (newExc (.type "StopIteration") []>>=_) _ _ _;refine zAv ?_;simp only[newExc,newTuple];refine zAv (Zac (zAv (m:=firstArgMember _ _) (wpAny_of_eq (a:=Value.none) (by first|rfl | (simp only[firstArgMember];rfl)) ?_)) (by size_fits));refine Zac ?_ (by size_fits);simp only[raiseNew];refine zAv (wpAny_handled ?_);rw[show A.in1.handled=none from hh];refine zAv (zAz (wpAny_throw ?_));refine zAv (wpAny_isInstance (b:=true) (T:="StopIteration") ⟨_,zB4 _ rfl,rfl⟩ isSubtype_stop ?_);exact zAz (q _ (((Heap.SameBut.update ..).extBut.push _).push _))
end
def Itd(d:Addr)(o:Obj)(kvs:List (List Key×V)):It:=
 ⟨λi H=>H d=some (.frz o (.dT kvs))/\i<kvs.length,λi H x H'=>H'=H/\∃b k v,x=.ref b/\kvs[i]?=some (k,v)/\H b=some (.tup (k.map kV)),λi H=>H d=some (.frz o (.dT kvs))/\kvs.length<=i⟩
theorem KT.get:∀{kvs:List (List Key×V)} {xs:List (List Key×Addr×Value)} {i:Nat} {k:List Key} {v:V},KT H kvs xs->kvs[i]?=some (k,v)->∃b u,xs[i]?=some (k,b,u)/\H b=some (.tup (k.map kV))
 |_,_,_,_,_,.nil,e=>by simp at e
 |p::_,q::_,0,k,v,.cons r t,e=>by
  rw[List.getElem?_cons_zero]at e;cases e;obtain⟨h1,h2,_⟩:=r;refine⟨q.2.1,q.2.2,?_,h2⟩;rw[List.getElem?_cons_zero];show some q=some (k,q.2.1,q.2.2);rw[show k=q.1 from h1]
 |p::_,q::_,i+1,k,v,.cons r t,e=>by
  rw[List.getElem?_cons_succ]at e;obtain⟨b,u,e1,e2⟩:=KT.get t e;exact⟨b,u,by rw[List.getElem?_cons_succ];exact e1,e2⟩
theorem KT.len:∀{kvs:List (List Key×V)} {xs:List (List Key×Addr×Value)},KT H kvs xs->xs.length=kvs.length
 |_,_,.nil=>rfl
 |_,_,.cons _ t=>by rw[zAe,zAe,KT.len t]
theorem Inv.frzT{Zt:List (Addr×Obj)}{σ:St}{s:Shared}{d:Addr}{o:Obj}{kvs:List (List Key×V)}(I:Inv X Zt σ H s)(e:H d=some (.frz o (.dT kvs))):s.heap.get? d=some o/\o.ExactDict/\(d==sysModules)=false /\
  ∃es ep xs,o.data=.dict es ep/\KT H kvs xs/\es.toList=xs.map (entryOfKey (tupleKind (bF X.prog X.w))):=by
 obtain⟨e0,_,hs,xs,kt,o',es,ep,g1,g2,g3,g4,_⟩:=(show ObjOk X.prog X.w H s.heap d (.frz o (.dT kvs))from I.hok _ _ e)
 rw[e0]at g1;cases g1;exact⟨e0,g2,hs,es,ep,xs,g3,kt,g4⟩
theorem Al{w:World}{kvs:List (List Key×V)}{xs:List (List Key×Addr×Value)}{es:Array DictEntry}(kt:KT H kvs xs)(e:es.toList=xs.map (entryOfKey (tupleKind (bF P w)))):es.size=kvs.length:=by
 rw[<-zA9,e,zA1,kt.len]
theorem Am{w:World}{K:Frag}(d it:Addr)(o:Obj)(kvs:List (List Key×V))(es:Array DictEntry)(ep:Nat)(od:o.data=.dict es ep)(hz:es.size=kvs.length):Turn P w K tg (Itd d o kvs) [it] it (λi h=>h.IsKeyIter it d i es.size ep) where
 mem:=by simp
 obj:=λi h st b hb=>by
  have e:b=it:=by simpa using hb
  subst e;obtain⟨o,e,c,d⟩:=st;exact⟨o,e,λv z=>by rw[d]at z;cases z⟩
 keep:=λi h h' st k=>st.at λo e=>k it Zy o e
 item:=by
  intro X hP hw hK hc i Zt s σ H E I hf st hg;subst hP hw hK;obtain⟨hq,hx⟩:=hg;obtain⟨e0,g2,hs,f7,tS,xs,g3,kt,g4⟩:=I.frzT hq;rw[od]at g3;cases g3;obtain⟨b,u,ex,eb⟩:=kt.get (k:=kvs[i].1) (v:=kvs[i].2) (zA0 hx);have ee:es[i]?=some (entryOfKey (tupleKind (bF X.prog X.w)) (kvs[i].1,b,u)):=by rw[entry_at g4,ex];rfl
  obtain⟨f0,f1,f2,f3,f4,f5⟩:=hf it Zy;refine Gf st e0 od ee λh' Zr sb=>?_;have I1:Inv X Zt σ H {s with heap:=h'}:=I.turned (t':=s.toks) (λb o hb e=>(sb.2 b hb).trans e) f0 f1 f3 f4 f5;obtain⟨o2,e2,c2,d2⟩:=id Zr;exact⟨.ref b,rfl,uB (s:={s with heap:=h'}) e2 c2 d2 Zx ⟨.ref b,H,I1,rfl,⟨rfl,b,kvs[i].1,kvs[i].2,rfl,zA0 hx,eb⟩,Zr,λb hb=>(hf b hb).1⟩⟩
 done:=by
  intro X hP hw hK hc i Zt s σ H E I hf st hg;subst hP hw hK;obtain⟨hq,hx⟩:=hg;obtain⟨e0,g2,hs,f7,tS,xs,g3,kt,g4⟩:=I.frzT hq;rw[od]at g3;cases g3;obtain⟨f0,f1,f2,f3,f4,f5⟩:=hf it Zy
  exact Jo (I.ok.hd hc) st e0 od Zz λh' eb=>⟨rfl,I.turned (t':=s.toks) (λb o hb e=>eb b o hb e) f0 f1 f3 f4 f5⟩
 self:=λ_ _ _ _ _ st h=>wpAny_pyIter_keyiter st h
section
variable{X:Cx}{tg:Expr}
def KR(tl:TE):TI:=λσ H R=>tl σ H λx H1=>∃d o kvs,x=.ref d/\H1 d=some (.frz o (.dT kvs))/\R (Itd d o kvs) H1
theorem yC{l:Expr}{tl:TE}(hl:PE X l tl):PI X tg l (KR tl):=by
 intro Zt s σ H R I h;refine thn (hl Zt s σ H _ I h) λv s1=>?_;rintro⟨x,H1,I1,r1,q1⟩;obtain⟨d,o,kvs,e,hq,q⟩:=q1;subst e;cases r1;obtain⟨e0,g2,hs,es,ep,xs,g3,kt,g4⟩:=I1.frzT hq;refine Ge hs e0 g2 g3 ?_;refine⟨s1.heap.objs.size,[s1.heap.objs.size],_,_,H1,rfl,I1.kept (t':=s1.toks) λb o e=>zAy _ e,Am d _ o kvs es ep g3 (Al kt g4),⟨_,zB4 _ rfl,rfl,rfl⟩,λb hb=>?_,q⟩;have e:b=s1.heap.objs.size:=by simpa using hb
 subst e;exact I1.fpOk (zA3 _) (I1.hok.fresh (zA3 _))
inductive TFrzI(t:TE)(σ:St)(H:Hp)(Q:VK):Prop
 |mk:∀d kvs,(H d=some (.dT kvs))->(∀o,t σ (upd H d (.frz o (.dT kvs))) λv H'=>H' d=some (.frz o (.dT kvs))/\Q v (upd H' d (.dT kvs)))->TFrzI t σ H Q
def Mx(t:TE):TE:=λσ H Q=>TFrzI t σ H Q
theorem CQ{e:Expr}{t:TE}(h:PE X e t):PE X e (Mx t):=by
 intro Zt s σ H Q I hq;obtain⟨d,kvs,ed,hq⟩:=hq
 obtain⟨hz,hs,xs,kt,o,es,ep,g1,g⟩:=(show ObjOk X.prog X.w H s.heap d (.dT kvs)from I.hok _ _ ed)
 have nt:∀{b:Addr} {u:HO},H b=some u->u≠.dT kvs->b≠d:=λ{b u} e n z=>by
  rw[z,ed]at e;exact n (zAl e).symm
 have I1:Inv X Zt σ (upd H d (.frz o (.dT kvs))) {s with heap:=s.heap,toks:=s.toks}:=by
  refine I.un ⟨λb ob q _ _ _=>q,λb ob q _ _ _=>⟨ob.slots,q⟩,λb ob q n _=>?_,λb ob q _=>⟨ob,q⟩,λb xs q=>?_,λb ob u q=>?_,λb ps q=>⟨#[],?_⟩⟩ λb u e=>?_
  .rw[az λz=>by rw[z,ed]at n;cases n];exact n
  .rw[az (nt q λz=>by cases z)];exact q
  .rw[az (nt q λz=>by cases z)];exact q
  .rw[az (nt q λz=>by cases z),q];simp
  .have bE:∀c xs,H c=some (.tup xs)->upd H d (.frz o (.dT kvs)) c=some (.tup xs):=λc xs q=>by
    rw[az (nt q λz=>by cases z)];exact q
   by_cases hb:b=d
   .subst hb;rw[aj]at e;cases e;exact⟨g1,(show ObjOk X.prog X.w H s.heap b (.dT kvs)from I.hok _ _ ed).stay (λ_ _ _ q=>q) (λc q=>by rw[az (nt q λz=>by cases z)];exact q) bE⟩
   .rw[az hb]at e;exact(I.hok b u e).stay (λ_ _ _ q=>q) (λc q=>by rw[az (nt q λz=>by cases z)];exact q) bE
 refine thn (h Zt s σ _ _ I1 (hq o)) λv s1=>?_;rintro⟨x,H1,J,r1,e1,q1⟩
 have Ee:∀{b:Addr} {u:HO},H1 b=some u->u≠.frz o (.dT kvs)->b≠d:=λ{b u} e n z=>by
  rw[z,e1]at e;exact n (zAl e).symm
 have fr:∀b,H1 b=none->upd H1 d (.dT kvs) b=none:=λb n=>by
  rw[az λz=>by rw[z,e1]at n;cases n];exact n
 refine⟨x,upd H1 d (.dT kvs),⟨J.ok,J.os,J.bare,⟨J.base.keep,J.base.slot,λb ob q n hx=>fr b (J.base.free b ob q n hx),J.base.there,λb xs q=>?_,λb ob u q=>?_,λb ps q=>?_⟩,J.loc,J.cell,fr _ J.free,λy c e=>fr _ (J.freeC y c e),λp hp=>?_,λb u e=>?_,J.len⟩,r1,q1⟩
 .have:=J.base.tups b xs q;rw[az (Ee this λz=>by cases z)];exact this
 .have h0:=I.base.frzs b ob u q;have:=J.base.frzs b ob u q;rw[az (nt h0 λz=>by cases z)];exact this
 .obtain⟨m,e⟩:=J.base.tbls b ps q;exact⟨m,by rw[az (Ee e λz=>by cases z)];exact e⟩
 .obtain⟨a,n,c⟩:=J.pin p hp;exact⟨a,fr _ n,c⟩
 .have bE:∀c xs,H1 c=some (.tup xs)->upd H1 d (.dT kvs) c=some (.tup xs):=λc xs q=>by
   rw[az (Ee q λz=>by cases z)];exact q
  have rV:∀a c,H1 c=some (.own a)->upd H1 d (.dT kvs) c=some (.own a):=λa c q=>by
   rw[az (Ee q λz=>by cases z)];exact q
  by_cases hb:b=d
  .subst hb;rw[aj]at e;cases e;exact ObjOk.stay (show ObjOk X.prog X.w H1 s1.heap b (.dT kvs)from(show ObjOk X.prog X.w H1 s1.heap b (.frz o (.dT kvs))from J.hok _ _ e1).2) (λ_ _ _ q=>q) (rV b) bE
  .rw[az hb]at e;exact(J.hok b u e).stay (λ_ _ _ q=>q) (rV b) bE
end
section
variable{prog:Program}{w:World}{K:Type}[DecidableEq K]{knd:HeapKind prog w K}{A:Around}{E:Value->Shared->Prop}{s:Shared}
theorem Jp{d a:Addr}{xs:List (K×Addr×Value)}{k:K}{v:Value}{R:Unit->Shared->Prop}(hu:knd.room A)(hk:knd.is s.heap k a)(hm:s.heap.DictOfH knd d xs)(nk:k∉xs.map (·.1))(hz:xs.length<=sizeLine)
  (q:∀h',h'.DictOfH knd d (xs++[(k,a,v)])->Heap.SameBut d s.heap h'->R () {s with heap:=h'}):wpAny (model prog w) A (dictSetHashed d (.ref a) (knd.hash k) v) R E s:=by
 obtain⟨o,es,ep,g1,g2,g3,g4,g5,g6⟩:=hm;have ez:=size_of_entries g4;unfold dictSetHashed
 try with_reducible refine wpAny_holding ?_
 refine zAv (wpAny_dictFind_heap hu hk g1 g3 g4 g5 g6 (λno=>?_) λj p hj=>absurd (zA5.mpr ⟨_,zBg hj,rfl⟩) nk);refine zAv (wpAny_rule (wpAny_updateDictKeys (hz:=Zz) g1 g3 (q _ ⟨_,_,ep+1,Heap.get?_update_self _ g1 (Obj.isFreed_of_dict (Obj.data_mapDictKeys g3 _)),g2.mapDictKeys _,Obj.data_mapDictKeys g3 _,?_,λx hx=>?_,?_⟩ (Heap.SameBut.update ..))))
 .simp[g4,entryOfKey]
 .rcases zA6.mp hx with z|z
  .exact knd.keeps (g5 x z) g1 g3 (Heap.SameBut.update ..)
  .rw[Zae.mp z];exact knd.keeps hk g1 g3 (Heap.SameBut.update ..)
 .rw[zA4,List.nodup_append];refine⟨g6,by simp,λx hx y hy=>?_⟩;rw[show y=k by simpa using hy];exact λe=>nk (e▸hx)
theorem Gg{nm:String}{d b:Addr}{xs ys:List (K×Addr×Value)}{R:Unit->Shared->Prop}(hu:knd.room A)(db:d≠b)(hd:s.heap.DictOfH knd d xs)(hb:s.heap.DictOfH knd b ys)(nd:((xs++ys).map (·.1)).Nodup)(hz:xs.length+ys.length<=sizeLine)
  (q:∀h',h'.DictOfH knd d (xs++ys)->Heap.SameBut d s.heap h'->R () {s with heap:=h'}):wpAny (model prog w) A (do
   let epoch <-dictEpoch b
   let l <-dictEntries b
   forIn [:l.size] PUnit.unit λi (_:PUnit)=>(do
     let l' <-dictEntries b
     match l'[i]? with
      |some e=>do
       holding [e.key,e.val] (dictSetHashed d e.key e.hash e.val)
       let tS <-dictEpoch b
       if(tS != epoch)=true then do
         (unsupported (toString nm++toString ":source-changed-during-callback"):Sem PUnit)
         pure (ForInStep.yield PUnit.unit)
        else pure (ForInStep.yield PUnit.unit)
      |_=>do
       (unsupported "internal:dict-merge":Sem PUnit)
       pure (ForInStep.yield PUnit.unit):Sem (ForInStep PUnit))
   pure ()) R E s:=by
 obtain⟨ob,es,ep,g1,g2,g3,g4,g5,g6⟩:=id hb;have ez:=size_of_entries g4;refine zAv (wpAny_dictEpoch g1 g3 (zAv (wpAny_dictEntries g1 g3 (zAv ?_))));rw[Std.Legacy.Range.forIn_eq_forIn_range'];simp only[Std.Legacy.Range.size,Nat.sub_zero,Nat.add_sub_cancel,Nat.div_one]
 refine wpAny_forIn_list _ (λrest _ s'=>∃h' i,s'={s with heap:=h'}/\rest=List.range' i (ys.length-i)/\i<=ys.length/\h'.DictOfH knd d (xs++ys.take i)/\h'.get? b=some ob/\Heap.SameBut d s.heap h'/\∀y∈ys,knd.is h' y.1 y.2.1) _ ?_ ?_ _ _
  ⟨s.heap,0,rfl,by rw[ez];rfl,zAp _,by rw[Zay,zAn];exact hd,g1,Heap.SameBut.refl _ _,g5⟩
 .rintro x rest u s' ⟨h',i,rfl,hr,hi,oj,G1,sb,hk⟩
  have aI:i<ys.length:=by
   rcases Nat.lt_or_ge i ys.length with h|h
   .exact h
   .rw[Nat.sub_eq_zero_of_le h]at hr;simp at hr
  obtain⟨rfl,fq⟩:x=i/\rest=List.range' (i+1) (ys.length-(i+1)):=by
   rw[show ys.length-i=(ys.length-(i+1))+1 by lia,List.range'_succ]at hr;injection hr with h1 h2;exact⟨h1,h2⟩
  have ex:es[x]?=some (entryOfKey knd ys[x]):=by rw[entry_at g4,zA0 aI];rfl
  refine zAv (wpAny_dictEntries G1 g3 ?_);rw[ex]
  have nk:ys[x].1∉(xs++ys.take x).map (·.1):=λhm=>by
   have e:xs++ys=(xs++ys.take x)++ys[x]::ys.drop (x+1):=by rw[zAf,<-Zaw aI,zBf]
   rw[e,zA4,List.nodup_append]at nd;exact nd.2.2 _ hm _ (by rw[zAk];exact .head _) rfl
  show wpAny (model prog w) A (holding _ (dictSetHashed d (.ref ys[x].2.1) (knd.hash ys[x].1) ys[x].2.2)>>=_) _ E _;refine zAv (wpAny_holding (Jp (s:={s with heap:=h'}) hu (hk _ (zAh aI)) oj nk (by rw[zA2,zAd];lia) λh2 hd2 B8=>?_));have iq:h2.get? b=some ob:=(B8.2 b (Ne.symm db)).trans G1;refine zAv (wpAny_dictEpoch iq g3 ?_);rw[zAw Zy];obtain⟨od,e1,e2,d1,d2,d3,d4,d5,d6⟩:=id oj;refine zAz ⟨h2,x+1,rfl,fq,aI,?_,iq,sb.trans B8,λy hy=>knd.keeps (hk y hy) d1 d3 B8⟩;rw[zAj,zA0 aI,<-zAf];exact hd2
 .rintro u s' ⟨h',i,rfl,hr,hi,oj,G1,sb,hk⟩
  have:i=ys.length:=by
   rcases Nat.lt_or_ge i ys.length with h|h
   .rw[show ys.length-i=(ys.length-(i+1))+1 by lia,List.range'_succ]at hr;cases hr
   .lia
  rw[this,zAm]at oj;exact zAz (q h' oj sb)
end
section
variable{prog:Program}{w:World}{K:Type}[DecidableEq K]{knd:KeyKind prog w K}{A:Around}{E:Value->Shared->Prop}{s:Shared}
theorem v9{ks:List K}{a:Addr}{R:Bool->Shared->Prop}(hk:IsTupleKey knd s.heap ks a)(h:R false s):wpAny (model prog w) A (Builtin.Dict.quietEq (.ref a)) R E s:=by
 have hT:=hk.typeIs;unfold Builtin.Dict.quietEq;refine zAv (wpAny_specialOf hT F.slot_tuple_eq.lookup (zAz ?_));have:(some (Value.builtin "tuple.__eq__")==some (Value.builtin "object.__eq__"))=false:=by decide +kernel
 rw[this];exact h
theorem CT{nm:String}{b:Addr}{ob:Obj}{es:Array DictEntry}{ep:Nat}{ys:List (List K×Addr×Value)}{R:Array DictEntry->Shared->Prop}(g1:s.heap.get? b=some ob)(g3:ob.data=.dict es ep)(g4:es.toList=ys.map (entryOfKey (tupleKind knd)))(g5:∀x∈ys,IsTupleKey knd s.heap x.1 x.2.1)
  (hh:(ys.map λy=>tupleKeyHash knd y.1).Nodup) (q:R es s):wpAny (model prog w) A (Builtin.Dict.entriesForEmpty nm b) R E s:=by
 unfold Builtin.Dict.entriesForEmpty;refine zAv (wpAny_dictEntries g1 g3 (zAv ?_));rw[<-Array.forIn_toList]
 refine wpAny_forIn_list _ (λrest _ s'=>s'=s/\∀e∈rest,∃y∈ys,e=entryOfKey (tupleKind knd) y) _ ?_ ?_ _ _ ⟨rfl,λe he=>by
  rw[g4]at he;obtain⟨y,hy,rfl⟩:=zA5.mp he
  exact⟨y,hy,rfl⟩⟩
 .rintro x rest u s' ⟨rfl,hr⟩;obtain⟨y,hy,rfl⟩:=hr x (.head _);refine zAv (v9 (g5 y hy) ?_);show wpAny (model prog w) A (if _ then(if _ then _ else _)else _) _ E _;rw[zAx (show(!false)=true from rfl),zAw ?_]
  .exact zAz ⟨rfl,λe he=>hr e (.tail _ he)⟩
  .have e1:(es.filter λx=>x.hash==(entryOfKey (tupleKind knd) y).hash).size=(ys.map λz=>tupleKeyHash knd z.1).count (tupleKeyHash knd y.1):=by
    rw[<-zA9,Array.toList_filter,g4,List.count_eq_countP,List.countP_map,<-List.countP_eq_length_filter,List.countP_map];rfl
   have:=List.nodup_iff_count.mp hh (tupleKeyHash knd y.1);lia
 .rintro u s' ⟨rfl,_⟩;exact zAz q
theorem CV{nm:String}{d b:Addr}{xs ys:List (List K×Addr×Value)}{R:Unit->Shared->Prop}(hu:A.units<cLine)(db:d≠b)(bs:(b==sysModules)=false)(hd:s.heap.DictOfH (tupleKind knd) d xs)(hb:s.heap.DictOfH (tupleKind knd) b ys)(nd:((xs++ys).map (·.1)).Nodup)
  (hh:xs=[]->(ys.map λy=>tupleKeyHash knd y.1).Nodup) (hz:xs.length+ys.length<=sizeLine)
  (q:∀h',h'.DictOfH (tupleKind knd) d (xs++ys)->Heap.SameBut d s.heap h'->R () {s with heap:=h'}):wpAny (model prog w) A (Builtin.Dict.mergeDict nm d b) R E s:=by
 obtain⟨od,WU,QK,d1,d2,d3,d4,d5,d6⟩:=id hd;obtain⟨ob,N3,WV,b1,b2,b3,b4,b5,b6⟩:=id hb;have zd:=size_of_entries d4;have zb:=size_of_entries b4;have loop:=Gg (nm:=nm) (E:=E) (R:=R) hu db hd hb nd hz q;unfold Builtin.Dict.mergeDict;rw[zAw (by simpa using db)];unfold Builtin.Dict.showsAll;rw[bs,zAw zAg];refine zAv (zAz (zAv (wpAny_dictEntries b1 b3 ?_)));dsimp only;split
 .refine zAv (wpAny_dictEntries d1 d3 ?_);split
  .rename_i he
   have ex:xs=[]:=by
    rw[Array.isEmpty_iff.mp he]at zd;exact List.length_eq_zero_iff.mp zd.symm
   subst ex;refine zAv (CT b1 b3 b4 b5 (hh rfl) ?_);split
   .refine zAv (wpAny_updateDictKeysTo d1 d3 (zAz (q _ ⟨_,_,QK+1,Heap.get?_update_self _ d1 (Obj.isFreed_of_dict (Obj.data_mapDictKeys d3 _)),d2.mapDictKeys _,Obj.data_mapDictKeys d3 _,b4,λx hx=>(tupleKind knd).keeps (b5 x hx) d1 d3 (Heap.SameBut.update ..),b6⟩ (Heap.SameBut.update ..))) ?_);show N3.size<=sizeLine+1;rw[List.length_nil]at hz;lia
   .rename_i gz
    have:ys=[]:=by
     have h0:N3=#[]:=Array.isEmpty_iff.mp (by simpa using gz);rw[h0]at zb;exact List.length_eq_zero_iff.mp zb.symm
    subst this;exact zAz (q _ hd (Heap.SameBut.refl _ _))
  .exact loop
 .exact loop
theorem An(d b:Addr)(db:d≠b)(bs:(b==sysModules)=false):MeetsIn prog w (Builtin.«dict.update» ⟨[.ref d,.ref b],[]⟩) (λA R s=>∃xs ys,A.units+1<cLine/\s.heap.DictOfH (tupleKind knd) d xs/\s.heap.DictOfH (tupleKind knd) b ys/\((xs++ys).map (·.1)).Nodup /\
   (xs=[]->(ys.map λy=>tupleKeyHash knd y.1).Nodup)/\xs.length+ys.length<=sizeLine/\∀h',h'.DictOfH (tupleKind knd) d (xs++ys)->Heap.SameBut d s.heap h'->R (.ok (.ret .none)) {s with heap:=h'}):=
 .of_wp λA R s hZ=>by
  obtain⟨xs,ys,hu,hd,hb,nd,hh,hz,q⟩:=hZ;unfold Builtin.«dict.update»;refine zAv ?_;unfold Builtin.Dict.selfAndRest;refine zAv (wpAny_notOrdered_dict hd.typeIs (show wpAny _ _ (pure (d,[Value.ref b])) _ _ s from zAz ?_));show wpAny (model prog w) _ (Builtin.Dict.updateFrom "dict.update" d (.ref b) [] .none) _ _ s;unfold Builtin.Dict.updateFrom;refine zAv (wpAny_typeOf hb.typeIs ?_);rw[zAw Zx];refine zAv ?_;unfold Builtin.Dict.merge;refine zAv ?_;unfold Builtin.Dict.readDirectly;refine zAv (wpAny_isInstance hb.typeIs isSubtype_dict_dict ?_);simp only[Bool.not_true,Bool.false_eq_true,if_false];refine zAv (wpAny_specialOf hb.typeIs F.slot_dict_iter.lookup (zAz ?_));simp only[beq_self_eq_true,if_true];refine zAv (zAz (CV (tupleKind_room_in1 (knd:=knd) hu) db bs hd hb nd hh hz λh' oj sb=>?_));show wpAny (model prog w) _ (Builtin.Dict.addKeywords d []>>=_) _ _ _;exact zAv (zAz (zAz ⟨.none,rfl,q h' oj sb⟩))
end
section
variable{X:Cx}
inductive RUpdI(x:V)(vs:List V)(H:Hp)(Q:VK):Prop
 |mk:∀d b kvs more,(x=.ref d)->(vs=[.ref b])->(d≠b)->(H d=some (.dT kvs))->(H b=some (.dT more))->(kvs.length+more.length<=sizeLine)->(((kvs++more).map (·.1)).Nodup)->((kvs=[]->∀w,(more.map λp=>reduceHash (Builtin.Tuple.tupleHashOf (p.1.map (rT w)))).Nodup))->(Q .non (upd H d (.dT (kvs++more))))->RUpdI  x vs H Q
def My:V->List V->Hp->VK->Prop:=λx vs H Q=>RUpdI  x vs H Q
theorem KT.keys:∀{kvs:List (List Key×V)} {xs:List (List Key×Addr×Value)},KT H kvs xs->xs.map (·.1)=kvs.map (·.1)
 |_,_,.nil=>rfl
 |_,_,.cons r t=>by rw[zAk,zAk,KT.keys t,r.1]
theorem KT.app:∀{kvs more:List (List Key×V)} {xs ys:List (List Key×Addr×Value)},KT H kvs xs->KT H more ys->KT H (kvs++more) (xs++ys)
 |_,_,_,_,.nil,h=>h
 |_,_,_,_,.cons r t,h=>.cons r (KT.app t h)
theorem Jq(hu:X.A.units+1<cLine):MtR X "dict.update" My:=by
 intro Zt s σ H x vs v us Q I rx rv h;obtain⟨d,b,kvs,more,rfl,rfl,db,ed,eb,hz,nd,hh,q⟩:=h;cases rx;obtain⟨u,rfl,ru⟩:=rv.one;cases ru;obtain⟨z1,hd,xs,k1,dd⟩:=Cd I.hok ed;obtain⟨z2,hb,ys,k2,bb⟩:=Cd I.hok eb;have l1:=k1.len;have l2:=k2.len;refine call_meetsIn PySem.F.slot_dict_update dd.typeIs PySem.F.entry_dict_update (PySem.F.args_dict_update_2 _ _) (An (knd:=bF X.prog X.w) d b db hb) ⟨xs,ys,hu,dd,bb,?_,λe=>?_,Zz,λh' oB sb=>?_⟩
 .rw[zA4,k1.keys,k2.keys,<-zA4];exact nd
 .have:kvs=[]:=List.length_eq_zero_iff.mp (by rw[<-l1,e];rfl);have:=hh this X.w
  have e2:(ys.map λy=>tupleKeyHash (bF X.prog X.w) y.1)=more.map λp=>reduceHash (Builtin.Tuple.tupleHashOf (p.1.map (rT X.w))):=by
   have a:∀l:List (List Key×Addr×Value),(l.map λy=>tupleKeyHash (bF X.prog X.w) y.1)=(l.map (·.1)).map λk=>reduceHash (Builtin.Tuple.tupleHashOf (k.map (rT X.w))):=λl=>by rw[zAr];rfl
   have c:∀l:List (List Key×V),(l.map λp=>reduceHash (Builtin.Tuple.tupleHashOf (p.1.map (rT X.w))))=(l.map (·.1)).map λk=>reduceHash (Builtin.Tuple.tupleHashOf (k.map (rT X.w))):=λl=>by rw[zAr];rfl
   rw[a,c,k2.keys]
  rw[e2];exact this
 .obtain⟨o,es,ep,hq,h2,h3,h4,_,h5⟩:=oB;refine⟨.non,_,mZ I (by rw[ed];exact True.intro) sb ⟨o,hq⟩ (show ObjOk X.prog X.w _ h' d (.dT (kvs++more))from⟨by rw[zA2];exact hz,hd,_,(k1.app k2).keeps λc ys ec=>?_,o,es,ep,hq,h2,h3,h4,h5⟩),rfl,q⟩;rw[az (Ht ec ed (λz=>nomatch z))];exact ec
end
theorem qY:∀{ns:PP} {us:List Value},Vals (ns.map V.int) us->IntsAre us ns
 |[],_,.nil=>.nil
 |n::ns,_,.cons r t=>by
  obtain⟨k,e⟩:=r;rw[e];exact .cons n k (qY t)
section
variable{X:Cx}
theorem tX:dG X (.builtin "sorted") (λxs H Q=>∃(p:Addr) (ns:PP),xs=[.ref p]/\SqL X.K H p (ns.map V.int)/\ns.length<64 /\
  ∀(q:Addr) (zI:PP),H q=none->zI.Perm ns->zI.Pairwise (·<=·)->Q (.ref q) (upd H q (.lst (zI.map V.int)))):=by
 intro Zt s σ H xs us Q I r h;obtain⟨p,ns,rfl,hp,h64,q⟩:=h;obtain⟨u,rfl,ru⟩:=vals1 r;cases ru;obtain⟨Zs,rv,pl,hz⟩:=I.list hp;have hl:=rv.length;rw[zA1]at hl;refine sorted_ints pl.isList (qY rv) Zz λout zI hI pm so=>?_;obtain⟨e,at2⟩:=sortedAll_at s.heap Zs out;refine⟨.ref (s.heap.objs.size+1),_,I.laid (t':=s.toks) (λb o z=>sortedAll_old z) (Zar _) (show ObjOk X.prog X.w _ _ _ (.lst (zI.map V.int))from⟨by rw[zA1,pm.length_eq,sizeLine_eq];lia,out.toList,e,lz hI,at2⟩),rfl,q _ zI (I.hok.fresh (Zar _)) pm so⟩
theorem HR:∀{kvs:List (Key×V)} {vs:List (Key×Value)},KV kvs vs->vs.map (·.1)=kvs.map (·.1)
 |_,_,.nil=>rfl
 |_,_,.cons r t=>by
  rw[zAk,zAk,HR t,r.1]
theorem qZ{P:Program}{w:World}:∀{ks:List Key} {us:List Value},us.length=ks.length->(∀(j:Nat) (u:Value),us[j]?=some u->∃k,ks[j]?=some k/\(bF P w).is k u=true)->Vals (ks.map kV) us
 |[],[],_,_=>.nil
 |k::ks,u::us,h,g=>by
  obtain⟨k',e,hk⟩:=g 0 u rfl;rw[List.getElem?_cons_zero]at e;cases e;refine .cons ?_ (qZ (P:=P) (w:=w) (by simpa using h) λj u' hu=>?_)
  .rcases c7 hk with⟨i,t,rfl,rfl⟩|⟨x,t,rfl,rfl⟩
   .exact⟨t,rfl⟩
   .exact⟨t,rfl⟩
  .have:=g (j+1) u' (by rw[List.getElem?_cons_succ];exact hu);rw[List.getElem?_cons_succ]at this;exact this
 |[],_::_,h,_=>by simp at h
 |_::_,[],h,_=>by simp at h
theorem oZ(hc:X.calm=true):dG X (.type "list") (λxs H Q=>∃(d:Addr) (kvs:List (Key×V)),xs=[.ref d]/\H d=some (.dK kvs) /\
  ((kvs.map (·.1)).Nodup->∀l,H l=none->Q (.ref l) (upd H l (.lst (kvs.map λp=>kV p.1))))):=by
 intro Zt s σ H xs us Q I r h;obtain⟨d,kvs,rfl,hd,q⟩:=h;obtain⟨u,rfl,ru⟩:=vals1 r;cases ru;obtain⟨hz,lo,vs,kv,o,es,ep,g1,g2,g3,g4,g5,g6⟩:=I.hok _ _ hd;have ek:=HR kv;have lv:vs.length=kvs.length:=by rw[<-zA1 (f:=(·.1)),ek,zA1]
 refine PySem.W.kdl_call (PySem.W.kdl_dict (knd:=bF X.prog X.w) (kvs:=vs) (ep:=ep) lo) (I.ok.hd hc) ⟨o,es,g1,g2,g3,g4,g5,g6⟩ (by rw[lv];exact hz) λh' tk HC c' kp at' it=>?_;refine⟨.ref s.heap.objs.size,_,I.laid (t':=tk) kp (zA3 _) (show ObjOk X.prog X.w _ h' _ (.lst (kvs.map λp=>kV p.1))from⟨by rw[zA1];exact hz,HC.toList,c',?_,at'⟩),rfl,q (by rw[<-ek];exact g6) _ (I.hok.fresh (zA3 _))⟩;have:(kvs.map λp=>kV p.1)=(vs.map (·.1)).map kV:=by rw[ek,zAr];rfl
 rw[this];refine qZ (P:=X.prog) (w:=X.w) (by rw[zA9,it.1,zA1]) λj u hu=>?_;obtain⟨k,x,e,hk⟩:=it.2 j u (by rw[<-Zat];exact hu);exact⟨k,by rw[zAb,e];rfl,hk⟩
end
section
variable{X:Cx}
inductive RSetDI(o:V)(i:V)(v:V)(H:Hp)(Q:Hp->Prop):Prop
 |mk:∀a H',(o=.ref a)->(DPut H a i v H')->(Q H')->RSetDI  o i v H Q
def KY:zJ:=λo i v H Q=>RSetDI  o i v H Q
theorem set_dict(hu:X.A.units+1<cLine):Fw X KY:=by
 intro Zt s σ H o i v ov iv u Q I ro ri rv h;obtain⟨a,H',rfl,g,q⟩:=h;cases ro
 exact qO hu I g ri rv λs' I'=>⟨H',I',q⟩
end
def Itv(K:Frag)(a:Addr)(n:Nat):It:=
 ⟨λi H=>∃xs x,SqL K H a xs/\xs.length=n/\xs.reverse[i]?=some x,
  λi H v H'=>H'=H/\∀xs,SqL K H a xs->xs.reverse[i]?=some v,
  λi _=>i=n⟩
theorem CW{w:World}{K:Frag}(a it:Addr)(n:Nat):Turn P w K tg (Itv K a n) [it] it (λi h=>i<=n/\h.IsRevIter it a ((n:Int)-1-(i:Int))) where
 mem:=by simp
 obj:=λi h st b hb=>by
  have e:b=it:=by simpa using hb
  subst e;obtain⟨o,e,c,d⟩:=st.2;exact⟨o,e,λv z=>by rw[d]at z;cases z⟩
 keep:=λi h h' st k=>⟨st.1,st.2.at λo e=>k it Zy o e⟩
 item:=by
  intro X hP hw hK hc i Zt s σ H E I hf st hg;subst hP hw hK;obtain⟨xs,x,hq,hn,hx⟩:=hg
  have hi:i<xs.length:=by
   have:=(zAa.mp hx).1;rw[List.length_reverse]at this;exact this
  rw[List.getElem?_reverse hi]at hx;obtain⟨Zs,rv,p,hz⟩:=I.list hq;obtain⟨u,hu,ru⟩:=rv.get hx;obtain⟨f0,f1,f2,f3,f4,f5⟩:=hf it Zy;have e0:(n:Int)-1-(i:Int)=((xs.length-1-i:Nat):Int):=Zz
  have st2:=st.2;rw[e0]at st2;refine wpAny_pyNext_rev_item st2 p.isList (x:=u) (by simpa using hu) λh' Zr sb=>?_;have I1:Inv X Zt σ H {s with heap:=h'}:=I.turned (t':=s.toks) (λb o hb e=>(sb.2 b hb).trans e) f0 f1 f3 f4 f5;obtain⟨o,e,c,d⟩:=id Zr;have e1:((xs.length-1-i:Nat):Int)-1=(n:Int)-1-((i+1:Nat):Int):=Zz
  rw[e1]at Zr;exact⟨u,rfl,uB (s:={s with heap:=h'}) e c d Zx ⟨x,H,I1,ru,⟨rfl,λys hy=>by rw[I.list_inj hy hq,List.getElem?_reverse hi];exact hx⟩,⟨Zz,Zr⟩,λb hb=>(hf b hb).1⟩⟩
 done:=by
  intro X hP hw hK hc i Zt s σ H E I hf st hg;subst hP hw hK;have hg:i=n:=hg;obtain⟨f0,f1,f2,f3,f4,f5⟩:=hf it Zy;have st2:=st.2;rw[show(n:Int)-1-(i:Int)=-1 by lia]at st2
  exact wpAny_pyNext_rev_end (I.ok.hd hc) st2 λh' eb=>⟨rfl,I.turned (t':=s.toks) (λb o hb e=>eb b o hb e) f0 f1 f3 f4 f5⟩
 self:=λ_ _ _ _ _ st h=>wpAny_pyIter_revIter st.2 h
theorem boot_reversed:bootBuiltins "reversed"=some (.type "reversed"):=by decide +kernel
section
variable{X:Cx}{tg:Expr}
def Mz(K:Frag)(t:TA):TI:=λσ H R=>t σ H λvs H1=>∃a xs,vs=[.ref a]/\SqL K H1 a xs/\R (Itv K a xs.length) H1
theorem Jr{a:Expr}{ta:TA}{p pos:Pos}(hg:Gl X "reversed")(hm:X.mg "reversed"=none)(ha:PA X [a] ta)(hs:starEach [a] X.env=[(false,eval a X.env)]:=by rfl):
  PI X tg (.Call (.Name "reversed" p) [a] [] pos) (Mz X.K ta):=by
 intro Zt s σ H R I h;refine Call_ (iD I hg hm boot_reversed (PyProof.Rows.callWith_type1 (thn (ha pos Zt s σ H _ I h) λus s1=>?_) hs rfl));rintro⟨vs,H1,I1,r1,q1⟩;obtain⟨x,xs,e,hx,q⟩:=q1;subst e;obtain⟨u,rfl,ru⟩:=vals1 r1;cases ru;obtain⟨Zs,rv,p1,_⟩:=I1.list hx;have hlen:=rv.length;refine call_reversed_list p1.isList ?_
 have st:Heap.IsRevIter (s1.heap.push (revObj x ((Zs.toArray.size:Int)-1))) s1.heap.objs.size x ((xs.length:Int)-1-((0:Nat):Int)):=by
  refine⟨_,zB4 _ rfl,rfl,?_⟩;have:(Zs.toArray.size:Int)-1=(xs.length:Int)-1-((0:Nat):Int):=by rw[zA8];lia
  rw[<-this];rfl
 refine wpAny_pyIter_revIter st ?_;refine⟨_,_,_,_,H1,rfl,I1.kept (t':=s1.toks) (λb o e=>zAy _ e),CW x s1.heap.objs.size xs.length,⟨zAp _,st⟩,λc hc=>?_,q⟩
 have hle:s1.heap.objs.size<=c:=by
  rw[Zae.mp hc];exact zA3 _
 exact I1.fpOk hle (I1.hok.fresh hle)
end
theorem Gh{K:Frag}{a:Addr}{xs:List V}{g:TG}{tb:TS}{D:Ends}{σ:St}(Pv:Nat->St->Hp->Prop)(h0:Pv 0 σ H)(hl:∀i σ H,i<=xs.length->Pv i σ H->SqL K H a xs)
  (hs:∀i x σ H,xs.reverse[i]?=some x->Pv i σ H->g x σ H λaS H2=>tb {D with nx:=Pv (i+1),ct:=Pv (i+1),bk:=D.nx} aS H2) (hd:∀σ H,Pv xs.length σ H->D.nx σ H):
  ∃W:Nat->Nat->St->Hp->Prop,(∃m,W 0 m σ H)/\∀i m σ H,W i m σ H->
   ((Itv K a xs.length).stop i H/\D.nx σ H)\/((Itv K a xs.length).go i H/\∃N:St->Hp->Prop,(∀av H',N av H'->∃m',m'<m/\W (i+1) m' av H')/\∀x H',(Itv K a xs.length).yld i H x H'->g x σ H' λaS H2=>tb {D with nx:=N,ct:=N,bk:=D.nx} aS H2):=by
 refine⟨λi m σ H=>m=xs.length-i/\i<=xs.length/\Pv i σ H,⟨xs.length,by simp,zAp _,h0⟩,?_⟩;rintro i m σ H ⟨rfl,hi,p⟩;have q:=hl i σ H hi p;by_cases aI:i<xs.length
 .refine .inr ⟨⟨xs,xs.reverse[i]'(by rw[List.length_reverse];exact aI),q,rfl,zA0 _⟩,Pv (i+1),λav H' p'=>⟨xs.length-(i+1),Zz,rfl,aI,p'⟩,λx H' y=>?_⟩;obtain⟨e,y⟩:=y;subst e;exact hs i x σ _ (y xs q) p
 .have e:i=xs.length:=Zz
  subst e;exact .inl ⟨rfl,hd σ H p⟩
section
variable{X:Cx}{e:Expr}{te:TE}{p2 p3 p4 pos:Pos}{j:Nat}
def Js(K:Frag)(te:TE):TE:=λσ H Q=>te σ H λx H2=>∃a xs,x=.ref a/\SqL K H2 a xs/\∀p,H2 p=none->Q (.ref p) (upd H2 p (.lst xs.reverse))
theorem Gi(he:PE X e te):PE X (.Subscript e (.Slice none none (some (.UnaryOp .USub (.Constant (.int 1) j p4) p3)) p2) pos) (Js X.K te):=by
 intro Zt s σ H Q I h;refine Subscript_ (thn (he Zt s σ H _ I h) λv s1=>?_);rintro⟨x,H1,I1,r1,q1⟩;refine wpAny_Slice ?_;rw[evalPart_none,evalPart_some];refine zAz (zAz ?_);refine thn (BJ wu aB Zt s1 σ H1 (λy H'=>H'=H1/\y=.int (-1)) I1 ⟨_,rfl,rfl,rfl⟩) λvk s3=>?_;rintro⟨y,H3,I3,ry,e3,ey⟩;subst e3;subst ey;obtain⟨a,xs,rfl,hx,q⟩:=q1;cases r1;obtain⟨t,rfl⟩:=ry;have I4:Inv X Zt σ H3 {s3 with heap:=s3.heap.push {cls:=.type "slice",data:=.fields #[.none,.none,.int (-1) t]}}:=I3.kept (t':=s3.toks) λb ob q=>zAy _ q;obtain⟨its',r',fI,dv⟩:=I4.list hx;have N4:=r'.length;show wpAny (model X.prog X.w) X.A (subscriptTail e (.Slice none none (some (.UnaryOp .USub (.Constant (.int 1) j p4) p3)) p2) (.ref a) (.ref s3.heap.objs.size)) (EP X Zt σ Q) X.xe {s3 with heap:=s3.heap.push {cls:=.type "slice",data:=.fields #[.none,.none,.int (-1) t]}};refine tail_any (T:="list") (ops:=[.ref a,.ref s3.heap.objs.size]) fI.isList.typeIs slot_list_getitem.lookup ?_ (by with_unfolding_all rfl);refine wpAny_getItem_list_slice fI.isList (Heap.IsSliceOf.new ..) .none .none (.int (-1) t) Zx ?_ (by rw[zA8]<;>lia);rw[PySem.W.krv_pick];refine⟨.ref _,_,I4.laid (t':=s3.toks) (o:=.lst xs.reverse) (λb ob q=>zAy _ q) (zA3 _) ?_,rfl,q _ (I4.hok.fresh (zA3 _))⟩;exact⟨by rw[List.length_reverse];exact dv,_,0,r'.reverse,zB4 _ rfl⟩
end
section
variable{prog:Program}{w:World}{A:Around}{E:Value->Shared->Prop}{s:Shared}{t:Addr}
theorem Gj{xs:Array (Int×Tok)}(hh:A.handled=none)(ht:s.heap.IsTuple t (intItems xs))(gz:0<xs.size)
  (h:∀v h' tk,(intItems xs)[argBest (λi j=>decide (numAt xs i<numAt xs j)) (xs.size-1)]?=some v->(∀b o,s.heap.get? b=some o->h'.get? b=some o)->Q v {s with heap:=h',toks:=tk}):
  wpAny (model prog w) A (call (.builtin "min") [.ref t]) Q E s:=by
 have aI:t<s.heap.objs.size:=by obtain⟨_,e,_⟩:=ht;exact zB0 e
 refine call_min_walk (wpAny_pyIter_tuple ht ?_);refine⟨_,_,_,_,_,_,_,rfl,Walks.tuple (A:=A.in1) hh _ t (zBd aI) (intItems xs),⟨⟨_,zB4 _ rfl,rfl,rfl⟩,ht.push _⟩,λb hb=>?_,by simpa[intItems]using gz,CmpOf.ints_lt (numAt xs) (λ_ _=>intItems_at),λv h' tk hP hk=>?_⟩
 .show b<(s.heap.push _).objs.size;rw[Heap.size_push];simp only[List.mem_cons,List.not_mem_nil,or_false]at hb;rcases hb with e|e<;>subst e
  .exact Nat.lt_succ_self _
  .exact Nat.lt_succ_of_lt aI
 .refine h v h' tk (by simpa[intItems]using hP) λb o e=>hk b o (λhm=>?_) (zAy _ e);have e1:=Zae.mp hm;exact absurd (e1▸zB0 e) (Zau _)
end
section
variable{X:Cx}
theorem tY(hc:X.calm=true):dG X (.builtin "min") (λxs H Q=>∃(p:Addr) (ns:PP),xs=[.ref p]/\SqT X.K H p (ns.map V.int)/\ns≠[]/\∀M,M∈ns->(∀a∈ns,M<=a)->Q (.int M) H):=by
 intro Zt s σ H xs us Q I r h;obtain⟨p,ns,rfl,hq,gz,q⟩:=h;obtain⟨u,rfl,ru⟩:=vals1 r;cases ru;obtain⟨Zs,rv,pl,hz⟩:=I.tuple hq;have hi:IntsAre Zs ns:=intsAre_of rv;obtain⟨zs,ez⟩:=(hi.allInts:AllInts Zs.toArray).items;have en:numsOf Zs=ns:=hi.numsOf;have hl:s.heap.IsTuple p (intItems zs):=ez▸(show s.heap.IsTuple p Zs.toArray from pl)
 have bp:0<zs.size:=by
  have e1:(intItems zs).size=Zs.length:=by rw[<-ez,zA8]
  have e2:=rv.length;rw[zA1]at e2;have e3:0<ns.length:=List.length_pos_iff.mpr gz;simp only[intItems,Array.size_map]at e1;lia
 have hn:numsOf (intItems zs).toList=ns:=by rw[<-ez];exact en
 refine Gj (I.ok.hd hc) hl bp λv h' tk hv hk=>?_;obtain⟨t,rfl⟩:=intItems_at hv;obtain⟨h1,h2⟩:=argBest_lt (numAt zs) (zs.size-1);rw[nums_intItems]at hn;refine⟨.int _,H,I.kept (t':=tk) hk,⟨t,rfl⟩,q _ ?_ λa ha=>?_⟩
 .rw[<-hn,numAt_eq];exact getD_mem (by rw[zA1,zA9];lia)
 .rw[<-hn]at ha;obtain⟨j,hj,rfl⟩:=mem_getD ha;rw[zA1,zA9]at hj;rw[<-numAt_eq];exact h2 j Zz
end
section
variable{prog:Program}{w:World}{A:Around}{E:Value->Shared->Prop}{s:Shared}
theorem args_min3(a b c:Value):argsOk "min" ⟨[a,b,c],[]⟩:=by unfold argsOk;kernel_rfl
theorem min_three{a b c:Int}{ta tb tc:Tok}(hh:A.handled=none)
  (h:∀M tm g tk,M∈[a,b,c]->(∀x∈[a,b,c],M<=x)->(∀d o,s.heap.get? d=some o->g.get? d=some o)->Q (.int M tm) {s with heap:=g,toks:=tk}):wpAny (model prog w) A (call (.builtin "min") [.int a ta,.int b tb,.int c tc]) Q E s:=by
 refine call_function_tree F.kind_min F.plain_min F.entry_min (args_min3 _ _ _) ?_;have e0:Builtin.Builtins.bindParams "min" ["key","default"] 0 ⟨[],[]⟩=pure [none,none]:=rfl;show wpAny _ A.in1 (Builtin.Builtins.bindParams "min" ["key","default"] 0 ⟨[],[]⟩>>=_) _ _ s;refine zAv (wpAny_of_eq e0 ?_);show wpAny _ A.in1 (newTuple [.int a ta,.int b tb,.int c tc]>>=_) _ _ s;refine zAv (Zac ?_)
 have hT:(s.heap.push {cls:=.type "tuple",data:=.seq #[.int a ta,.int b tb,.int c tc]}).IsTuple s.heap.objs.size (intItems #[(a,ta),(b,tb),(c,tc)]):=⟨_,zB4 _ rfl,rfl,0,by simp[intItems]⟩
 have z1:(s.heap.push {cls:=.type "tuple",data:=.seq #[.int a ta,.int b tb,.int c tc]}).objs.size=s.heap.objs.size+1:=Heap.size_push ..;refine zAv (wpAny_pyIter_tuple hT ?_);have W:=Walks.tuple (prog:=prog) (w:=w) (A:=A.in1) hh ((s.heap.push {cls:=.type "tuple",data:=.seq #[.int a ta,.int b tb,.int c tc]}).objs.size) s.heap.objs.size (by rw[z1];exact zBd (Nat.lt_succ_self _)) (intItems #[(a,ta),(b,tb),(c,tc)]);refine zAv (Zac ?_);have en:(toString "min" ++ toString ".loop":String)="min.loop":=by decide
 rw[en];have z2:((s.heap.push {cls:=.type "tuple",data:=.seq #[.int a ta,.int b tb,.int c tc]}).push {cls:=.type "tuple_iterator",data:=.fields #[.ref s.heap.objs.size,.int 0 0]}).objs.size=s.heap.objs.size+2:=by rw[Heap.size_push,z1]
 have HE:=CmpOf.ints_lt (prog:=prog) (w:=w) (A:=A.in1) (P:=λi v=>(intItems #[(a,ta),(b,tb),(c,tc)])[i]?=some v) (numAt #[(a,ta),(b,tb),(c,tc)]) (λ_ _=>intItems_at);refine zAz ⟨plainId_quiet F.plain_min_loop _,codeAny_min_loop_first W (λi j=>decide (numAt #[(a,ta),(b,tb),(c,tc)] i<numAt #[(a,ta),(b,tb),(c,tc)] j)) HE _ (λhm=>?_) (by simp[intItems]) (W.frame _ _ _ ⟨⟨_,zB4 _ rfl,rfl,rfl⟩,hT.push _⟩ λb _ o e=>zAy _ e) (zB4 _ rfl) λv h' tk hP hk=>?_⟩
 .simp only[List.mem_cons,List.not_mem_nil,or_false]at hm;rw[z2,z1]at hm;rcases hm with e|e
  .exact absurd (show s.heap.objs.size+2=s.heap.objs.size+1 from e) Zz
  .exact absurd (show s.heap.objs.size+2=s.heap.objs.size from e) Zz
 .obtain⟨t,rfl⟩:=intItems_at hP;obtain⟨_,h2⟩:=argBest_lt (numAt #[(a,ta),(b,tb),(c,tc)]) ((intItems #[(a,ta),(b,tb),(c,tc)]).size-1);have e3:(intItems #[(a,ta),(b,tb),(c,tc)]).size-1=2:=by simp[intItems]
  rw[e3]at h2 hP⊢;refine h _ t h' tk ?_ (λx hx=>?_) λd o e=>hk d o (λhm=>?_) (λz=>?_) (zAy _ (zAy _ (zAy _ e)))
  .generalize argBest (λi j=>decide (numAt #[(a,ta),(b,tb),(c,tc)] i<numAt #[(a,ta),(b,tb),(c,tc)] j)) 2=k at hP
   match k,hP with
   |0,_=>simp[numAt]
   |1,_=>simp[numAt]
   |2,_=>simp[numAt]
   |k+3,hP=>simp[intItems]at hP
  .simp only[List.mem_cons,List.not_mem_nil,or_false]at hx;rcases hx with rfl|rfl|rfl
   .exact h2 0 Zx
   .exact h2 1 Zx
   .exact h2 2 Zx
  .have:=zB0 e;rw[Zae.mp hm,z1]at this;exact absurd (show s.heap.objs.size+1<s.heap.objs.size from this) Zz
  .have:=zB0 e;rw[z,z2]at this;exact absurd (show s.heap.objs.size+2<s.heap.objs.size from this) Zz
end
section
variable{X:Cx}
theorem vals3{x y z:V}{us:List Value}(r:Vals [x,y,z] us):∃a b c,us=[a,b,c]/\RelV x a/\RelV y b/\RelV z c:=by
 cases r with
 |cons r1 r2=>
  obtain⟨b,c,rfl,r3,r4⟩:=vals2 r2;exact⟨_,_,_,rfl,r1,r3,r4⟩
theorem Ao(hc:X.calm=true):dG X (.builtin "min") (λxs H Q=>∃a b c,xs=[.int a,.int b,.int c]/\∀M,M∈[a,b,c]->(∀x∈[a,b,c],M<=x)->Q (.int M) H):=by
 intro Zt s σ H xs us Q I r h;obtain⟨a,b,c,rfl,q⟩:=h;obtain⟨u,v,x,rfl,⟨_,rfl⟩,⟨_,rfl⟩,⟨_,rfl⟩⟩:=vals3 r
 exact min_three (I.ok.hd hc) λM tm g tk h1 h2 k=>⟨.int M,H,I.kept (t':=tk) k,⟨tm,rfl⟩,q M h1 h2⟩
end
def Jt(wi:TI)(src:List (Option Nat))(g:TG)(tt:TT)(tm:TM):TE:=λσ H Q=>wi σ H λJ H1=>uF J g tt tm (λys _ H'=>∀D,H' D=none->Q (.ref D) (upd H' D (.lst ys))) [] (capσ σ src) H1
theorem CZ{iter elt:Expr}{ifs:List Expr}{rest:List Comprehension}{scope:Scope}{pos p:Pos}{wi:TI}{g:TG}{tt:TT}{tm:TM}{M:Addr->Env->Sem Fin->Sem Fin}(Nc:List Str)(src:List (Option Nat))(hc:X.calm=true)(hi:PI X tg iter wi)
  (kQ:∀it D env,compTurn (.ListComp elt (⟨tg,iter,ifs,0⟩::rest) scope pos) 0 (.ref it) (.ref D) env=my tg ifs p (.ref it) env (M D env) (again (.compLoop (.ListComp elt (⟨tg,iter,ifs,0⟩::rest) scope pos) 0 (.ref it) (.ref D) env)))
  (hb:∀C fp Zt s₂ H₂,PG (cxC X scope Nc C fp Zt s₂ H₂) tg g/\PTs (cxC X scope Nc C fp Zt s₂ H₂) ifs tt/\∀D,Apart (cxC X scope Nc C fp Zt s₂ H₂) D->PM (cxC X scope Nc C fp Zt s₂ H₂) D (M D (cxC X scope Nc C fp Zt s₂ H₂).env) tm)
  (bg:∀C,Caps X (compEnvC scope (dC X.env.cells scope.names []) C X.env) Nc src) (S:CScope X scope)
  (hs:∀x,foldedSetIterable iter X.env x=pure x:=by intro _;rfl):PE X (.ListComp elt (⟨tg,iter,ifs,0⟩::rest) scope pos) (Jt wi src g tt tm):=by
 intro Zt s σ H Q I h;rw[eval_ListComp];refine wpAny_comprehension_free (use:=none) rfl hs (mY S.hfree) S.kind S.hnames ?_;refine thn (hi Zt s σ H _ I h) λv s1 h1=>thn h1 λua s2 h2=>?_;obtain⟨it,fp,tn,J,H2,e,I2,T,st2,f2,hW⟩:=h2;subst e;refine oh (RR:=λacc C=>compPost (model X.prog X.w) X.A X.xe none (EP X Zt σ Q) acc C) hc S rfl kQ bg hb I2 T st2 f2 hW ?_;intro D C s' ys H' m fin nD J' hn fC;obtain⟨f0,f1,_,f3,f4,f5⟩:=fC;refine⟨m,hn,λFO hZ=>?_⟩;exact⟨.ref D,_,J'.turned (t':=s'.toks) (λb o hb e=>hZ.extBut b o hb e) f0 f1 f3 f4 f5,rfl,fin D nD⟩
end L2
namespace K41
open PySem L2
variable{st:Addr}{S:Addr->Prop}{X:Cx}{H H':Hp}{ps ss:PK}{ds:List PyData}{xs:List V}{te:TE}{v:V}
def top(i:Nat):Stmt:=PySem.Challenge.pw_woolyears_k41_the_first_paper.main.body.getD i (.Pass ⟨0,0,0,0⟩)
def dF(d:PyData):Bool:=tu d&&!tD d
def items:PyData->List PyData
 |.tuple ds=>ds
 |_=>[]
def intOf:PyData->Int
 |.int i=>i
 |_=>0
def bH(d:PyData)(f m:Int):Bool:=tE d&&(decide (f<=(items d).length)&&decide (((items d).length:Int)<=m))
def bI(d:PyData)(n:Int):Bool:=bH d n n&&(items d).all dF
def rm(d:PyData):Bool:=bI d 3&&(items d).all λx=>decide (0<=intOf x)&&decide (intOf x<=999)
def iV(d:PyData):Bool:=bH d 1 20&&(items d).all rm
def at_(d:PyData)(i:Nat):Int:=intOf ((items d).getD i .none)
def tZ(a b c d e f:Int):Bool:=
 (decide (0<=a)&&decide (a<8))&&((decide (0<=b)&&decide (b<3))&&((decide (0<=c)&&(decide (c<=d)&&decide (d<=19)))&&((decide (1<=e)&&decide (e<=99))&&(decide (0<=f)&&decide (f<=1000000)))))
def jV(d:PyData):Bool:=bI d 6&&tZ (at_ d 0) (at_ d 1) (at_ d 2) (at_ d 3) (at_ d 4) (at_ d 5)
def fJ(d:PyData):Bool:=bH d 0 10&&(items d).all jV
theorem nd1(x:Str):([x]:List Str).Nodup:=by simp
theorem Dd(d:PyData):1<=sz d:=by cases d<;>simp[sz]
theorem u5:∀(ds:List PyData),ds.length<=szs ds
 |[]=>zAp _
 |d::ds=>by
  have:=u5 ds;have:=Dd d;simp only[List.length_cons,szs];lia
theorem u6:∀{ds:List PyData} {d:PyData},d∈ds->sz d<=szs ds
 |x::ds,d,h=>by
  simp only[szs];rcases zAo.mp h with e|e
  .rw[e];lia
  .have:=u6 e;lia
theorem jW{d:PyData}(h:d∈ds)(hz:sz (.tuple ds)<=4000):sz d<=4000:=by
 have:=u6 h;simp only[sz]at hz;lia
theorem gh(r:IsThs S H xs ds)(hz:sz (.tuple ds)<=4000):xs.length<sizeLine:=by
 have:=u5 ds;have:=r.length;simp only[sz]at hz;rw[sizeLine_eq];lia
def spT(f:PyData->Bool):Sp:=λvs H Q _=>∃S v d,vs=[v]/\IsTh S H v d/\sz d<=4000/\∀H',Same H H'->Q (.bl (f d)) H'
inductive SpT1I(f:PyData->Int->Bool)(vs:List V)(H:Hp)(Q:VK):Prop
 |mk:∀S v d n,(vs=[v,.int n])->(IsTh S H v d)->(sz d<=4000)->(∀H',Same H H'->Q (.bl (f d n)) H')->SpT1I f vs H Q
def Gk(f:PyData->Int->Bool):Sp:=λvs H Q _=>SpT1I f vs H Q
def mQ(f:PyData->Int->Int->Bool):Sp:=λvs H Q _=>∃S v d n m,vs=[v,.int n,.int m]/\IsTh S H v d/\sz d<=4000/\∀H',Same H H'->Q (.bl (f d n m)) H'
structure Mg(mg:Str->Option Value):Prop where
 isinstance:mg "isinstance"=none
 int:mg "int"=none
 bool:mg "bool"=none
 tuple:mg "tuple"=none
 len:mg "len"=none
 all:mg "all"=none
theorem boot_int:bootBuiltins "int"=some (.type "int"):=by decide +kernel
theorem boot_bool:bootBuiltins "bool"=some (.type "bool"):=by decide +kernel
theorem boot_tuple:bootBuiltins "tuple"=some (.type "tuple"):=by decide +kernel
theorem boot_isinstance:bootBuiltins "isinstance"=some (.builtin "isinstance"):=by decide +kernel
theorem boot_all:bootBuiltins "all"=some (.builtin "all"):=by decide +kernel
theorem dM{K:Frag}{src:List (Option Nat)}{i j:Nat}{σ:St}{Q:VK}{a:Addr}(f:PyData->Bool)(kU:σ[i]?=some (some (.ref a)))(ea:H a=some (.tup xs))(r:IsThs S H xs ds)(hl:xs.length<sizeLine)
  (vT:∀v d H1 Q1,d∈ds->Same H H1->IsTh S H1 v d->(∀H',Same H1 H'->Q1 (.bl (f d)) H')->te ((capσ σ src).set j (some v)) H1 Q1) (q:∀H',Same H H'->Q (.bl (ds.all f)) H'):
  tCB (λxs H Q=>∃(p:Addr) (bs:List Bool),xs=[.ref p]/\SqL K H p (bs.map V.bl)/\Q (.bl (bs.all id)) H) (uD (yc (K4 K (Fq i)) src (bK j) sO te) J1) σ H Q:=by
 refine⟨_,kU,a,rfl,⟨xs,SqT.of ea⟩,uR (j:=j) f ea r hl vT λH2 s2 D hD=>⟨D,ds.map f,rfl,?_,?_⟩⟩
 .rw[<-Ck];exact SqL.of aj
 .rw[Ji];exact q _ (s2.updR hD)
structure Nums(mg:Str->Option Value):Prop where
 sorts:∃t,mg "SORTS"=some (.int 3 t)
 holders:∃t,mg "HOLDERS"=some (.int 8 t)
 year:∃t,mg "LAST_YEAR"=some (.int 19 t)
 clips:∃t,mg "MOST_CLIPS"=some (.int 20 t)
 proms:∃t,mg "MOST_PROMISES"=some (.int 10 t)
 wool:∃t,mg "MOST_WOOL"=some (.int 999 t)
 sacks:∃t,mg "MOST_SACKS"=some (.int 99 t)
 price:∃t,mg "MOST_PRICE"=some (.int 1000000 t)
theorem lJ{d:PyData}{n:Int}(h:bI d n=true):bH d n n=true/\∀x∈items d,dF x=true:=by
 unfold bI at h;rw[zAc]at h;exact⟨h.1,Zaf.mp h.2⟩
theorem lK{d:PyData}(h:IsTh S H v d)(e:dF d=true):∃i,v=.int i/\d=.int i:=by
 cases h with
 |int i=>exact⟨i,rfl,rfl⟩
 |_=>cases e
theorem jX{α:Type}{n:Nat}{l:List α}(h:l.length=n+1):∃a t,l=a::t/\t.length=n:=by
 cases l with
 |nil=>cases h
 |cons a t=>exact⟨a,t,rfl,Nat.succ.inj h⟩
theorem KZ{α:Type}{l:List α}(h:l.length=5):∃a b c d e,l=[a,b,c,d,e]:=by
 obtain⟨a,l1,e1,h1⟩:=jX h;obtain⟨b,l2,e2,h2⟩:=jX h1;obtain⟨c,l3,e3,h3⟩:=jX h2;obtain⟨d,l4,e4,h4⟩:=jX h3;obtain⟨e,l5,e5,h5⟩:=jX h4;exact⟨a,b,c,d,e,by rw[e1,e2,e3,e4,e5,List.length_eq_zero_iff.mp h5]⟩
theorem La{α:Type}{l:List α}(h:l.length=6):∃a b c d e f,l=[a,b,c,d,e,f]:=by
 obtain⟨a,l1,e1,h1⟩:=jX h;obtain⟨b,c,d,e,f,e2⟩:=KZ h1;exact⟨a,b,c,d,e,f,by rw[e1,e2]⟩
theorem gW{d:PyData}(r:IsThs S H xs (d::ds))(e:dF d=true):∃i t,xs=.int i::t/\d=.int i/\IsThs S H t ds:=by
 cases r with
 |cons h1 r=>
  obtain⟨i,rfl,rfl⟩:=lK h1 e;exact⟨i,_,rfl,rfl,r⟩
theorem p8{d:PyData}(r:IsThs S H xs (d::ds)):∃v t,xs=v::t/\IsTh S H v d/\IsThs S H t ds:=by
 cases r with
 |cons h1 r=>exact⟨_,_,rfl,h1,r⟩
theorem Aq(r:IsThs S H xs ds)(hl:ds.length=3):∃v0 v1 v2 d0 d1 d2,xs=[v0,v1,v2]/\ds=[d0,d1,d2]/\IsTh S H v0 d0/\IsTh S H v1 d1/\IsTh S H v2 d2:=by
 obtain⟨d0,l1,e1,h1⟩:=jX hl;obtain⟨d1,l2,e2,h2⟩:=jX h1;obtain⟨d2,l3,e3,h3⟩:=jX h2;have e:ds=[d0,d1,d2]:=by rw[e1,e2,e3,List.length_eq_zero_iff.mp h3]
 subst e;obtain⟨v0,t0,f0,i0,r0⟩:=p8 r;obtain⟨v1,t1,f1,i1,r1⟩:=p8 r0;obtain⟨v2,t2,f2,i2,r2⟩:=p8 r1;cases r2;exact⟨v0,v1,v2,d0,d1,d2,by rw[f0,f1,f2],rfl,i0,i1,i2⟩
theorem Df(r:IsThs S H xs ds)(hl:ds.length=6)(hw:∀x∈ds,dF x=true):
  ∃i1 i2 i3 i4 i5 i6:Int,xs=[.int i1,.int i2,.int i3,.int i4,.int i5,.int i6]/\ds=[.int i1,.int i2,.int i3,.int i4,.int i5,.int i6]:=by
 obtain⟨d1,d2,d3,d4,d5,d6,rfl⟩:=La hl;obtain⟨i1,t1,e1,rfl,r1⟩:=gW r (hw _ Zy);obtain⟨i2,t2,e2,rfl,r2⟩:=gW r1 (hw _ Zy);obtain⟨i3,t3,e3,rfl,r3⟩:=gW r2 (hw _ Zy);obtain⟨i4,t4,e4,rfl,r4⟩:=gW r3 (hw _ Zy);obtain⟨i5,t5,e5,rfl,r5⟩:=gW r4 (hw _ Zy);obtain⟨i6,t6,e6,rfl,r6⟩:=gW r5 (hw _ Zy);cases r6;exact⟨i1,i2,i3,i4,i5,i6,by rw[e1,e2,e3,e4,e5,e6],rfl⟩
theorem Ar{n m:Int}(h:bH (.tuple ds) n m=true):n<=(ds.length:Int)/\(ds.length:Int)<=m:=by
 have h:(true&&(decide (n<=(ds.length:Int))&&decide ((ds.length:Int)<=m)))=true:=h;rw[Bool.true_and,zAc]at h;exact⟨zB6 h.1,zB6 h.2⟩
def Cal(P:Program)(w:World)(K:Frag)(mg:Str->Option Value)(base:Heap)(k:Nat)(x:Str)(ps:List Str)(sp:Sp):Prop:=
 ∃f fd,FnOk P w K mg base CX0 k f fd ps sp/\mg x=some (.ref f)/\PySem.W.keepIn K (.ref f)=true/\Binds K fd ps []
theorem aK{k j:Nat}{x:Str}{ps:List Str}{sp:Sp}{p pos:Pos}{e:Expr}{es:List Expr}{t:TA}(c:Cal X.prog X.w X.K X.mg X.base j x ps sp)(hr:Room k X.A)(ha:PA X (e::es) t)(FU:j<=k:=by decide)(hg:Gl X x:=by exact rfl)
  (uk:(x==("__debug__":Str))=false:=by decide) (he:starEach (e::es) X.env=(false,eval e X.env)::starEach es X.env:=by rfl) (rj:(backTo pos (starEach es X.env)).any (·.1)=false:=by rfl):
  PE X (.Call (.Name x p) (e::es) [] pos) (Hy sp [] E0 t):=by
 obtain⟨f,fd,F,hm,hk,hb⟩:=c;exact FJ F (hr.mono FU) hg hm hk hb .nil Kh ha uk he rj
variable{P:Program}{w:World}{K:Frag}{mg:Str->Option Value}{base:Heap}{f:Addr}{fd:FuncData}
theorem sc1:FnScope ["thing"] ["thing"] (aJ (top 9)):=fQS
theorem vd(F:Fun K "is_whole" "is_whole" (top 9) f fd)(T:Mg mg):FnOk P w K mg base CX0 1 f fd ["thing"] (spT dF):=by
 refine F.ok sc1 (λvs H Q E h=>?_) (λay A outer s H vs Q E hr h=>?_)
 .obtain⟨S,v,d,rfl,_⟩:=h;rfl
 .obtain⟨S,v,d,rfl,th,hz,q⟩:=h
  refine⟨_,aG (aW (cR (aM iI rfl T.isinstance boot_isinstance (aX (pv 0) (aX (rZ rfl T.int boot_int (v:=.ty "int") rfl) ao)))
   (fH (IV (aM iI rfl T.isinstance boot_isinstance (aX (pv 0) (aX (rZ rfl T.bool boot_bool (v:=.ty "bool") rfl) ao))))))),?_⟩
  refine⟨_,rfl,v,_,"int",tu d,rfl,th.ty,G5 d,_,rfl,?_⟩;have fin:=q H (Same.refl H);unfold dF at fin
  cases e:tu d with
  |false=>
   rw[e]at fin;exact bZ fin
  |true=>
   rw[e]at fin;exact cC ⟨_,rfl,v,_,"bool",tD d,rfl,th.ty,Cj d,_,rfl,fin⟩
theorem sc2:FnScope ["thing","fewest","most"] ["thing","fewest","most"] (aJ (top 11)):=fQS
theorem ph(F:Fun K "is_tuple_of" "is_tuple_of" (top 11) f fd)(T:Mg mg):FnOk P w K mg base CX0 1 f fd ["thing","fewest","most"] (mQ bH):=by
 refine F.ok sc2 (λvs H Q E h=>?_) (λay A outer s H vs Q E hr h=>?_)
 .obtain⟨S,v,d,n,m,rfl,_⟩:=h;rfl
 .obtain⟨S,v,d,n,m,rfl,th,hz,q⟩:=h
  refine⟨_,aG (aW (cR (aM iI rfl T.isinstance boot_isinstance (aX (pv 0) (aX (rZ rfl T.tuple boot_tuple (v:=.ty "tuple") rfl) ao)))
   (fH (dB bV bV (pv 1) (aM bY rfl T.len PySem.boot_len (aX (pv 0) ao)) (pv 2))))),?_⟩
  refine⟨_,rfl,v,_,"tuple",tE d,rfl,th.ty,G6 d,_,rfl,?_⟩;have fin:=q H (Same.refl H);unfold bH at fin
  cases e:tE d with
  |false=>
   rw[e]at fin;exact bZ fin
  |true=>
   rw[e]at fin;refine cC ?_
   cases th with
   |@tup a xs ds ea r=>
    have hl:=r.length;refine⟨_,rfl,_,rfl,a,xs,rfl,.inr (SqT.of ea),_,_,rfl,rfl,_,rfl,?_⟩;rw[hl];have fin:Q (.bl (true&&(decide (n<=(ds.length:Int))&&decide ((ds.length:Int)<=m)))) H:=fin
    cases e1:decide (n<=(ds.length:Int))with
    |false=>
     rw[e1]at fin;exact bZ fin
    |true=>
     rw[e1]at fin;exact cC ⟨_,rfl,_,_,rfl,rfl,fin⟩
   |_=>cases e
theorem sc3:FnScope ["thing","many"] ["thing","many"] (aJ (top 12)):=fQS
theorem qm(F:Fun K "are_wholes" "are_wholes" (top 12) f fd)(T:Mg mg)(c1:Cal P w K mg base 1 "is_whole" ["thing"] (spT dF))(c2:Cal P w K mg base 1 "is_tuple_of" ["thing","fewest","most"] (mQ bH)):
  FnOk P w K mg base CX0 2 f fd ["thing","many"] (Gk bI):=by
 refine F.ok sc3 (λvs H Q E h=>?_) (λay A outer s H vs Q E hr h=>?_)
 .obtain⟨S,v,d,n,rfl,_⟩:=h;rfl
 .obtain⟨S,v,d,n,rfl,th,hz,q⟩:=h
  refine⟨_,aG (aW (cR (aK c2 hr (aX (pv 0) (aX (pv 1) (aX (pv 1) ao))))
   (fH (aM (fZ rfl) rfl T.all boot_all (aX (bB ["part"] [none] rfl (gZ (pv 0))
    (λC fp Zt s₂ H₂=>⟨bC (i:=0) (nd1 _) rfl (Or.inl rfl),bx,aK c1 hr (aX (pv 0) ao)⟩) (λC=>trivial) ⟨rfl,rfl,rfl,rfl⟩) ao))))),?_⟩
  refine⟨_,rfl,_,rfl,_,rfl,S,v,d,n,n,rfl,th,hz,λH1 s1=>⟨_,rfl,?_⟩⟩;have fR:=th.same s1
  cases e:bH d n n with
  |false=>
   refine bZ ?_;have fin:=q H1 s1;unfold bI at fin;rw[e]at fin;exact fin
  |true=>
   refine cC ?_
   cases fR with
   |@tup a xs ds ea r=>
    have ew:bI (.tuple ds) n=ds.all dF:=by unfold bI;rw[e];rfl
    refine dM dF rfl ea r (gh r hz) (λv d H2 Q2 hm s2 t2 q2=>⟨_,rfl,S,v,d,rfl,t2,jW hm hz,q2⟩) λH2 s2=>?_;rw[<-ew];exact q _ (s1.trans s2)
   |_=>cases e
theorem sc13:FnScope ["thing"] ["thing"] (aJ (top 23)):=fQS
theorem wW(F:Fun K "is_clip" "is_clip" (top 23) f fd)(T:Mg mg)(N:Nums mg)(c1:Cal P w K mg base 2 "are_wholes" ["thing","many"] (Gk bI)):
  FnOk P w K mg base CX0 3 f fd ["thing"] (spT rm):=by
 refine F.ok sc13 (λvs H Q E h=>?_) (λay A outer s H vs Q E hr h=>?_)
 .obtain⟨S,v,d,rfl,_⟩:=h;rfl
 .obtain⟨S,v,d,rfl,th,hz,q⟩:=h;obtain⟨t3,e3⟩:=N.sorts;obtain⟨t9,e9⟩:=N.wool
  refine⟨_,aG (aW (cR (aK c1 hr (aX (pv 0) (aX (cg (v:=.int 3) rfl e3 ⟨_,rfl⟩) ao)))
   (fH (aM (fZ rfl) rfl T.all boot_all (aX (bB ["sacks"] [none] rfl (gZ (pv 0))
    (λC fp Zt s₂ H₂=>⟨bC (i:=0) (nd1 _) rfl (Or.inl rfl),bx,dB bV bV aB (pv 0) (cg (v:=.int 999) rfl e9 ⟨_,rfl⟩)⟩) (λC=>trivial) ⟨rfl,rfl,rfl,rfl⟩) ao))))),?_⟩
  refine⟨_,rfl,S,v,d,3,rfl,th,hz,λH1 s1=>⟨_,rfl,?_⟩⟩;have fR:=th.same s1;have fin:=λH' (s:Same H H')=>q H' s;unfold rm at fin
  cases e:bI d 3 with
  |false=>
   rw[e]at fin;exact bZ (fin _ s1)
  |true=>
   rw[e]at fin;refine cC ?_;obtain⟨e1,e2⟩:=lJ e
   cases fR with
   |@tup a xs ds ea r=>
    refine dM (λx=>decide (0<=intOf x)&&decide (intOf x<=999)) rfl ea r (gh r hz) (λv d H2 Q2 hm s2 t2 q2=>?_) λH2 s2=>fin _ (s1.trans s2);obtain⟨i,rfl,rfl⟩:=lK t2 (e2 d hm);refine⟨_,rfl,_,_,rfl,rfl,_,rfl,?_⟩;have q3:=q2 H2 (Same.refl _);show if decide ((0:Int)<=i)=true then _ else _
    cases e5:decide ((0:Int)<=i)with
    |false=>
     refine bZ ?_;have q3:Q2 (.bl (decide ((0:Int)<=i)&&decide (i<=999))) H2:=q3;rw[e5]at q3;exact q3
    |true=>
     refine cC ⟨_,_,rfl,rfl,?_⟩;have q3:Q2 (.bl (decide ((0:Int)<=i)&&decide (i<=999))) H2:=q3;rw[e5]at q3;exact q3
   |_=>cases e1
theorem sc14:FnScope ["thing"] ["thing"] (aJ (top 24)):=fQS
theorem u9(F:Fun K "are_clips" "are_clips" (top 24) f fd)(T:Mg mg)(N:Nums mg)(c1:Cal P w K mg base 3 "is_clip" ["thing"] (spT rm))(c2:Cal P w K mg base 1 "is_tuple_of" ["thing","fewest","most"] (mQ bH)):
  FnOk P w K mg base CX0 4 f fd ["thing"] (spT iV):=by
 refine F.ok sc14 (λvs H Q E h=>?_) (λay A outer s H vs Q E hr h=>?_)
 .obtain⟨S,v,d,rfl,_⟩:=h;rfl
 .obtain⟨S,v,d,rfl,th,hz,q⟩:=h;obtain⟨t3,e3⟩:=N.clips
  refine⟨_,aG (aW (cR (aK c2 hr (aX (pv 0) (aX aB (aX (cg (v:=.int 20) rfl e3 ⟨_,rfl⟩) ao))))
   (fH (aM (fZ rfl) rfl T.all boot_all (aX (bB ["part"] [none] rfl (gZ (pv 0))
    (λC fp Zt s₂ H₂=>⟨bC (i:=0) (nd1 _) rfl (Or.inl rfl),bx,aK c1 hr (aX (pv 0) ao)⟩) (λC=>trivial) ⟨rfl,rfl,rfl,rfl⟩) ao))))),?_⟩
  refine⟨_,rfl,S,v,d,1,20,rfl,th,hz,λH1 s1=>⟨_,rfl,?_⟩⟩;have fR:=th.same s1;have fin:=λH' (s:Same H H')=>q H' s;unfold iV at fin
  cases e:bH d 1 20 with
  |false=>
   rw[e]at fin;exact bZ (fin _ s1)
  |true=>
   rw[e]at fin;refine cC ?_
   cases fR with
   |@tup a xs ds ea r=>exact dM rm rfl ea r (gh r hz) (λv d H2 Q2 hm s2 t2 q2=>⟨_,rfl,S,v,d,rfl,t2,jW hm hz,q2⟩) λH2 s2=>fin _ (s1.trans s2)
   |_=>cases e
theorem sc15:FnScope ["thing","holder","sort","first","last","sacks","price"] ["thing"] (aJ (top 25)):=fQS
theorem qp(F:Fun K "is_promise" "is_promise" (top 25) f fd)(T:Mg mg)(N:Nums mg)(c1:Cal P w K mg base 2 "are_wholes" ["thing","many"] (Gk bI)):
  FnOk P w K mg base CX0 3 f fd ["thing"] (spT jV):=by
 refine F.ok sc15 (λvs H Q E h=>?_) (λay A outer s H vs Q E hr h=>?_)
 .obtain⟨S,v,d,rfl,_⟩:=h;rfl
 .obtain⟨S,v,d,rfl,th,hz,q⟩:=h;obtain⟨t1,e1⟩:=N.holders;obtain⟨t2,e2⟩:=N.sorts;obtain⟨t3,e3⟩:=N.year;obtain⟨t4,e4⟩:=N.sacks;obtain⟨t5,e5⟩:=N.price
  refine⟨_,aC (dh (cW (fG (aK c1 hr (aX (pv 0) (aX aB ao))))) (aG (aW lV)) bN)
   (aC (cH (pv 0) (bG rfl (aq (pgn 1 sc15.nd) (aq (pgn 2 sc15.nd) (aq (pgn 3 sc15.nd)
    (aq (pgn 4 sc15.nd) (aq (pgn 5 sc15.nd) (aq (pgn 6 sc15.nd) bf))))))))
   (aG (aW (cR (dB bV nQ aB (pv 1) (cg (v:=.int 8) rfl e1 ⟨_,rfl⟩)) (cR (dB bV nQ aB (pv 2) (cg (v:=.int 3) rfl e2 ⟨_,rfl⟩))
    (cR (Aa bV bV bV aB (pv 3) (pv 4) (cg (v:=.int 19) rfl e3 ⟨_,rfl⟩)) (cR (dB bV bV aB (pv 5) (cg (v:=.int 99) rfl e4 ⟨_,rfl⟩))
     (fH (dB bV bV aB (pv 6) (cg (v:=.int 1000000) rfl e5 ⟨_,rfl⟩)))))))))),?_⟩
  refine⟨_,rfl,S,v,d,6,rfl,th,hz,λH1 s1=>⟨_,rfl,?_⟩⟩;have fR:=th.same s1;have fin:=λH' (s:Same H H')=>q H' s;unfold jV at fin
  cases e:bI d 6 with
  |false=>
   rw[e]at fin;exact cC (fin _ s1)
  |true=>
   rw[e]at fin;refine bZ ?_;obtain⟨z1,z2⟩:=lJ e
   cases fR with
   |@tup a xs ds ea r=>
    have hl:ds.length=6:=by
     have:=Ar z1;lia
    obtain⟨i1,i2,i3,i4,i5,i6,rfl,rfl⟩:=Df r hl z2;refine⟨_,rfl,a,_,rfl,SqT.of ea,rfl,_,_,rfl,_,_,rfl,_,_,rfl,_,_,rfl,_,_,rfl,_,_,rfl,rfl,?_⟩;refine iM (cz fU (dX rfl) fU) (λ_=>iM (cz fU (dX rfl) fU) λ_=>iM (Ab fU (dX rfl) (dX rfl) fU) λ_=>iM (cz fU (dX rfl) fU) λ_=>cz fU (dX rfl) fU) _ ?_;exact fin H1 s1
   |_=>cases z1
theorem MF:FnScope ["thing"] ["thing"] (aJ (top 26)):=fQS
theorem mR(F:Fun K "are_promises" "are_promises" (top 26) f fd)(T:Mg mg)(N:Nums mg)(c1:Cal P w K mg base 3 "is_promise" ["thing"] (spT jV))(c2:Cal P w K mg base 1 "is_tuple_of" ["thing","fewest","most"] (mQ bH)):
  FnOk P w K mg base CX0 4 f fd ["thing"] (spT fJ):=by
 refine F.ok MF (λvs H Q E h=>?_) (λay A outer s H vs Q E hr h=>?_)
 .obtain⟨S,v,d,rfl,_⟩:=h;rfl
 .obtain⟨S,v,d,rfl,th,hz,q⟩:=h;obtain⟨t3,e3⟩:=N.proms
  refine⟨_,aG (aW (cR (aK c2 hr (aX (pv 0) (aX aB (aX (cg (v:=.int 10) rfl e3 ⟨_,rfl⟩) ao))))
   (fH (aM (fZ rfl) rfl T.all boot_all (aX (bB ["part"] [none] rfl (gZ (pv 0))
    (λC fp Zt s₂ H₂=>⟨bC (i:=0) (nd1 _) rfl (Or.inl rfl),bx,aK c1 hr (aX (pv 0) ao)⟩) (λC=>trivial) ⟨rfl,rfl,rfl,rfl⟩) ao))))),?_⟩
  refine⟨_,rfl,S,v,d,0,10,rfl,th,hz,λH1 s1=>⟨_,rfl,?_⟩⟩;have fR:=th.same s1;have fin:=λH' (s:Same H H')=>q H' s;unfold fJ at fin
  cases e:bH d 0 10 with
  |false=>
   rw[e]at fin;exact bZ (fin _ s1)
  |true=>
   rw[e]at fin;refine cC ?_
   cases fR with
   |@tup a xs ds ea r=>exact dM jV rfl ea r (gh r hz) (λv d H2 Q2 hm s2 t2 q2=>⟨_,rfl,S,v,d,rfl,t2,jW hm hz,q2⟩) λH2 s2=>fin _ (s1.trans s2)
   |_=>cases e
def qt(d:PyData)(lo hi:Int):Bool:=dF d&&(decide (lo<=intOf d)&&decide (intOf d<=hi))
def jY(H:Hp)(st:Addr):Prop:=∃a b:Int,H st=some (.lst [.int a,.int b])/\0<=a/\0<=b/\b<4294967296
def But(st:Addr)(H H':Hp):Prop:=∀b o,H b=some o->b≠st->H' b=some o
inductive SpCellI(K:Frag)(vs:List V)(H:Hp)(Q:VK):Prop
 |mk:∀(a:Addr) (ns:PP) (k:Int),(vs=[.ref a,.int k])->(SqL K H a (ns.map V.int))->(0<=k)->(∀i,Q (.int i) H)->SpCellI K vs H Q
def Dg(K:Frag):Sp:=λvs H Q _=>SpCellI K vs H Q
inductive SpStateI(K:Frag)(vs:List V)(H:Hp)(Q:VK):Prop
 |mk:∀(a:Addr) (ns:PP) (k:Int),(vs=[.ref a,.int k])->(SqL K H a (ns.map V.int))->(0<=k)->(∀(p:Addr) (x y:Int),H p=none->0<=x->0<=y->y<4294967296->Q (.ref p) (upd H p (.lst [.int x,.int y])))->SpStateI K vs H Q
def yD(K:Frag):Sp:=λvs H Q _=>SpStateI K vs H Q
inductive SpTakeI(vs:List V)(H:Hp)(Q:VK):Prop
 |mk:∀(st:Addr) (n:Int),(vs=[.ref st,.int n])->(jY H st)->(1<=n)->(n<1073741824)->(∀r a' b':Int,0<=r->r<n->0<=a'->0<=b'->b'<4294967296->Q (.int r) (upd H st (.lst [.int a',.int b'])))->SpTakeI  vs H Q
def pq:Sp:=λvs H Q _=>SpTakeI  vs H Q
theorem MJ:FnScope [Yx,Zd] [Yx,Zd] (aJ (top 63)):=fQS
theorem Gm(F:Fun K "_law_cell_at" "_law_cell_at" (top 63) f fd)(T:Mg mg):FnOk P w K mg base CX0 1 f fd [Yx,Zd] (Dg K):=by
 refine F.ok MJ (λvs H Q E h=>?_) (λay A outer s H vs Q E hr h=>?_)
 .obtain⟨a,ns,k,rfl,_⟩:=h;rfl
 .obtain⟨a,ns,k,rfl,hS,h0,q⟩:=h;refine⟨_,aC (dh (bT nQ (pv 1) (aM bY rfl T.len PySem.boot_len (aX (pv 0) ao)) (bQ _)) (aG (aW (pX bA (pv 0) (pv 1)))) bN) (aG (aW aB)),?_⟩;refine⟨_,rfl,_,rfl,a,_,rfl,.inl hS,_,_,rfl,rfl,_,rfl,?_⟩;refine BW (λc=>?_) (λ_=>q 0);have c:=zB6 c;rw[zA1]at c;have hk:k.toNat<ns.length:=Zz
  refine⟨_,rfl,_,rfl,a,_,k,.int ns[k.toNat],rfl,rfl,hS,?_,q _⟩;have e:(ns.map V.int)[k.toNat]?=some (.int ns[k.toNat]):=by rw[zAb,zA0 hk];rfl
  have:=cB e;rw[show((k.toNat:Nat):Int)=k by lia]at this;exact this
theorem sc19:FnScope [Yx,Zd,"_law_cell"] [Yx,Zd] (aJ (top 64)):=fQS
theorem Dh(F:Fun K "_law_state" "_law_state" (top 64) f fd)(c1:Cal P w K mg base 1 "_law_cell_at" [Yx,Zd] (Dg K)):FnOk P w K mg base CX0 2 f fd [Yx,Zd] (yD K):=by
 refine F.ok sc19 (λvs H Q E h=>?_) (λay A outer s H vs Q E hr h=>?_)
 .obtain⟨a,ns,k,rfl,_⟩:=h;rfl
 .obtain⟨a,ns,k,rfl,hS,h0,q⟩:=h
  refine⟨_,aC (pss 2 sc19.nd (aK c1 hr (aX (pv 0) (aX (pv 1) ao))))
   (aC (dh (bT BL (pv 2) (aU wk aB aB) (bQ _)) (aG (aW (cJ (au (aU d8 (pv 2) (aU wk aB aB)) (au (aU bw (aU gJ (pv 2) aB) aB) ao))))) bN)
   (aG (aW (cJ (au aB (au (aU bw (aU gJ (pv 2) aB) aB) ao)))))),?_⟩
  refine⟨_,rfl,_,rfl,a,ns,k,rfl,hS,h0,λc=>?_⟩;refine⟨_,rfl,_,_,rfl,rfl,⟨by decide,by decide,by decide⟩,_,_,rfl,rfl,_,rfl,?_⟩;refine BW (λhc=>?_) (λ_=>?_)
  .have hc:=zB6 hc;refine⟨_,rfl,_,_,rfl,rfl,⟨by decide,by decide,by decide⟩,_,_,rfl,rfl,_,rfl,_,_,rfl,rfl,(by show(0:Int)<2147483629;decide),_,_,rfl,rfl,zL,λp hp=>?_⟩;refine q p _ _ hp ?_ ?_ ?_
   .show 0<=c-(10:Int)^18;have hc:(10:Int)^18<=c:=hc;lia
   .show 0<=c % 2147483629+1;lia
   .show c % 2147483629+1<4294967296;lia
  .refine⟨_,rfl,_,_,rfl,rfl,(by show(0:Int)<2147483647;decide),_,_,rfl,rfl,zL,λp hp=>?_⟩;refine q p _ _ hp (Int.le_refl 0) ?_ ?_
   .show 0<=c % 2147483647+1;lia
   .show c % 2147483647+1<4294967296;lia
theorem sc20:FnScope [Ys,Ze,Y4,"_law_stirred"] [Ys,Ze] (aJ (top 65)):=fQS
theorem Gn(F:Fun K Zh Zh (top 65) f fd):FnOk P w K mg base CX0 1 f fd [Ys,Ze] pq:=by
 refine F.ok sc20 (λvs H Q E h=>?_) (λay A outer s H vs Q E hr h=>?_)
 .obtain⟨st,n,rfl,_⟩:=h;rfl
 .obtain⟨st,n,rfl,⟨a,b,es,ha,hb,iq⟩,h1,h2,q⟩:=h
  refine⟨_,aC (dh (bT lZ (pX bA (pv 0) aB) aB (bQ _))
    (aC (pss 2 sc20.nd (aU gJ (pX bA (pv 0) aB) (pv 1)))
     (aC (cH (aU mW (pX bA (pv 0) aB) (pv 1)) (nO (pv 0) aB set_list)) (aG (aW (pv 2))))) bN)
   (aC (cH (aU gJ (aU bw (aU gH (pX bA (pv 0) aB) aB) aB) aB) (nO (pv 0) aB set_list))
   (aC (pss 3 sc20.nd (aU gJ (aU bw (aU bw (aU gH (pX bA (pv 0) aB) (pX bA (pv 0) aB)) (aU gH aB (pX bA (pv 0) aB))) aB) aB))
   (aC (pss 3 sc20.nd (aU gJ (aU bw (aU bw (aU gH (pv 3) (pv 3)) (aU gH aB (pv 3))) aB) aB))
   (aG (aW (aU gJ (aU mW (pv 3) aB) (pv 1))))))),?_⟩
  refine⟨_,rfl,st,_,0,.int a,rfl,rfl,SqL.of es,rfl,_,_,rfl,rfl,_,rfl,?_⟩;refine BW (λhc=>?_) (λ_=>?_)
  .refine⟨_,rfl,st,_,0,.int a,rfl,rfl,SqL.of es,rfl,_,rfl,_,_,rfl,rfl,(by show 0<n;lia),?_⟩;refine⟨_,rfl,st,_,0,.int a,rfl,rfl,SqL.of es,rfl,_,rfl,_,_,rfl,rfl,⟨Zz,h2⟩,_,rfl,st,_,0,0,rfl,rfl,es,rfl,_,rfl,?_⟩;exact q (a % n) (a / n) b (Int.emod_nonneg a Zz) (Int.emod_lt_of_pos a Zz) (Int.ediv_nonneg ha Zz) hb iq
  .refine⟨_,rfl,st,_,1,.int b,rfl,rfl,SqL.of es,rfl,_,_,rfl,rfl,.inl ⟨Zz,Zz⟩,_,_,rfl,rfl,_,_,rfl,rfl,(by show(0:Int)<2147483647;decide),_,rfl,st,_,1,1,rfl,rfl,es,rfl,?_⟩;have N9:0<=(b*48271+29) % 2147483647:=Int.emod_nonneg _ Zx;have QL:(b*48271+29) % 2147483647<2147483647:=Int.emod_lt_of_pos _ Zx
   obtain⟨m,hm⟩:∃m,m=(b*48271+29) % 2147483647:=⟨_,rfl⟩
   rw[<-hm]at N9 QL;have eL:([V.int a,V.int b].set 1 ((λi j:Int=>V.int (i % j)) (b*48271+29) 2147483647))=[V.int a,V.int m]:=by rw[hm];rfl
   rw[eL];have f7:upd H st (.lst [.int a,.int m]) st=some (.lst [.int a,.int m]):=aj;refine⟨_,rfl,st,_,1,.int m,rfl,rfl,SqL.of f7,rfl,_,rfl,st,_,1,.int m,rfl,rfl,SqL.of f7,rfl,_,_,rfl,rfl,.inl ⟨Zz,Zz⟩,_,rfl,st,_,1,.int m,rfl,rfl,SqL.of f7,rfl,_,_,rfl,rfl,.inl ⟨by decide,by decide⟩,_,_,rfl,rfl,_,_,rfl,rfl,_,_,rfl,rfl,(by show(0:Int)<2147483629;decide),?_⟩;have HG:0<=(m*m+39373*m+7) % 2147483629:=Int.emod_nonneg _ Zx;have wq:(m*m+39373*m+7) % 2147483629<2147483629:=Int.emod_lt_of_pos _ Zx;refine⟨_,rfl,_,rfl,_,_,rfl,rfl,.inl ⟨Int.lt_of_lt_of_le Zx HG,Int.lt_trans wq Zx⟩,_,rfl,_,_,rfl,rfl,.inl ⟨by decide,by decide⟩,_,_,rfl,rfl,_,_,rfl,rfl,_,_,rfl,rfl,(by show(0:Int)<2147483587;decide),?_⟩;refine⟨_,rfl,_,_,rfl,rfl,⟨by decide,by decide⟩,_,rfl,_,_,rfl,rfl,(by show 0<n;lia),?_⟩;exact q _ a m (Int.emod_nonneg _ Zz) (Int.emod_lt_of_pos _ Zz) ha N9 Zz
theorem pC:bootBuiltins "repr"=some (.builtin "repr"):=by decide +kernel
inductive SpSameI(vs:List V)(H:Hp)(Q:VK):Prop
 |mk:∀S v u d e,(vs=[v,u])->(¬S sysModules)->(IsTh S H v d)->(IsTh S H u e)->(tame d=true)->(tame e=true)->(sz d<=1000)->(sz e<=1000)->(Q (.bl (decide (V.str d.shown=V.str e.shown))) H)->SpSameI  vs H Q
def Di:Sp:=λvs H Q _=>SpSameI  vs H Q
theorem yE{A:Around}{k:Nat}(hr:Room k A)(hk:60<=k){d:PyData}(h:sz d<=1000):A.units+(sz d+1)<cLine:=by
 have:=hr.un;lia
theorem MK:FnScope [Y4,Za] [Y4,Za] (aJ (top 79)):=fQS
theorem Gp(F:Fun K "_law_same" "_law_same" (top 79) f fd)(Tr:mg "repr"=none):FnOk P w K mg base CX0 61 f fd [Y4,Za] Di:=by
 refine F.ok MK (λvs H Q E h=>?_) (λay A outer s H vs Q E hr h=>?_)
 .obtain⟨S,v,u,d,e,rfl,_⟩:=h;rfl
 .obtain⟨S,v,u,d,e,rfl,hS,t1,t2,m1,m2,z1,z2,q⟩:=h;refine⟨_,aG (aW (j9 jH (aM (qQ (S:=S) hr.gd hS) rfl Tr pC (aX (pv 0) ao)) (aM (qQ (S:=S) hr.gd hS) rfl Tr pC (aX (pv 1) ao)) (bQ _))),?_⟩;exact⟨_,rfl,v,d,rfl,t1,m1,Zz,yE hr (zA3 _) z1,_,rfl,u,e,rfl,t2,m2,Zz,yE hr (zA3 _) z2,rfl,q⟩
theorem gj{K:Frag}(hK:X.K=K):IxR X (Kd K):=by
 subst hK;exact bA
theorem MN:([Yz,Ys,"_law_wide"]:List Str).Nodup:=by decide +kernel
theorem sc21:FnScope [Ys,Yy,"_law_wide",Y4,"_law_turn"] [Ys,Yy] (aJ (top 66)):=fQS
structure Mk3(st p3:Addr)(xs:List V)(ds:List PyData)(H H':Hp):Prop where
 bt:But st H H'
 sa:jY H' st
 e3:H' p3=some (.lst xs)
 ts:IsThs (λ_=>False) H' xs ds
theorem Mk3.take{p3:Addr}(g:Mk3 st p3 xs ds H H')(np:p3≠st){a b:Int}(h1:0<=a)(h2:0<=b)(h3:b<4294967296):Mk3 st p3 xs ds H (upd H' st (.lst [.int a,.int b])):=by
 refine⟨λb' o' e' ne=>?_,⟨a,b,aj,h1,h2,h3⟩,by rw[az np];exact g.e3,g.ts.keep (λc l e=>?_) (λ_ _ z _=>z.elim) λ_ _ z _=>z.elim⟩
 .rw[az ne];exact g.bt b' o' e' ne
 .obtain⟨x,y,e7,_⟩:=g.sa
  have:c≠st:=λz=>by
   rw[z,e7]at e;cases e
  rw[az this];exact e
theorem Mk3.new{p3 p:Addr}{o:HO}(g:Mk3 st p3 xs ds H H')(hp:H' p=none):Mk3 st p3 xs ds H (upd H' p o):=by
 obtain⟨x,y,e7,k⟩:=g.sa;exact⟨λb' o' e' ne=>Same.upd hp _ _ (g.bt b' o' e' ne),⟨x,y,Same.upd hp _ _ e7,k⟩,Same.upd hp _ _ g.e3,g.ts.same (Same.upd hp)⟩
theorem boot_min:bootBuiltins "min"=some (.builtin "min"):=by decide +kernel
theorem sc22:FnScope [Ys,Yy,Y9,Y4,"_law_wide","_law_turn",Y5,"_law_last","_law_price",Zg] [Ys,Yy,Y9] (aJ (top 67)):=fQS
structure Dr(st:Addr)(H H':Hp):Prop where
 bt:But st H H'
 sa:jY H' st
theorem But.refl:But st H H:=λ_ _ e _=>e
theorem Dr.same{H1 H2:Hp}(g:Dr st H H1)(s:Same H1 H2):Dr st H H2:=by
 obtain⟨a,b,e,k⟩:=g.sa;exact⟨λb' o' e' ne=>s _ _ (g.bt b' o' e' ne),a,b,s _ _ e,k⟩
theorem Dr.trans{H1 H2:Hp}(g:Dr st H H1)(g':Dr st H1 H2):Dr st H H2:=⟨λb' o' e' ne=>g'.bt _ _ (g.bt b' o' e' ne) ne,g'.sa⟩
theorem Dr.take{H1:Hp}(g:Dr st H H1){a b:Int}(h1:0<=a)(h2:0<=b)(h3:b<4294967296):Dr st H (upd H1 st (.lst [.int a,.int b])):=
 ⟨λb' o' e' ne=>by rw[az ne];exact g.bt b' o' e' ne,a,b,aj,h1,h2,h3⟩
theorem Dr.new{p:Addr}{o:HO}{H1:Hp}(g:Dr st H H1)(hp:H1 p=none):Dr st H (upd H1 p o):=g.same (Same.upd hp)
theorem Dr.ne{p:Addr}{H1:Hp}(g:Dr st H H1)(hp:H1 p=none):p≠st:=λz=>by
 obtain⟨a,b,e,_⟩:=g.sa;rw[z,e]at hp;cases hp
def cX(r:PP):PyData:=.tuple (r.map .int)
def cM(rs:PK):PyData:=.tuple (rs.map cX)
def fl(r:PP)(i:Nat):Int:=r.getD i 0
def okP(r:PP):Prop:=r.length=6/\(0<=fl r 0/\fl r 0<8)/\(0<=fl r 1/\fl r 1<3)/\(0<=fl r 2/\fl r 2<=fl r 3/\fl r 3<=19)/\(1<=fl r 4/\fl r 4<=99)/\(0<=fl r 5/\fl r 5<=1000000)
def fK(d:PyData):Bool:=bH d 0 12&&(items d).all λx=>bI x 5
def rowsOf(d:PyData):PK:=(items d).map λx=>(items x).map intOf
theorem Dj:∀{ds:List PyData},(∀x∈ds,dF x=true)->ds=(ds.map intOf).map PyData.int
 |[],_=>rfl
 |d::ds,h=>by
  rw[zAk,zAk,<-Dj λx hx=>h x (Za2 _ hx)];have:=h d Za1
  cases d with
  |int i=>rfl
  |_=>cases this
theorem jA{x:PyData}{n:Nat}(h:bI x n=true):x=cX ((items x).map intOf)/\((items x).map intOf).length=n:=by
 obtain⟨h1,h2⟩:=lJ h;unfold bH at h1;rw[zAc,zAc,Zq,Zq]at h1;obtain⟨ht,dE,iX⟩:=h1
 cases x with
 |tuple ds=>
  have dE:(n:Int)<=ds.length:=dE;have iX:(ds.length:Int)<=n:=iX;refine⟨?_,by show(ds.map intOf).length=n;rw[zA1];lia⟩;exact congrArg PyData.tuple (Dj h2)
 |_=>cases ht
theorem yF{n:Nat}(h:∀x∈ds,bI x n=true):ds=(ds.map λx=>(items x).map intOf).map cX:=by
 induction ds with
 |nil=>rfl
 |cons d ds ih=>
  rw[zAk,zAk,<-ih λx hx=>h x (Za2 _ hx),<-(jA (h d Za1)).1]
theorem lM{d:PyData}{f m:Int}(h:bH d f m=true):∃ds,d=.tuple ds/\f<=ds.length/\(ds.length:Int)<=m:=by
 unfold bH at h;rw[zAc,zAc,Zq,Zq]at h
 cases d with
 |tuple ds=>exact⟨ds,rfl,h.2⟩
 |_=>cases h.1
theorem rA(r:PP)(i:Nat)(h:i<r.length):at_ (cX r) i=fl r i:=by
 show intOf ((r.map PyData.int).getD i .none)=r.getD i 0;rw[zA7,zA7,zAb,zA0 h];rfl
theorem wX{d:PyData}(h:fJ d=true):d=cM (rowsOf d)/\(rowsOf d).length<=10/\∀r∈rowsOf d,okP r:=by
 unfold fJ at h;rw[zAc]at h;obtain⟨ds,rfl,_,hl⟩:=lM h.1;have h2:∀x∈ds,jV x=true:=Zaf.mp h.2
 have h3:∀x∈ds,bI x 6=true:=λx hx=>by
  have:=h2 x hx;unfold jV at this;rw[zAc]at this;exact this.1
 refine⟨congrArg PyData.tuple (yF (n:=6) h3),by show(ds.map _).length<=10;rw[zA1];lia,λr hr=>?_⟩;obtain⟨x,hx,rfl⟩:=zA5.mp hr;have hx:x∈ds:=hx;obtain⟨e,QM⟩:=jA (n:=6) (h3 x hx);have:=h2 x hx;unfold jV at this;rw[zAc]at this;have p:=this.2;rw[e]at p;rw[rA _ 0 Zz,rA _ 1 Zz,rA _ 2 Zz,rA _ 3 Zz,rA _ 4 Zz,rA _ 5 Zz]at p;unfold tZ at p;simp only[Bool.and_eq_true,Zq]at p;obtain⟨⟨a1,a2⟩,⟨b1,b2⟩,⟨c1,c2,c3⟩,⟨d1,d2⟩,e1,e2⟩:=p;exact⟨QM,⟨a1,a2⟩,⟨b1,b2⟩,⟨c1,c2,c3⟩,⟨d1,d2⟩,e1,e2⟩
theorem wY{d:PyData}(h:fK d=true):d=cM (rowsOf d)/\(rowsOf d).length<=12/\∀r∈rowsOf d,r.length=5:=by
 unfold fK at h;rw[zAc]at h;obtain⟨ds,rfl,_,hl⟩:=lM h.1;have h3:∀x∈ds,bI x 5=true:=Zaf.mp h.2;refine⟨congrArg PyData.tuple (yF (n:=5) h3),by show(ds.map _).length<=12;rw[zA1];lia,λr hr=>?_⟩;obtain⟨x,hx,rfl⟩:=zA5.mp hr;exact(jA (n:=5) (h3 x hx)).2
structure RowsAt(H:Hp)(a:Addr)(xs:List V)(rs:PK):Prop where
 e:H a=some (.tup xs)
 l:xs.length=rs.length
 g:∀(i:Nat) (r:PP),rs[i]?=some r->∃t,xs[i]?=some (V.ref t)/\H t=some (.tup (r.map V.int))
theorem RowsAt.keep{a:Addr}{rs:PK}(h:RowsAt H a xs rs)(k:∀b l,H b=some (.tup l)->H' b=some (.tup l)):RowsAt H' a xs rs:=
 ⟨k _ _ h.e,h.l,λi r e=>by
  obtain⟨t,e1,e2⟩:=h.g i r e
  exact⟨t,e1,k _ _ e2⟩⟩
theorem RowsAt.same{a:Addr}{rs:PK}(h:RowsAt H a xs rs)(s:Same H H'):RowsAt H' a xs rs:=h.keep λ_ _ e=>s _ _ e
theorem vf{S:Addr->Prop}{H:Hp}:∀{r:PP} {xs:List V},IsThs S H xs (r.map .int)->xs=r.map V.int
 |[],_,.nil=>rfl
 |i::r,_,.cons h t=>by
  cases h;rw[vf (r:=r) t];rfl
theorem Ju{r:PP}(h:IsTh S H v (cX r)):∃t,v=V.ref t/\H t=some (.tup (r.map V.int)):=by
 generalize hd:cX r=d at h
 cases h with
 |@tup a xs ds e t=>
  injection hd with hd;subst hd;rw[vf t]at e;exact⟨a,rfl,e⟩
 |_=>cases hd
theorem nA{rs:PK}(h:IsTh S H v (cM rs)):∃a xs,v=.ref a/\RowsAt H a xs rs:=by
 generalize hd:cM rs=d at h
 cases h with
 |@tup a xs ds e t=>
  injection hd with hd;subst hd;refine⟨a,xs,rfl,e,by rw[t.length,zA1],λi r hr=>?_⟩;have hi:i<rs.length:=(zAa.mp hr).1;have hx:xs[i]?=some (xs[i]'(by rw[t.length,zA1];exact hi)):=zA0 _;obtain⟨d,h1,h2⟩:=t.get hx;rw[zAb,hr]at h1;injection h1 with h1;subst h1;obtain⟨t',e1,e2⟩:=Ju h2;exact⟨t',by rw[hx,e1],e2⟩
 |_=>cases hd
theorem RowsAt.th{a:Addr}:∀{rs:PK} {xs:List V},RowsAt H a xs rs->IsTh (λ_=>False) H (.ref a) (cM rs):=by
 intro rs xs h;refine .tup h.e ?_
 have gen:∀(rs:PK) (xs:List V),xs.length=rs.length->(∀(i:Nat) (r:PP),rs[i]?=some r->∃t,xs[i]?=some (V.ref t)/\H t=some (.tup (r.map V.int)))->IsThs (λ_=>False) H xs (rs.map cX):=by
  intro rs
  induction rs with
  |nil=>
   intro xs hl _;have:xs=[]:=List.length_eq_zero_iff.mp hl;subst this;exact .nil
  |cons r rs ih=>
   intro xs hl hg
   cases xs with
   |nil=>simp at hl
   |cons x xs=>
    obtain⟨t,e1,e2⟩:=hg 0 r rfl;have e1:x=.ref t:=by simpa using e1
    subst e1;exact .cons (.tup e2 (IsThs.ints r)) (ih xs (by simpa using hl) λi r' e=>hg (i+1) r' (by simpa using e))
 exact gen rs xs h.l h.g
def jB(L:PP)(i:Int)(v:Int):PP:=L.set i.toNat (L.getD i.toNat 0+v)
def hstep(n y:Int)(L:PP)(s:PP):PP:=if fl s 0=n/\fl s 4<=y then jB (jB L (fl s 1) (-(fl s 3))) (fl s 2) (fl s 3)else L
def base0(p:PP):PP:=(List.replicate 8 0).set (fl p 0).toNat (fl p 4)
def bL(p:PP)(ss:PK)(n y:Int):PP:=if fl p 2<=y/\y<=fl p 3 then ss.foldl (hstep n y) (base0 p)else List.replicate 8 0
def pF(ps:PK)(s:PP):PP:=ps.getD (fl s 0).toNat []
def qu(ps:PK)(s:PP):Bool:=(decide (0<=fl s 0)&&decide (fl s 0<ps.length))&&((decide (0<=fl s 1)&&decide (fl s 1<8))&&((decide (0<=fl s 2)&&decide (fl s 2<8))&&((!decide (fl s 1=fl s 2))&&((decide (1<=fl s 3)&&decide (fl s 3<=99))&&(decide (fl (pF ps s) 2<=fl s 4)&&decide (fl s 4<=fl (pF ps s) 3))))))
def years(a b:Int):PP:=(List.range (b+1-a).toNat).map λ(i:Nat)=>a+i
def dN(ps ss:PK)(s:PP):Bool:=qu ps s&&(years (fl s 4) (fl (pF ps s) 3)).all λy=>decide (fl s 3<=(bL (pF ps s) ss (fl s 0) y).getD (fl s 1).toNat 0)
def un(ps ss:PK):Option Nat:=(List.range ss.length).find? λi=>!dN ps (ss.take i) (ss.getD i [])
theorem iW(L:PP)(i v:Int):(jB L i v).length=L.length:=by unfold jB;rw[List.length_set]
theorem Av(n y:Int)(L s:PP):(hstep n y L s).length=L.length:=by
 unfold hstep;split
 .rw[iW,iW]
 .rfl
theorem eU(p:PP)(ss:PK)(n y:Int):(bL p ss n y).length=8:=by
 unfold bL;split
 .have:∀(ss:PK) (L:PP),L.length=8->(ss.foldl (hstep n y) L).length=8:=by
   intro ss
   induction ss with
   |nil=>exact λL h=>h
   |cons s ss ih=>exact λL h=>ih _ (by rw[Av];exact h)
  exact this ss _ (by unfold base0;rw[List.length_set,List.length_replicate])
 .rw[List.length_replicate]
theorem jf:K3 X (λx y H Q=>Xe4 λp xs i v=>Xa6 (x=.ref p) (y=.int i) (SqL X.K H p xs) (0<=i) (xs[i.toNat]?=some v) (Q v H)):=by
 intro Zt s σ H x y v u Q I rx ry h;obtain⟨p,xs,i,z,rfl,rfl,hq,h0,he,q⟩:=h;cases rx;obtain⟨t,rfl⟩:=ry;obtain⟨Zs,r,pl,hz⟩:=I.list hq;obtain⟨w,ew,fE⟩:=r.get he;have hn:=nR;have hl:=r.length;have hi:=(zAa.mp he).1;exact PySem.wpAny_getItem_list pl.isList h0 Zz (by simpa using ew) ⟨z,H,I,fE,q⟩
theorem dZ{p:PP}(h:p.length=6):p=[fl p 0,fl p 1,fl p 2,fl p 3,fl p 4,fl p 5]:=by
 obtain⟨a,b,c,d,e,f,rfl⟩:=La h;rfl
theorem iY{p:PP}(h:p.length=5):p=[fl p 0,fl p 1,fl p 2,fl p 3,fl p 4]:=by
 obtain⟨a,b,c,d,e,rfl⟩:=KZ h;rfl
theorem uc(L:PP)(i:Nat)(v:Int):(L.map V.int).set i (.int v)=(L.set i v).map V.int:=by rw[List.map_set]
theorem fj{L:PP}{i:Nat}(h:i<L.length):(L.map V.int)[i]?=some (.int (L.getD i 0)):=by
 rw[zAb,zA0 h,zA7,zA0 h];rfl
theorem yG{n:Nat}{i:Int}(h0:0<=i)(h1:i<n):ixN n i=some i.toNat:=by
 unfold ixN;rw[zAx h0,zAx h1]
def okS(s:PP):Prop:=s.length=5/\(0<=fl s 1/\fl s 1<8)/\(0<=fl s 2/\fl s 2<8)
inductive SpHeldI(vs:List V)(H:Hp)(Q:VK):Prop
 |mk:∀ap xp ps ai xs ss n y,(vs=[.ref ap,.ref ai,.int n,.int y])->(RowsAt H ap xp ps)->(RowsAt H ai xs ss)->(0<=n)->(n<ps.length)->(okP (ps.getD n.toNat []))->(ss.length<=12)->((∀s∈ss,okS s))->(∀l H',Same H H'->H' l=some (.lst ((bL (ps.getD n.toNat []) ss n y).map V.int))->Q (.ref l) H')->SpHeldI  vs H Q
def wZ:Sp:=λvs H Q _=>SpHeldI  vs H Q
structure MS(mg:Str->Option Value):Prop where
 sales:∃t,mg "MOST_SALES"=some (.int 12 t)
theorem Lb:FnScope ["thing"] ["thing"] (aJ (top 27)):=fQS
theorem ud(F:Fun K "are_sales" "are_sales" (top 27) f fd)(T:Mg mg)(N:MS mg)(c1:Cal P w K mg base 2 "are_wholes" ["thing","many"] (Gk bI))(c2:Cal P w K mg base 1 "is_tuple_of" ["thing","fewest","most"] (mQ bH)):
  FnOk P w K mg base CX0 3 f fd ["thing"] (spT fK):=by
 refine F.ok Lb (λvs H Q E h=>?_) (λay A outer s H vs Q E hr h=>?_)
 .obtain⟨S,v,d,rfl,_⟩:=h;rfl
 .obtain⟨S,v,d,rfl,th,hz,q⟩:=h;obtain⟨t3,e3⟩:=N.sales
  refine⟨_,aG (aW (cR (aK c2 hr (au (pv 0) (au aB (au (cg (v:=.int 12) rfl e3 ⟨_,rfl⟩) ao))))
   (fH (aM (fZ rfl) rfl T.all boot_all (au (bB ["part"] [none] rfl (gZ (pv 0))
    (λC fp Zt s₂ H₂=>⟨bC (i:=0) (nd1 _) rfl (Or.inl rfl),bx,aK c1 hr (au (pv 0) (au aB ao))⟩) (λC=>trivial) ⟨rfl,rfl,rfl,rfl⟩) ao))))),?_⟩
  refine⟨_,rfl,S,v,d,0,12,rfl,th,hz,λH1 s1=>⟨_,rfl,?_⟩⟩;have fR:=th.same s1;have fin:=λH' (s:Same H H')=>q H' s;unfold fK at fin
  cases e:bH d 0 12 with
  |false=>
   rw[e]at fin;exact bZ (fin _ s1)
  |true=>
   rw[e]at fin;refine cC ?_
   cases fR with
   |@tup a xs ds ea r=>exact dM (λx=>bI x 5) rfl ea r (gh r hz) (λv d H2 Q2 hm s2 t2 q2=>⟨_,rfl,S,v,d,5,rfl,t2,jW hm hz,q2⟩) λH2 s2=>fin _ (s1.trans s2)
   |_=>cases e
theorem sc23s:FnScope ["promises","sales","number","year","holder","sort","first","last","sacks","price","held","promise","seller","buyer","sold","since"] ["promises","sales","number","year"] (aJ (top 28)):=fQS
theorem Gq(F:Fun K "held_in" "held_in" (top 28) f fd)(N:Nums mg):FnOk P w K mg base CX0 1 f fd ["promises","sales","number","year"] wZ:=by
 refine F.ok sc23s (λvs H Q E h=>?_) (λay A outer s H vs Q E hr h=>?_)
 .obtain⟨ap,xp,ps,ai,xs,ss,n,y,rfl,_⟩:=h;rfl
 .obtain⟨ap,xp,ps,ai,xs,ss,n,y,rfl,rp,rs,n0,n1,okp,hl,de,q⟩:=h;obtain⟨t1,e1⟩:=N.holders
  refine⟨_,aC (cH (pX bR (pv 0) (pv 2)) (bG rfl (aq (pgn 4 sc23s.nd) (aq (pgn 5 sc23s.nd) (aq (pgn 6 sc23s.nd)
    (aq (pgn 7 sc23s.nd) (aq (pgn 8 sc23s.nd) (aq (pgn 9 sc23s.nd) bf))))))))
   (aC (pss 10 sc23s.nd (aU Ja (cJ (au aB ao)) (cg (v:=.int 8) rfl e1 ⟨_,rfl⟩)))
   (aC (dh (cW (fY bV bV (pv 6) (pv 3) (pv 7))) (aG (aW (pv 10))) bN)
   (aC (cH (pv 8) (nO (pv 10) (pv 4) set_list))
   (aC (bU zB3 rfl (gZ (pv 1)) (bG rfl (aq (pgn 11 sc23s.nd) (aq (pgn 12 sc23s.nd) (aq (pgn 13 sc23s.nd)
     (aq (pgn 14 sc23s.nd) (aq (pgn 15 sc23s.nd) bf))))))
    (aG (dh (PW.pt (IK (bT jH (pv 11) (pv 2) (bQ _)) (Ft (bT bV (pv 15) (pv 3) (bQ _)))))
     (aC (su (pv 10) (pv 12) jf (pv 14) By set_list) (aG (su (pv 10) (pv 13) jf (pv 14) Bx set_list))) bN)))
   (aG (aW (pv 10))))))),?_⟩
  obtain⟨p,hp⟩:∃p,ps[n.toNat]?=some p:=⟨_,zA0 Zz⟩
  have ep:ps.getD n.toNat []=p:=by rw[zA7,hp];rfl
  rw[ep]at okp q;obtain⟨t,ex,et⟩:=rp.g _ _ hp;have p6:=dZ okp.1;obtain⟨l6,⟨a1,a2⟩,b,⟨c1,c2,c3⟩,⟨d1,d2⟩,ee⟩:=id okp
  have eJ:atI xp n=some (.ref t):=by
   have:=cB ex;rw[show((n.toNat:Nat):Int)=n by lia]at this;exact this
  rw[p6]at et;refine aQ ?_;refine⟨_,rfl,_,rfl,ap,xp,n,.ref t,rfl,rfl,SqT.of rp.e,eJ,?_⟩;refine⟨t,_,rfl,SqT.of et,rfl,_,_,rfl,_,_,rfl,_,_,rfl,_,_,rfl,_,_,rfl,_,_,rfl,rfl,?_⟩;dsimp only;refine aQ (aY ?_);refine⟨zL,λl0 Oa=>⟨l0,8,_,rfl,rfl,aj,by decide,by decide,zL,λl1 dE=>?_⟩⟩;have s1:Same H (upd (upd H l0 (.lst [V.int 0])) l1 (.lst (List.replicate (8:Int).toNat [V.int 0]).flatten)):=(Same.upd Oa).updR dE;have el1:upd (upd H l0 (.lst [V.int 0])) l1 (.lst (List.replicate (8:Int).toNat [V.int 0]).flatten) l1=some (.lst ((List.replicate 8 (0:Int)).map V.int)):=aj;have wt:H l1=none:=(Same.upd Oa).free dE;generalize upd (upd H l0 (.lst [V.int 0])) l1 (.lst (List.replicate (8:Int).toNat [V.int 0]).flatten)=H1 at s1 el1⊢;refine aD ?_;dsimp only;refine aQ ?_;refine cz (p:=λi j=>decide (i<=j)) (q:=λi j=>decide (i<=j)) (i:=fl p 2) (j:=y) (k:=fl p 3) (dX rfl) (dX rfl) (dX rfl) _ ⟨_,rfl,?_⟩;by_cases js:fl p 2<=y/\y<=fl p 3
  .rw[zAt js.1,zAt js.2];refine bZ (dJ ?_);dsimp only;refine aQ ?_;refine⟨_,rfl,_,rfl,_,rfl,l1,_,fl p 0,(fl p 0).toNat,rfl,rfl,el1,yG a1 (by show fl p 0<8;exact a2),?_⟩;rw[uc];dsimp only;refine aQ ?_;have QN:ai≠l1:=aA rs.e wt;refine⟨_,rfl,ai,rfl,⟨xs,SqT.of (by rw[az QN];exact s1 _ _ rs.e)⟩,?_⟩
   have HI:∀{Hc:Hp} {o:HO},Same H Hc->Same H (upd Hc l1 o):=λ{Hc o} sm b u e=>by
    rw[az (aA e wt)];exact sm _ _ e
   refine Fx (xs:=xs) (λi σ Hc=>Xe5 λkC kg fw fx fy=>Xa3 (σ=[some (.ref ap),some (.ref ai),some (.int n),some (.int y),some (.int (fl p 0)),some (.int (fl p 1)),some (.int (fl p 2)),some (.int (fl p 3)),some (.int (fl p 4)),some (.int (fl p 5)),some (.ref l1),kC,kg,fw,fx,fy]) (Same H Hc) (Hc l1=some (.lst (((ss.take i).foldl (hstep n y) (base0 p)).map V.int)))) ?_ ?_ ?_ ?_
   .exact⟨none,none,none,none,none,rfl,HI s1,aj⟩
   .rintro i σ Hc hi ⟨kC,kg,fw,fx,fy,rfl,sm,el⟩;exact SqT.of (sm _ _ rs.e)
   .rintro i x σ Hc hx ⟨kC,kg,fw,fx,fy,rfl,sm,el⟩
    have hi:i<ss.length:=by
     have:=(zAa.mp hx).1;rw[rs.l]at this;exact this
    obtain⟨tr,fz,eW⟩:=rs.g i ss[i] (zA0 hi)
    have:x=.ref tr:=by
     rw[hx]at fz;exact zAl fz
    subst this;obtain⟨o1,⟨o2,o3⟩,o4,o5⟩:=de ss[i] (zAh hi);have s5:=iY o1;have cb:ss.take (i+1)=ss.take i++[ss[i]]:=by rw[zAj,zA0 hi];rfl
    have Cc:(ss.take (i+1)).foldl (hstep n y) (base0 p)=hstep n y ((ss.take i).foldl (hstep n y) (base0 p)) ss[i]:=by rw[cb,List.foldl_append];rfl
    rw[Cc];generalize hL:(ss.take i).foldl (hstep n y) (base0 p)=L at el⊢
    have lL:L.length=8:=by
     have:=eU p (ss.take i) n y;unfold bL at this;rw[zAx js,hL]at this;exact this
    generalize ss[i]=r at eW s5 o2 o3 o4 o5⊢;rw[s5]at eW;refine⟨tr,_,rfl,SqT.of (sm _ _ eW),rfl,_,_,rfl,_,_,rfl,_,_,rfl,_,_,rfl,_,_,rfl,rfl,?_⟩;refine⟨_,rfl,_,rfl,rfl,_,rfl,?_⟩;by_cases hn:fl r 0=n
    .rw[zAt (show V.int (fl r 0)=V.int n by rw[hn])];refine cC ?_;refine⟨_,rfl,_,rfl,_,_,rfl,rfl,_,rfl,?_⟩;by_cases hy:fl r 4<=y
     .rw[zAt hy];refine cC ?_;have e1:hstep n y L r=jB (jB L (fl r 1) (-(fl r 3))) (fl r 2) (fl r 3):=zAx ⟨hn,hy⟩;rw[e1];refine aQ ?_;refine⟨_,rfl,_,rfl,l1,_,fl r 1,_,rfl,rfl,SqL.of el,o2,fj Zz,_,rfl,_,_,rfl,rfl,l1,_,fl r 1,(fl r 1).toNat,rfl,rfl,el,yG o2 (by rw[zA1];lia),?_⟩;rw[uc]
      have e2:L.set (fl r 1).toNat (L.getD (fl r 1).toNat 0-fl r 3)=jB L (fl r 1) (-(fl r 3)):=by
       unfold jB;rw[Int.sub_eq_add_neg]
      rw[e2];generalize QO:jB L (fl r 1) (-(fl r 3))=L1;have WW:L1.length=8:=by rw[<-QO,iW];exact lL
      refine⟨_,rfl,_,rfl,l1,_,fl r 2,_,rfl,rfl,SqL.of aj,o4,fj Zz,_,rfl,_,_,rfl,rfl,l1,_,fl r 2,(fl r 2).toNat,rfl,rfl,aj,yG o4 (by rw[zA1];lia),?_⟩;rw[uc];exact⟨_,_,_,_,_,rfl,HI (HI sm),aj⟩
     .rw[zB2 hy];refine bZ ?_;have e1:hstep n y L r=L:=zAw λz=>hy z.2;rw[e1];exact⟨_,_,_,_,_,rfl,sm,el⟩
    .rw[zB2 (λz:V.int (fl r 0)=V.int n=>hn (by injection z))];refine bZ (bZ ?_);have e1:hstep n y L r=L:=zAw λz=>hn z.1;rw[e1];exact⟨_,_,_,_,_,rfl,sm,el⟩
   .rintro σ Hc ⟨kC,kg,fw,fx,fy,rfl,sm,el⟩;rw[rs.l,zAm]at el;refine⟨_,rfl,q _ _ sm ?_⟩;unfold bL;rw[zAx js];exact el
  .have hb:(decide (fl p 2<=y)&&decide (y<=fl p 3))=false:=by
    cases e:(decide (fl p 2<=y)&&decide (y<=fl p 3))with
    |false=>rfl
    |true=>
     rw[zAc,Zq,Zq]at e;exact absurd e js
   rw[hb];refine cC ⟨_,rfl,q _ _ s1 ?_⟩;unfold bL;rw[zAw js];exact el1
theorem vg{lo:Int}{n:Nat}{cE:St}{j:Nat}{H0:Hp}{Fin:List V->Hp->Prop}(Pv:List V->Hp->Prop)(h0:Pv [] H0)(hz:n<sizeLine)
  (step:∀i ys H Q,i<n->ys.length=i->Pv ys H->(∀y H',Pv (ys++[y]) H'->Q y H')->te (cE.set j (some (.int (lo+i)))) H Q)
  (fin:∀ys H,ys.length=n->Pv ys H->Fin ys H):jm (Itr lo n) (bK j) sO te Fin cE H0:=by
 refine⟨λi m ys σ H=>m=n-i/\i<=n/\ys.length=i/\(∀o,σ.set j o=cE.set j o)/\Pv ys H,⟨_,rfl,zAp _,rfl,λ_=>rfl,h0⟩,?_⟩;rintro i m ys σ H ⟨rfl,hi,hy,kU,p⟩;refine⟨Zz,?_⟩;by_cases aI:i<n
 .refine .inr ⟨aI,λx H' y=>?_⟩;obtain⟨e,e2⟩:=y;subst e;subst e2;show te (σ.set j (some (.int (lo+i)))) H' _;rw[kU]
  exact step i ys H' _ aI hy p λy H2 p2=>⟨n-(i+1),Zz,rfl,aI,by rw[zA2,hy];rfl,λo=>by rw[List.set_set],p2⟩
 .have e:i=n:=Zz
  subst e;exact .inl ⟨zA3 _,fin ys H hy p⟩
theorem Ld{σ:St}{ta tb:TE}{i j:Int}(a:Ev σ H ta (.int i))(b:Ev σ H tb (.int j)):Ev σ H (tOp rNe ta tb) (.bl (!decide (i=j))):=λQ q=>a _ (b _ ⟨rfl,by
 have ed:decide (V.int i=V.int j)=decide (i=j):=decide_eq_decide.mpr ⟨λz=>by injection z,λz=>by rw[z]⟩;rw[ed]
 exact q⟩)
theorem lN(a b:Int):(years a b).length=(b+1-a).toNat:=by unfold years;rw[zA1,Zad]
theorem lO{a b:Int}{i:Nat}(h:i<(b+1-a).toNat):(years a b)[i]?=some (a+i):=by
 unfold years;rw[zAb,Zap h];rfl
theorem rB{α β:Type}{l:List α}{f:α->β}{ys:List β}{x:α}(ey:ys=(l.take ys.length).map f)(hx:l[ys.length]?=some x):ys++[f x]=(l.take (ys++[f x]).length).map f:=by
 rw[zA2,List.length_singleton,zAj,hx,zA4,<-ey];rfl
inductive SpBetwI(vs:List V)(H:Hp)(Q:VK):Prop
 |mk:∀ap xp ps t s,(vs=[.ref ap,.ref t])->(RowsAt H ap xp ps)->((∀r∈ps,okP r))->(H t=some (.tup (s.map V.int)))->(s.length=5)->(Q (.bl (qu ps s)) H)->SpBetwI  vs H Q
def Dk:Sp:=λvs H Q _=>SpBetwI  vs H Q
inductive SpHoldsI(vs:List V)(H:Hp)(Q:VK):Prop
 |mk:∀ap xp ps ai xs ss t s,(vs=[.ref ap,.ref ai,.ref t])->(RowsAt H ap xp ps)->((∀r∈ps,okP r))->(RowsAt H ai xs ss)->(ss.length<=12)->((∀s∈ss,okS s))->(H t=some (.tup (s.map V.int)))->(s.length=5)->(∀H',Same H H'->Q (.bl (dN ps ss s)) H')->SpHoldsI  vs H Q
def yH:Sp:=λvs H Q _=>SpHoldsI  vs H Q
def unV:Option Nat->V
 |none=>.non
 |some i=>.int i
inductive SpFirstI(vs:List V)(H:Hp)(Q:VK):Prop
 |mk:∀S v d S' u e,(vs=[v,u])->(IsTh S H v d)->(IsTh S' H u e)->(fJ d=true)->(fK e=true)->(sz d<=4000)->(sz e<=4000)->(∀H',Same H H'->Q (unV (un (rowsOf d) (rowsOf e))) H')->SpFirstI  vs H Q
def yI:Sp:=λvs H Q _=>SpFirstI  vs H Q
theorem fV{n:Int}(h:∀r∈ps,okP r)(h0:0<=n)(h1:n<ps.length):∃p,ps[n.toNat]?=some p/\ps.getD n.toNat []=p/\okP p:=by
 have hn:n.toNat<ps.length:=Zz
 refine⟨ps[n.toNat],zA0 hn,?_,h _ (zAh hn)⟩;rw[zA7,zA0 hn];rfl
theorem gG{a:Addr}{rs:PK}{n:Int}{r:PP}(h:RowsAt H a xs rs)(h0:0<=n)(e:rs[n.toNat]?=some r):∃t,atI xs n=some (.ref t)/\H t=some (.tup (r.map V.int)):=by
 obtain⟨t,e1,e2⟩:=h.g _ _ e;refine⟨t,?_,e2⟩;have:=cB e1;rw[show((n.toNat:Nat):Int)=n by lia]at this;exact this
theorem sc24s:FnScope ["promises","sale","number","seller","buyer","sacks","year","holder","sort","first","last","due","price"] ["promises","sale"] (aJ (top 29)):=fQS
theorem Gr(F:Fun K "is_sale_between" "is_sale_between" (top 29) f fd)(T:Mg mg)(N:Nums mg):FnOk P w K mg base CX0 1 f fd ["promises","sale"] Dk:=by
 refine F.ok sc24s (λvs H Q E h=>?_) (λay A outer s H vs Q E hr h=>?_)
 .obtain⟨ap,xp,ps,t,r,rfl,_⟩:=h;rfl
 .obtain⟨ap,xp,ps,t,r,rfl,rp,okp,et,h5,q⟩:=h;obtain⟨t1,e1⟩:=N.holders;obtain⟨t4,e4⟩:=N.sacks
  refine⟨_,aC (cH (pv 1) (bG rfl (aq (pgn 2 sc24s.nd) (aq (pgn 3 sc24s.nd) (aq (pgn 4 sc24s.nd) (aq (pgn 5 sc24s.nd) (aq (pgn 6 sc24s.nd) bf)))))))
   (aC (dh (cW (fY bV nQ aB (pv 2) (aM bY rfl T.len PySem.boot_len (au (pv 0) ao)))) (aG (aW lV)) bN)
   (aC (cH (pX bR (pv 0) (pv 2)) (bG rfl (aq (pgn 7 sc24s.nd) (aq (pgn 8 sc24s.nd) (aq (pgn 9 sc24s.nd)
    (aq (pgn 10 sc24s.nd) (aq (pgn 11 sc24s.nd) (aq (pgn 12 sc24s.nd) bf))))))))
   (aG (aW (cR (dB bV nQ aB (pv 3) (cg (v:=.int 8) rfl e1 ⟨_,rfl⟩)) (cR (dB bV nQ aB (pv 4) (cg (v:=.int 8) rfl e1 ⟨_,rfl⟩)) (cR (j9 K9 (pv 3) (pv 4) (bQ _))
    (cR (dB bV bV aB (pv 5) (cg (v:=.int 99) rfl e4 ⟨_,rfl⟩)) (fH (dB bV bV (pv 9) (pv 6) (pv 10))))))))))),?_⟩
  rw[iY h5]at et;refine aP λc_ af=>?_;refine⟨_,rfl,t,_,rfl,SqT.of et,rfl,_,_,rfl,_,_,rfl,_,_,rfl,_,_,rfl,_,_,rfl,rfl,?_⟩;refine af _ _ ?_;clear af c_
  try dsimp only
  refine aQ ?_;refine cz (p:=λi j=>decide (i<=j)) (q:=λi j=>decide (i<j)) (i:=0) (j:=fl r 0) (k:=(xp.length:Int)) fU (dX rfl) (λQ h=>⟨_,rfl,ap,xp,rfl,.inr (SqT.of rp.e),h⟩) _ ⟨_,rfl,?_⟩;have fin:=q;unfold qu at fin;rw[rp.l]
  cases e:(decide (0<=fl r 0)&&decide (fl r 0<ps.length))with
  |false=>
   rw[e]at fin;exact cC fin
  |true=>
   rw[e]at fin;rw[zAc,Zq,Zq]at e;obtain⟨p,hp,ep,op⟩:=fV okp e.1 e.2;obtain⟨tp,eJ,fe⟩:=gG rp e.1 hp;rw[dZ op.1]at fe;refine bZ (dJ ?_);dsimp only;refine aQ ?_;refine⟨_,rfl,_,rfl,ap,xp,_,.ref tp,rfl,rfl,SqT.of rp.e,eJ,?_⟩;refine⟨tp,_,rfl,SqT.of fe,rfl,_,_,rfl,_,_,rfl,_,_,rfl,_,_,rfl,_,_,rfl,_,_,rfl,rfl,?_⟩;have wx:pF ps r=p:=ep;rw[wx]at fin;exact iM (cz fU (dX rfl) fU) (λ_=>iM (cz fU (dX rfl) fU) λ_=>iM (Ld (dX rfl) (dX rfl)) λ_=>iM (cz fU (dX rfl) fU) λ_=>cz (dX rfl) (dX rfl) (dX rfl)) _ fin
theorem sc25s:FnScope ["promises","ahead","sale","number","seller","buyer","sacks","year","last"] ["promises","ahead","sale"] (aJ (top 30)):=fQS
theorem MP:(["at","promises","ahead","number","seller","sacks"]:List Str).Nodup:=by decide +kernel
theorem Dl(F:Fun K "sale_holds" "sale_holds" (top 30) f fd)(T:Mg mg)(Tr:mg "range"=none)(c1:Cal P w K mg base 1 "is_sale_between" ["promises","sale"] Dk)(c2:Cal P w K mg base 1 "held_in" ["promises","sales","number","year"] wZ):
  FnOk P w K mg base CX0 2 f fd ["promises","ahead","sale"] yH:=by
 refine F.ok sc25s (λvs H Q E h=>?_) (λay A outer s H vs Q E hr h=>?_)
 .obtain⟨ap,xp,ps,ai,xs,ss,t,r,rfl,_⟩:=h;rfl
 .obtain⟨ap,xp,ps,ai,xs,ss,t,r,rfl,rp,okp,rs,hl,de,et,h5,q⟩:=h
  refine⟨_,aC (dh (cW (fG (aK c1 hr (au (pv 0) (au (pv 2) ao))))) (aG (aW lV)) bN)
   (aC (cH (pv 2) (bG rfl (aq (bC (i:=3) sc25s.nd rfl (Or.inr rfl)) (aq (bC (i:=4) sc25s.nd rfl (Or.inr rfl)) (aq (pgn 5 sc25s.nd) (aq (bC (i:=6) sc25s.nd rfl (Or.inr rfl)) (aq (pgn 7 sc25s.nd) bf)))))))
   (aC (pss 8 sc25s.nd (pX bR (pX bR (pv 0) (pv 3)) aB))
   (aG (aW (aM (fZ rfl) rfl T.all boot_all (au (bB ["at","promises","ahead","number","seller","sacks"] [none,some 0,some 1,some 3,some 4,some 6] rfl (j8 rfl Tr (au (pv 7) (au (aU bw (pv 8) aB) ao)))
    (λC fp Zt s₂ H₂=>⟨pgn 0 MP,bx,j9 BL (pX (gj (K:=K) rfl) (aK c2 hr (au (pv 1) (au (pv 2) (au (pv 3) (au (pv 0) ao))))) (pv 4)) (pv 5) (bQ _)⟩)
    (λC=>cI (cI (cI (cI (cI trivial))))) ⟨rfl,rfl,rfl,rfl⟩) ao)))))),?_⟩
  have fin:=q;unfold dN at fin;refine aQ ?_;refine⟨_,rfl,_,rfl,ap,xp,ps,t,r,rfl,rp,okp,et,h5,_,rfl,?_⟩
  cases e:qu ps r with
  |false=>
   rw[e]at fin;exact cC (fin _ (Same.refl _))
  |true=>
   rw[e]at fin;refine bZ (dJ ?_);dsimp only;refine aP λc_ af=>?_;unfold qu at e;simp only[Bool.and_eq_true,Zq]at e;obtain⟨⟨n0,n1⟩,⟨b0,b1⟩,_,_,⟨k0,k1⟩,y0,y1⟩:=e;obtain⟨p,hp,ep,op⟩:=fV okp n0 n1;have wx:pF ps r=p:=ep;rw[wx]at fin y0 y1;obtain⟨tp,eJ,fe⟩:=gG rp n0 hp;rw[iY h5]at et;rw[dZ op.1]at fe;obtain⟨_,_,_,⟨g1,g2,g3⟩,_⟩:=id op;refine⟨_,rfl,t,_,rfl,SqT.of et,rfl,_,_,rfl,_,_,rfl,_,_,rfl,_,_,rfl,_,_,rfl,rfl,?_⟩;refine af _ _ ?_;clear af c_
   try dsimp only
   refine aP λc_ af=>?_;refine aY ?_;refine⟨_,rfl,_,rfl,ap,xp,_,.ref tp,rfl,rfl,SqT.of rp.e,eJ,tp,_,3,.int (fl p 3),rfl,rfl,SqT.of fe,rfl,?_⟩;refine aD ?_;refine af _ _ ?_;clear af c_
   try dsimp only
   refine⟨_,rfl,_,rfl,_,_,rfl,rfl,fl r 4,fl p 3+1,rfl,⟨Zz,Zz,Zz,Zz⟩,?_⟩;refine vg (λys Hc=>Same H Hc/\ys=((years (fl r 4) (fl p 3)).take ys.length).map λy=>V.bl (decide (fl r 3<=(bL p ss (fl r 0) y).getD (fl r 1).toNat 0))) ⟨Same.refl _,rfl⟩ Zu ?_ ?_
   .rintro i ys Hc Qc hi hy ⟨sc,ey⟩ qc;refine⟨_,rfl,_,rfl,_,rfl,_,rfl,ap,xp,ps,ai,xs,ss,fl r 0,fl r 4+i,rfl,rp.same sc,rs.same sc,n0,n1,by rw[ep];exact op,hl,de,λl H' s' el=>?_⟩;rw[ep]at el;refine⟨_,rfl,l,_,fl r 1,.int ((bL p ss (fl r 0) (fl r 4+i)).getD (fl r 1).toNat 0),rfl,rfl,SqL.of el,?_,_,rfl,_,_,rfl,rfl,qc _ _ ⟨sc.trans s',?_⟩⟩
    .unfold atI;rw[yG b0 (by rw[zA1,eU];lia)];exact fj (by rw[eU];lia)
    .have hx:(years (fl r 4) (fl p 3))[ys.length]?=some (fl r 4+(i:Int)):=by
      rw[hy];exact lO hi
     exact rB ey hx
   .rintro ys Hc hy ⟨sc,ey⟩ D hD;rw[Zai (by rw[lN,hy];exact zA3 _)]at ey;refine⟨D,(years (fl r 4) (fl p 3)).map λy=>decide (fl r 3<=(bL p ss (fl r 0) y).getD (fl r 1).toNat 0),rfl,SqL.of (by rw[zAr];rw[ey];exact aj),?_⟩;rw[List.all_map];exact fin _ (sc.updR hD)
theorem jZ{i:Nat}(h:i<=xs.length):iH xs none (some (i:Int))=xs.take i:=by
 unfold iH;rw[HT.sIx_none,HT.sIx_nat,List.drop_zero,Nat.min_eq_left h,Nat.sub_zero]
theorem RowsAt.cut{a p:Addr}{rs:PK}(h:RowsAt H a xs rs)(i:Nat)(hp:H p=none):RowsAt (upd H p (.tup (xs.take i))) p (xs.take i) (rs.take i):=by
 refine⟨aj,by rw[zAd,zAd,h.l],λj r e=>?_⟩
 have hj:j<i:=by
  rw[List.getElem?_take]at e;split at e
  .assumption
  .cases e
 rw[List.getElem?_take_of_lt hj]at e;obtain⟨t,e1,e2⟩:=h.g j r e;exact⟨t,by rw[List.getElem?_take_of_lt hj];exact e1,Same.upd hp _ _ e2⟩
theorem ue{i:Nat}(h:∀j,j<i->dN ps (ss.take j) (ss.getD j [])=true)(hi:i<ss.length)(hn:dN ps (ss.take i) (ss.getD i [])=false):un ps ss=some i:=by
 unfold un;rw[List.find?_range_eq_some];exact⟨by rw[hn];rfl,Za5.mpr hi,λj hj=>by rw[h j hj];rfl⟩
theorem yJ(h:∀j,j<ss.length->dN ps (ss.take j) (ss.getD j [])=true):un ps ss=none:=by
 unfold un;rw[List.find?_range_eq_none]
 exact λj hj=>by rw[h j hj];rfl
theorem kh{s:PP}(h5:s.length=5)(h:dN ps ss s=true):okS s:=by
 unfold dN qu at h;simp only[Bool.and_eq_true,Zq]at h;exact⟨h5,h.1.2.1,h.1.2.2.1⟩
theorem getD_get{i:Nat}(h:i<ss.length):ss.getD i []=ss[i]:=by
 rw[zA7,zA0 h];rfl
def part(d:PyData)(i:Nat):PyData:=(items d).getD i .none
def mG(d:PyData):Bool:=bH d 3 3&&(iV (part d 0)&&(fJ (part d 1)&&(fK (part d 2)&&(un (rowsOf (part d 1)) (rowsOf (part d 2))).isNone)))
theorem sc26s:FnScope ["promises","sales","at","sale"] ["promises","sales"] (aJ (top 31)):=fQS
theorem Dm(F:Fun K "first_unheld" "first_unheld" (top 31) f fd)(Te:mg "enumerate"=none)(c1:Cal P w K mg base 4 "are_promises" ["thing"] (spT fJ))(c2:Cal P w K mg base 3 "are_sales" ["thing"] (spT fK))(c3:Cal P w K mg base 2 "sale_holds" ["promises","ahead","sale"] yH):
  FnOk P w K mg base CX0 5 f fd ["promises","sales"] yI:=by
 refine F.ok sc26s (λvs H Q E h=>?_) (λay A outer s H vs Q E hr h=>?_)
 .obtain⟨S,v,d,S',u,e,rfl,_⟩:=h;rfl
 .obtain⟨S,v,d,S',u,e,rfl,EA,ths,hp,hs,zp,zs,q⟩:=h
  refine⟨_,aC (dh (cW (fG (aK c1 hr (au (pv 0) ao)))) qC bN)
   (aC (dh (cW (fG (aK c2 hr (au (pv 1) ao)))) qC bN)
   (aC (bU zB3 rfl (ZT.pi_enum true rfl Te (au (pv 1) ao)) (bG rfl (aq (pgn 2 sc26s.nd) (aq (pgn 3 sc26s.nd) bf)))
    (aG (dh (cW (fG (aK c3 hr (au (pv 0) (au (gQ yh (pv 1) jb (jc (pv 2))) (au (pv 3) ao)))))) (aG (aW (pv 2))) bN)))
   (aG (aW lq)))),?_⟩
  refine aP λc_ af=>?_;refine⟨_,rfl,S,v,d,rfl,EA,zp,λH1 s1=>⟨_,rfl,?_⟩⟩;rw[hp];refine bZ (dJ ?_);refine af _ _ ?_;clear af c_
  try dsimp only
  refine aP λc_ af=>?_;refine⟨_,rfl,S',u,e,rfl,ths.same s1,zs,λH2 s2=>⟨_,rfl,?_⟩⟩;rw[hs];refine bZ (dJ ?_);refine af _ _ ?_;clear af c_
  try dsimp only
  have EB:=s1.trans s2;obtain⟨ep,lp,okp⟩:=wX hp;obtain⟨es,ls,de⟩:=wY hs;have fR:=EA.same EB;have HK:=ths.same EB;rw[ep]at fR;rw[es]at HK;generalize rowsOf d=ps at q lp okp fR;generalize rowsOf e=ss at q ls de HK;obtain⟨ap,xp,rfl,rp⟩:=nA fR;obtain⟨ai,xs,rfl,rs⟩:=nA HK;refine aQ ?_;refine⟨_,rfl,ai,xs,rfl,SqT.of rs.e,?_⟩;refine ZT.for_enum true (xs:=xs) (λi σ Hc=>∃x2 x3,σ=[some (.ref ap),some (.ref ai),x2,x3]/\Same H2 Hc/\∀j,j<i->dN ps (ss.take j) (ss.getD j [])=true) ?_ ?_ ?_ ?_
  .exact⟨none,none,rfl,Same.refl _,λj hj=>absurd hj (Nat.not_lt_zero _)⟩
  .rintro i σ Hc hi ⟨x2,x3,rfl,sm,hh⟩;exact SqT.of (sm _ _ rs.e)
  .rintro i x σ Hc T0 hx ⟨x2,x3,rfl,sm,hh⟩ nT
   have hi:i<ss.length:=by
    have:=(zAa.mp hx).1;rw[rs.l]at this;exact this
   have QP:i<xs.length:=by rw[rs.l];exact hi
   obtain⟨tr,fz,eW⟩:=rs.g i ss[i] (zA0 hi)
   have:x=.ref tr:=by
    rw[hx]at fz;exact zAl fz
   subst this;have h5:=de ss[i] (zAh hi);have sT:=sm.updR (o:=.tup [V.int i,V.ref tr]) nT;refine⟨T0,_,rfl,SqT.of aj,rfl,_,_,rfl,_,_,rfl,rfl,?_⟩;refine⟨_,rfl,_,rfl,_,rfl,i,rfl,ai,xs,rfl,SqT.of (sT _ _ rs.e),λhw=>?_,λ_ p Ob=>?_⟩
   .have:=hw.2;rw[HT.sIx_nat]at this;exact absurd this Zz
   rw[jZ (Nat.le_of_lt QP)];have sp:=sT.updR (o:=.tup (xs.take i)) Ob;refine⟨_,rfl,ap,xp,ps,p,xs.take i,ss.take i,tr,ss[i],rfl,rp.same sp,okp,(rs.same sT).cut i Ob,?_,?_,sp _ _ eW,h5,λH' s'=>⟨_,rfl,?_⟩⟩
   .rw[zAd];lia
   .intro s cw;obtain⟨j,hj,e'⟩:=List.getElem_of_mem cw;rw[zAd]at hj;have QQ:j<i:=Zz
    have Oc:j<ss.length:=Zz
    have e2:ss[j]=s:=by rw[<-e',List.getElem_take]
    rw[<-e2];have:=hh j QQ;rw[getD_get Oc]at this;exact kh (de _ (zAh Oc)) this
   .cases eh:dN ps (ss.take i) ss[i]with
    |false=>
     refine cC ⟨_,rfl,?_⟩;have:=q H' (EB.trans (sp.trans s'));rw[ue hh hi (by rw[getD_get hi];exact eh)]at this;exact this
    |true=>
     refine bZ ⟨_,_,rfl,sp.trans s',λj hj=>?_⟩;rcases Nat.lt_succ_iff_lt_or_eq.mp hj with z|z
     .exact hh j z
     .rw[z,getD_get hi];exact eh
  .rintro σ Hc ⟨x2,x3,rfl,sm,hh⟩;have:=q Hc (EB.trans sm);rw[yJ λj hj=>hh j (by rw[rs.l];exact hj)]at this;exact this
theorem sc27s:FnScope ["thing","clips","promises","sales"] ["thing"] (aJ (top 32)):=fQS
theorem Gs(F:Fun K "is_book" "is_book" (top 32) f fd)(c0:Cal P w K mg base 1 "is_tuple_of" ["thing","fewest","most"] (mQ bH))(c1:Cal P w K mg base 4 "are_clips" ["thing"] (spT iV))(c2:Cal P w K mg base 4 "are_promises" ["thing"] (spT fJ))(c3:Cal P w K mg base 3 "are_sales" ["thing"] (spT fK))(c4:Cal P w K mg base 5 "first_unheld" ["promises","sales"] yI):
  FnOk P w K mg base CX0 6 f fd ["thing"] (spT mG):=by
 refine F.ok sc27s (λvs H Q E h=>?_) (λay A outer s H vs Q E hr h=>?_)
 .obtain⟨S,v,d,rfl,_⟩:=h;rfl
 .obtain⟨S,v,d,rfl,th,hz,q⟩:=h
  refine⟨_,aC (dh (cW (fG (aK c0 hr (au (pv 0) (au aB (au aB ao)))))) (aG (aW lV)) bN)
   (aC (cH (pv 0) (bG rfl (aq (pgn 1 sc27s.nd) (aq (pgn 2 sc27s.nd) (aq (pgn 3 sc27s.nd) bf)))))
   (aG (aW (cR (aK c1 hr (au (pv 1) ao)) (cR (aK c2 hr (au (pv 2) ao)) (cR (aK c3 hr (au (pv 3) ao)) (fH (j9 wy (aK c4 hr (au (pv 2) (au (pv 3) ao))) lq (bQ _))))))))),?_⟩
  have fin:=q;unfold mG at fin;refine aQ ?_;refine⟨_,rfl,S,v,d,3,3,rfl,th,hz,λH1 s1=>⟨_,rfl,?_⟩⟩
  cases e:bH d 3 3 with
  |false=>
   rw[e]at fin;exact cC (fin _ s1)
  |true=>
   rw[e]at fin;refine bZ (dJ ?_);dsimp only;obtain⟨ds,rfl,l1,l2⟩:=lM e;have fR:=th.same s1
   cases fR with
   |@tup a xs _ ea r=>
    obtain⟨v0,v1,v2,d0,d1,d2,rfl,rfl,h0,h1,h2⟩:=Aq r (show ds.length=3 by lia);have z0:=jW (d:=d0) Zy hz;have z1:=jW (d:=d1) Zy hz;have z2:=jW (d:=d2) Zy hz;refine aP λc_ af=>?_;refine⟨_,rfl,a,_,rfl,SqT.of ea,rfl,_,_,rfl,_,_,rfl,_,_,rfl,rfl,?_⟩;refine af _ _ ?_;clear af c_
    try dsimp only
    have fin:∀H',Same H H'->Q (.bl (true&&(iV d0&&(fJ d1&&(fK d2&&(un (rowsOf d1) (rowsOf d2)).isNone))))) H':=fin;refine⟨_,rfl,S,_,d0,rfl,h0,z0,λH2 s2=>⟨_,rfl,?_⟩⟩
    cases e0:iV d0 with
    |false=>
     rw[e0]at fin;exact bZ (fin _ (s1.trans s2))
    |true=>
     rw[e0]at fin;refine cC ?_;refine⟨_,rfl,S,_,d1,rfl,h1.same s2,z1,λH3 s3=>⟨_,rfl,?_⟩⟩
     cases e1:fJ d1 with
     |false=>
      rw[e1]at fin;exact bZ (fin _ ((s1.trans s2).trans s3))
     |true=>
      rw[e1]at fin;refine cC ?_;refine⟨_,rfl,S,_,d2,rfl,h2.same (s2.trans s3),z2,λH4 s4=>⟨_,rfl,?_⟩⟩
      cases e2:fK d2 with
      |false=>
       rw[e2]at fin;exact bZ (fin _ (((s1.trans s2).trans s3).trans s4))
      |true=>
       rw[e2]at fin;refine cC ?_;have HL:=(s2.trans s3).trans s4;refine⟨_,rfl,_,rfl,S,_,d1,S,_,d2,rfl,h1.same HL,h2.same HL,e1,e2,z1,z2,λH5 s5=>⟨rfl,?_⟩⟩;have:=fin H5 (s1.trans (HL.trans s5))
       cases eu:un (rowsOf d1) (rowsOf d2)with
       |none=>
        rw[eu]at this;exact this
       |some i=>
        rw[eu]at this;exact this
def Els(H:Hp)(xs:List V)(rs:PK):Prop:=xs.length=rs.length/\∀(i:Nat) (r:PP),rs[i]?=some r->∃t,xs[i]?=some (V.ref t)/\H t=some (.tup (r.map V.int))
theorem Els.keep{rs:PK}(h:Els H xs rs)(k:∀b l,H b=some (.tup l)->H' b=some (.tup l)):Els H' xs rs:=
 ⟨h.1,λi r e=>by
  obtain⟨t,e1,e2⟩:=h.2 i r e
  exact⟨t,e1,k _ _ e2⟩⟩
theorem Els.same{rs:PK}(h:Els H xs rs)(s:Same H H'):Els H' xs rs:=h.keep λ_ _ e=>s _ _ e
theorem Els.nil:Els H [] []:=⟨rfl,λi r e=>by simp at e⟩
theorem Els.app{ys:List V}{rs qs:PK}(h:Els H xs rs)(g:Els H ys qs):Els H (xs++ys) (rs++qs):=by
 refine⟨by rw[zA2,zA2,h.1,g.1],λi r e=>?_⟩;by_cases hi:i<rs.length
 .rw[zB8 hi]at e;obtain⟨t,e1,e2⟩:=h.2 i r e;exact⟨t,by rw[zB8 (by rw[h.1];exact hi)];exact e1,e2⟩
 .rw[zB7 Zz]at e;obtain⟨t,e1,e2⟩:=g.2 _ r e;exact⟨t,by rw[zB7 (by rw[h.1];lia),h.1];exact e1,e2⟩
theorem Els.one{t:Addr}{r:PP}(e:H t=some (.tup (r.map V.int))):Els H [.ref t] [r]:=⟨rfl,λi q e'=>by
 cases i with
 |zero=>
  rw[List.getElem?_cons_zero]at e';cases e';exact⟨t,rfl,e⟩
 |succ i=>simp at e'⟩
theorem cY{r:PP}(h:r.length=4):r=[fl r 0,fl r 1,fl r 2,fl r 3]:=by
 match r,h with
 |[a,b,c,d],_=>rfl
theorem vm{t:TS}{D:Ends}{N:L2.St->Hp->Prop}{σ:L2.St}(h:∀D':Ends,(∀σ H,N σ H->D'.nx σ H)->t D' σ H):t {D with nx:=N,ct:=N,bk:=D.nx} σ H:=h _ λ_ _ z=>z
theorem bM{J:It}{g:TG}{cE:St}{H0:Hp}{Fin:List V->Hp->Prop}(n:Nat)(Pv:Nat->List V->St->Hp->Prop)(h0:Pv 0 [] cE H0)(hz:n<sizeLine)
  (step:∀i ys σ H,i<n->ys.length=i->Pv i ys σ H->J.go i H/\∀x H',J.yld i H x H'->∀R:V->St->Hp->Prop,(∀y aS H4,Pv (i+1) (ys++[y]) aS H4->R y aS H4)->g x σ H' λaS H2=>te aS H2 λy H4=>R y aS H4)
  (fin:∀ys σ H,ys.length=n->Pv n ys σ H->J.stop n H/\Fin ys H):jm J g sO te Fin cE H0:=by
 refine⟨λi m ys σ H=>m=n-i/\i<=n/\ys.length=i/\Pv i ys σ H,⟨_,rfl,zAp _,rfl,h0⟩,?_⟩;rintro i m ys σ H ⟨rfl,hi,hy,p⟩;refine⟨Zz,?_⟩;by_cases aI:i<n
 .obtain⟨go,st⟩:=step i ys σ H aI hy p;exact .inr ⟨go,λx H' y=>st x H' y _ λy aS H4 p2=>⟨n-(i+1),Zz,rfl,aI,by rw[zA2,hy];rfl,p2⟩⟩
 .have e:i=n:=Zz
  subst e;exact .inl (fin ys σ H hy p)
def wts(rs:PK):PP:=rs.map λr=>fl r 3
def aN(rs:PK):Int:=(wts rs).sum
inductive SpSacksI(vs:List V)(H:Hp)(Q:VK):Prop
 |mk:∀l xs rs,(vs=[.ref l])->(H l=some (.lst xs))->(Els H xs rs)->((∀r∈rs,r.length=4))->(rs.length<=100000)->(∀H',Same H H'->Q (.int (aN rs)) H')->SpSacksI  vs H Q
def nC:Sp:=λvs H Q _=>SpSacksI  vs H Q
theorem boot_sum:bootBuiltins "sum"=some (.builtin "sum"):=by decide +kernel
theorem nd4:(["due","number","holder","sacks"]:List Str).Nodup:=by decide +kernel
theorem MT:FnScope ["rows"] ["rows"] (aJ (top 43)):=fQS
theorem Dn(F:Fun K "sacks_of" "sacks_of" (top 43) f fd)(Ts:mg "sum"=none):FnOk P w K mg base CX0 1 f fd ["rows"] nC:=by
 refine F.ok MT (λvs H Q E h=>?_) (λay A outer s H vs Q E hr h=>?_)
 .obtain⟨l,xs,rs,rfl,_⟩:=h;rfl
 .obtain⟨l,xs,rs,rfl,el,eR,h4,hz,q⟩:=h
  refine⟨_,aG (aW (aM (cu rfl) rfl Ts boot_sum (au (bB (g:=lu K 4 (cG (bK 0) (cG (bK 1) (cG (bK 2) (cG (bK 3) mK))))) ["due","number","holder","sacks"] [none,none,none,none] rfl (di (pv 0))
   (λC fp Zt s₂ H₂=>⟨dY rfl rfl (aq (pgn 0 nd4) (aq (pgn 1 nd4) (aq (pgn 2 nd4) (aq (pgn 3 nd4) bf)))),bx,pv 3⟩) (λC=>trivial) ⟨rfl,rfl,rfl,rfl⟩) ao))),?_⟩
  refine⟨_,rfl,l,rfl,⟨_,SqL.of el⟩,bM rs.length (λi ys σ Hc=>Same H Hc/\(∃o1 o2 o3 o4,σ=[o1,o2,o3,o4])/\ys=(wts (rs.take i)).map V.int) ⟨Same.refl H,⟨_,_,_,_,rfl⟩,rfl⟩ Zu ?_ ?_⟩
  .rintro i ys σ Hc hi hy ⟨s1,⟨o1,o2,o3,o4,rfl⟩,rfl⟩;obtain⟨t,ex,et⟩:=eR.2 i rs[i] (zA0 hi);rw[cY (h4 _ (zAh hi))]at et;refine⟨⟨_,_,SqL.of (s1 _ _ el),ex⟩,λv H' y R hR=>?_⟩;obtain⟨rfl,y⟩:=y;have hv:=y _ (SqL.of (s1 _ _ el));rw[ex]at hv;cases hv;refine⟨t,_,rfl,SqT.of (s1 _ _ et),rfl,_,_,rfl,_,_,rfl,_,_,rfl,_,_,rfl,rfl,_,rfl,hR _ _ _ ⟨s1,⟨_,_,_,_,rfl⟩,?_⟩⟩;unfold wts;rw[zAj,zA0 hi,zA4,zA4];rfl
  .rintro ys σ Hc hy ⟨s1,_,rfl⟩;refine⟨⟨_,SqL.of (s1 _ _ el),by rw[eR.1];exact zA3 _⟩,λD hD=>?_⟩;rw[zAm];exact⟨D,wts rs,rfl,.inl (SqL.of aj),q _ (s1.updR hD)⟩
end K41
open K41 (top dF items intOf bH nd1 Dd u5 u6 jW gh spT mQ Mg boot_tuple boot_all dM Cal aK qt boot_sum bM sc1 jf jZ)
namespace K41P
open PySem L2
variable{ws:PP}{pl:List Nat}
structure Nums(mg:Str->Option Value):Prop where
 many:∃t,mg "MOST_WEIGHTS"=some (.int 80 t)
 most:∃t,mg "MOST_WEIGHT"=some (.int 99 t)
def iZ(d:PyData):Bool:=bH d 1 80&&(items d).all λx=>qt x 1 99
theorem boot_sorted:bootBuiltins "sorted"=some (.builtin "sorted"):=by decide +kernel
theorem nd2(x y:Str)(h:x≠y):([x,y]:List Str).Nodup:=by simp[h]
section
variable{P:Program}{w:World}{K:Frag}{mg:Str->Option Value}{base:Heap}{f:Addr}{fd:FuncData}
theorem sc19:FnScope ["thing"] ["thing"] (aJ (top 37)):=fQS
theorem ok_are_weights(F:Fun K "are_weights" "are_weights" (top 37) f fd)(T:Mg mg)(N:Nums mg)(c1:Cal P w K mg base 2 "is_whole_from" ["thing","least","most"] (mQ qt))(c2:Cal P w K mg base 1 "is_tuple_of" ["thing","fewest","most"] (mQ bH)):
  FnOk P w K mg base CX0 4 f fd ["thing"] (spT iZ):=by
 refine F.ok sc19 (λvs H Q E h=>?_) (λay A outer s H vs Q E hr h=>?_)
 .obtain⟨S,v,d,rfl,_⟩:=h;rfl
 .obtain⟨S,v,d,rfl,th,hz,q⟩:=h;obtain⟨t3,e3⟩:=N.many;obtain⟨t4,e4⟩:=N.most
  refine⟨_,aG (aW (cR (aK c2 hr (aX (pv 0) (aX aB (aX (cg (v:=.int 80) rfl e3 ⟨_,rfl⟩) ao))))
   (fH (aM (fZ rfl) rfl T.all boot_all (aX (bB ["part"] [none] rfl (gZ (pv 0))
    (λC fp Zt s₂ H₂=>⟨bC (i:=0) (nd1 _) rfl (Or.inl rfl),bx,aK c1 hr (aX (pv 0) (aX aB (aX (cg (v:=.int 99) rfl e4 ⟨_,rfl⟩) ao)))⟩) (λC=>trivial) ⟨rfl,rfl,rfl,rfl⟩) ao))))),?_⟩
  refine⟨_,rfl,S,v,d,1,80,rfl,th,hz,λH1 s1=>⟨_,rfl,?_⟩⟩;have fR:=th.same s1;have fin:=λH' (s:Same H H')=>q H' s;unfold iZ at fin
  cases e:bH d 1 80 with
  |false=>
   rw[e]at fin;exact bZ (fin _ s1)
  |true=>
   rw[e]at fin;refine cC ?_
   cases fR with
   |@tup a xs ds ea r=>exact dM (λx=>qt x 1 99) rfl ea r (gh r hz) (λv d H2 Q2 hm s2 t2 q2=>⟨_,rfl,S,v,d,1,99,rfl,t2,jW hm hz,q2⟩) λH2 s2=>fin _ (s1.trans s2)
   |_=>cases e
end
section
variable{X:Cx}{K:Frag}{tg l:Expr}{tl:TE}
theorem pi_listK(hK:X.K=K)(hl:PE X l tl):PI X tg l (Hw K tl):=by
 subst hK;exact di hl
theorem ix_tupK(hK:X.K=K):IxR X (Ke K):=by
 subst hK;exact bR
end
section
variable{P:Program}{w:World}{K:Frag}{mg:Str->Option Value}{base:Heap}{f:Addr}{fd:FuncData}
end
theorem ok_b{X:Cx}{body:List Stmt}{t:TS}{R:TS->Prop}(h:BSs X body t)(q:R t):∃t,PSs X body t/\R t:=⟨t,h.run,q⟩
def rr(rs:PP)(i:Nat):Int:=rs.getD i 0
def bef(rs:PP)(i j:Nat):Bool:=decide (rr rs j<rr rs i)||(decide (rr rs i=rr rs j)&&decide (i<=j))
theorem km{rs:PP}{i j:Nat}:bef rs i j=true↔rr rs j<rr rs i\/(rr rs i=rr rs j/\i<=j):=by
 unfold bef;rw[Bool.or_eq_true,zAc,decide_eq_true_iff,decide_eq_true_iff,decide_eq_true_iff]
structure Ord(rs:PP)(pl:List Nat):Prop where
 pm:pl.Perm (List.range rs.length)
 so:pl.Pairwise λi j=>bef rs i j=true
theorem j5(rs:PP):∃pl,Ord rs pl:=by
 refine⟨(List.range rs.length).mergeSort (bef rs),List.mergeSort_perm _ _,List.pairwise_mergeSort (λa b c h1 h2=>?_) (λa b=>?_) _⟩
 .rw[km]at h1 h2⊢;lia
 .rw[Bool.or_eq_true,km,km];lia
theorem Jv{rs:PP}{p q:List Nat}(h:Ord rs p)(h':Ord rs q):p=q:=by
 refine List.Perm.eq_of_pairwise (λa b _ _ h1 h2=>?_) h.so h'.so (h.pm.trans h'.pm.symm);rw[km]at h1 h2;lia
def du(fs:PP)(pl:List Nat):PP:=pl.foldl (λl i=>l.set i (l.getD i 0+1)) fs
theorem pG(fs:PP)(pl:List Nat)(i:Nat):du fs (pl++[i])=(du fs pl).set i ((du fs pl).getD i 0+1):=by
 unfold du;rw[List.foldl_append];rfl
theorem jg:∀(pl:List Nat) (fs:PP),(du fs pl).length=fs.length
 |[],_=>rfl
 |i::pl,fs=>by
  show(du (fs.set i _) pl).length=_;rw[jg pl,List.length_set]
def fs(n:Int)(ws:PP):PP:=ws.map λw=>n*w / ws.sum
def rs(n:Int)(ws:PP):PP:=ws.map λw=>n*w % ws.sum
def lf(n:Int)(ws:PP):Int:=n-(fs n ws).sum
def OkW(ws:PP):Prop:=1<=ws.length/\ws.length<=80/\∀w∈ws,1<=w/\w<=99
theorem uf{B:Int}:∀{l:PP},(∀a∈l,a<=B)->l.sum<=B*l.length
 |[],_=>by simp
 |a::l,h=>by
  have h1:=uf (B:=B) (l:=l) λb hb=>h b (.tail _ hb);have h2:=h a (.head _);rw[Zag,zAe,show B*((l.length+1:Nat):Int)=B*l.length+B by rw[Int.natCast_add,Int.mul_add];simp];lia
theorem iy:∀{l:PP},(∀a∈l,0<=a)->0<=l.sum
 |[],_=>by simp
 |a::l,h=>by
  have h1:=iy (l:=l) λb hb=>h b (.tail _ hb);have h2:=h a (.head _);rw[Zag];lia
theorem OkW.pos(h:OkW ws):1<=ws.sum:=by
 obtain⟨h1,_,h3⟩:=h
 match ws,h1,h3 with
 |w::ws,_,h3=>
  have:=iy (l:=ws) λa ha=>by have:=h3 a (.tail _ ha);lia
  have:=h3 w (.head _);rw[Zag];lia
theorem OkW.top(h:OkW ws):ws.sum<=7920:=by
 have h1:=uf (B:=99) λa ha=>(h.2.2 a ha).2;have:=h.2.1;lia
theorem divs(n T:Int):∀ws:PP,T*(ws.map λw=>n*w / T).sum+(ws.map λw=>n*w % T).sum=n*ws.sum
 |[]=>by simp
 |w::ws=>by
  have h1:=divs n T ws;have h2:=Int.mul_ediv_add_emod (n*w) T;simp only[List.map_cons,List.sum_cons,Int.mul_add];lia
theorem Jw(n:Int)(ws:PP):ws.sum*lf n ws=(rs n ws).sum:=by
 have h:=divs n ws.sum ws;unfold lf fs rs;rw[Int.mul_sub,Int.mul_comm ws.sum n];lia
theorem Le{n:Int}(h:OkW ws):∀r∈rs n ws,0<=r:=λr hr=>by
 obtain⟨w,_,rfl⟩:=zA5.mp hr;have:=h.pos;exact Int.emod_nonneg _ Zz
theorem Lf{n:Int}(h:OkW ws):∀r∈rs n ws,r<=ws.sum:=λr hr=>by
 obtain⟨w,_,rfl⟩:=zA5.mp hr;have:=h.pos;exact Int.le_of_lt (Int.emod_lt_of_pos _ Zz)
theorem pH(n:Int)(ws:PP):(fs n ws).length=ws.length:=zA1 _
theorem jC(n:Int)(ws:PP):(rs n ws).length=ws.length:=zA1 _
theorem yK{n:Int}(h:OkW ws):0<=lf n ws:=by
 have h1:=Jw n ws;have h2:=iy (Le (n:=n) h);have h3:=h.pos;refine Int.le_of_not_gt λc=>?_;have:=Int.mul_le_mul_of_nonneg_left (c:=ws.sum) (show lf n ws<=-1 by lia) Zz;lia
theorem Do{n:Int}(h:OkW ws):lf n ws<=ws.length:=by
 have h1:=Jw n ws;have h2:=uf (Lf (n:=n) h);rw[jC]at h2;have h3:=h.pos;refine Int.le_of_not_gt λc=>?_;have:=Int.mul_le_mul_of_nonneg_left (c:=ws.sum) (show(ws.length:Int)+1<=lf n ws by lia) Zz;rw[Int.mul_add]at this;lia
theorem Jx(h:OkW ws):lf ws.sum ws=0:=by
 have h1:=Jw ws.sum ws
 have h2:(rs ws.sum ws).sum<=0:=by
  have:=uf (B:=0) (l:=rs ws.sum ws) λr hr=>by
   obtain⟨w,_,rfl⟩:=zA5.mp hr;rw[Int.mul_emod_right];exact Int.le_refl _
  lia
 have h3:=h.pos;have h4:=yK (n:=ws.sum) h;refine Int.le_antisymm (Int.le_of_not_gt λc=>?_) h4;have:=Int.mul_le_mul_of_nonneg_left (c:=ws.sum) (show 1<=lf ws.sum ws by lia) Zz;lia
theorem rD:∀(pl:List Nat) (l:PP) (i:Nat),i<l.length->(du l pl).getD i 0=l.getD i 0+pl.count i
 |[],l,i,_=>by simp[du]
 |j::pl,l,i,h=>by
  show(du (l.set j (l.getD j 0+1)) pl).getD i 0=_;rw[rD pl _ i (by rw[List.length_set];exact h),List.count_cons];by_cases e:j=i
  .subst e;rw[zA7,List.getElem?_set_self h,Option.getD_some,beq_self_eq_true,zAx rfl];lia
  .rw[zA7,List.getElem?_set_ne e,<-zA7,zAw (by simp[e])];lia
theorem Ord.nd{r:PP}(h:Ord r pl):pl.Nodup:=h.pm.nodup_iff.mpr List.nodup_range
theorem Ord.len{r:PP}(h:Ord r pl):pl.length=r.length:=by rw[h.pm.length_eq,Zad]
theorem Ord.lt{r:PP}(h:Ord r pl):∀i∈pl,i<r.length:=λi hi=>Za5.mp (h.pm.mem_iff.mp hi)
def res(n:Int)(ws:PP):PP:=du (fs n ws) ((j5 (rs n ws)).choose.take (lf n ws).toNat)
theorem Dp{n:Int}(h:Ord (rs n ws) pl):du (fs n ws) (pl.take (lf n ws).toNat)=res n ws:=by
 unfold res;rw[Jv h (j5 (rs n ws)).choose_spec]
theorem res_len(n:Int)(ws:PP):(res n ws).length=ws.length:=by
 unfold res;rw[jg,pH]
theorem res_get{n:Int}(h:OkW ws)(n0:0<=n)(n1:n<=ws.sum){i:Nat}{r w:Int}(hr:(res n ws)[i]?=some r)(hw:ws[i]?=some w):0<=r/\r<=w:=by
 have hi:i<ws.length:=(zAa.mp hw).1;have hp:=h.pos;have ww:=h.2.2 w (zBg hw)
 have e:r=n*w / ws.sum+((j5 (rs n ws)).choose.take (lf n ws).toNat).count i:=by
  have:=rD ((j5 (rs n ws)).choose.take (lf n ws).toNat) (fs n ws) i (by rw[pH];exact hi)
  have e2:(fs n ws).getD i 0=n*w / ws.sum:=by
   unfold fs;rw[zA7,zAb,hw];rfl
  rw[e2]at this;rw[<-this,show du (fs n ws) _=res n ws from rfl,zA7,hr];rfl
 have c1:((j5 (rs n ws)).choose.take (lf n ws).toNat).count i<=1:=List.nodup_iff_count.mp ((j5 (rs n ws)).choose_spec.nd.sublist (Za3 _ _)) i;have q0:0<=n*w / ws.sum:=Int.ediv_nonneg (Int.mul_nonneg n0 Zz) Zz;refine⟨Zz,?_⟩;by_cases en:n=ws.sum
 .have:((j5 (rs n ws)).choose.take (lf n ws).toNat)=[]:=by
   rw[en,Jx h];rfl
  rw[this]at e;rw[en,Int.mul_ediv_cancel_left _ Zz]at e;simp at e;lia
 .have:n*w / ws.sum<w:=by
   refine Int.ediv_lt_of_lt_mul Zz ?_;rw[Int.mul_comm w];exact Int.mul_lt_mul_of_pos_right Zz Zz
  lia
theorem rE{K:Frag}{te:TE}{p:Addr}{cE:St}{H0:Hp}{Fin:List V->Hp->Prop}(f:Int->Int)(ep:H0 p=some (.tup (ws.map V.int)))(hl:ws.length<sizeLine)
  (vT:∀(z:Int) (Q:VK),z∈ws->Q (.int (f z)) H0->te (cE.set 0 (some (.int z))) H0 Q) (fin:Fin ((ws.map f).map V.int) H0):jm (Itt K p) (bK 0) sO te Fin cE H0:=by
 refine bM ws.length (λi ys σ H=>H=H0/\(∀o,σ.set 0 o=cE.set 0 o)/\ys=((ws.take i).map f).map V.int) ⟨rfl,λ_=>rfl,rfl⟩ hl ?_ ?_
 .rintro i ys σ H hi hy ⟨rfl,kU,rfl⟩;have hz:(ws.map V.int)[i]?=some (.int ws[i]):=by rw[zAb,zA0 hi];rfl
  refine⟨⟨_,_,SqT.of ep,hz⟩,λv H' y' R hR=>?_⟩;obtain⟨rfl,y'⟩:=y';have hv:=y' _ (SqT.of ep);rw[hz]at hv;cases hv;show te (σ.set 0 (some (.int ws[i]))) _ _;rw[kU];refine vT ws[i] _ (zAh hi) (hR _ _ _ ⟨rfl,λo=>by rw[List.set_set],?_⟩);rw[zAj,zA0 hi,zA4,zA4];rfl
 .rintro ys σ H hy ⟨rfl,kU,rfl⟩;refine⟨⟨_,SqT.of ep,by rw[zA1];exact zA3 _⟩,?_⟩;rw[zAm];exact fin
def wD(ws:PP):PyData:=.tuple (ws.map PyData.int)
theorem vo:∀(r:PP),szs (r.map PyData.int)=r.length
 |[]=>rfl
 |_::r=>by
  show 1+szs (r.map PyData.int)=r.length+1;rw[vo r,Nat.add_comm]
theorem N5(ws:PP):sz (wD ws)=1+ws.length:=by
 show 1+szs (ws.map PyData.int)=_;rw[vo]
theorem N6(h:OkW ws):iZ (wD ws)=true:=by
 unfold iZ;rw[zAc];refine⟨?_,Zaf.mpr λd hd=>?_⟩
 .show(true&&(decide (1<=((ws.map PyData.int).length:Int))&&decide (((ws.map PyData.int).length:Int)<=80)))=true;have h1:=h.1;have h2:=h.2.1;rw[zA1,zAt Zz,zAt Zz];rfl
 .obtain⟨w,hw,rfl⟩:=zA5.mp hd;have:=h.2.2 w hw;show(true&&(decide (1<=w)&&decide (w<=99)))=true;rw[zAt this.1,zAt this.2];rfl
inductive SpRefuseI(vs:List V)(H:Hp)(Q:VK):Prop
 |mk:∀n p ws,(vs=[.int n,.ref p])->(H p=some (.tup (ws.map V.int)))->(OkW ws)->(0<=n)->(n<=ws.sum)->(∀H',Same H H'->Q .non H')->SpRefuseI  vs H Q
def vq:Sp:=λvs H Q _=>SpRefuseI  vs H Q
inductive SpPlacesI(vs:List V)(H:Hp)(Q:VK):Prop
 |mk:∀p rests,(vs=[.ref p])->(H p=some (.lst ((rests:PP).map V.int)))->(rests.length<sizeLine)->(∀H' q pl,Ord rests pl->Same H H'->H q=none->H' q=some (.lst (pl.map λj:Nat=>V.int (j:Int)))->Q (.ref q) H')->SpPlacesI  vs H Q
def vy:Sp:=λvs H Q _=>SpPlacesI  vs H Q
inductive SpPartsI(vs:List V)(H:Hp)(Q:VK):Prop
 |mk:∀n p ws,(vs=[.int n,.ref p])->(H p=some (.tup (ws.map V.int)))->(OkW ws)->(0<=n)->(n<=ws.sum)->(∀H' q,Same H H'->H' q=some (.tup ((res n ws).map V.int))->Q (.ref q) H')->SpPartsI  vs H Q
def spParts:Sp:=λvs H Q _=>SpPartsI  vs H Q
def dw(H:Hp)(a:Addr):Nat:=match H a with
 |some (.tup [_,.int y])=>y.toNat
 |_=>0
def rowAt(H:Hp)(a:Addr):PP:=match H a with
 |some (.tup [.int x,.int y])=>[x,y]
 |_=>[]
theorem HS{rests:PP}{i:Nat}{x:Int}(h:rests[i]?=some x):rr rests i=x:=by
 unfold rr;rw[zA7,h];rfl
theorem yL{rests:PP}{i j:Nat}(h:HT.lexLt [-(rr rests j),(j:Int)] [-(rr rests i),(i:Int)]=false):bef rests i j=true:=by
 rw[km];rw[HT.lexLt_cons]at h;by_cases e:-(rr rests j)=-(rr rests i)
 .rw[zAx e,HT.lexLt_cons]at h;by_cases e2:(j:Int)=(i:Int)
  .exact .inr ⟨Zz,Zz⟩
  .rw[zAw e2]at h;have:=of_decide_eq_false h;exact .inr ⟨Zz,Zz⟩
 .rw[zAw e]at h;have:=of_decide_eq_false h;exact .inl Zz
section
variable{P:Program}{w:World}{K:Frag}{mg:Str->Option Value}{base:Heap}{f:Addr}{fd:FuncData}
theorem N7:FnScope ["sacks","weights"] ["sacks","weights"] (aJ (top 38)):=fQS
theorem ok_refuse(F:Fun K "refuse_unpartable" "refuse_unpartable" (top 38) f fd)(Ts:mg "sum"=none)(c1:Cal P w K mg base 4 "are_weights" ["thing"] (spT iZ))(c2:Cal P w K mg base 2 "is_whole_from" ["thing","least","most"] (mQ qt)):
  FnOk P w K mg base CX0 5 f fd ["sacks","weights"] vq:=by
 refine F.ok N7 (λvs H Q E h=>?_) (λay A outer s H vs Q E hr h=>?_)
 .obtain⟨n,p,ws,rfl,_⟩:=h;rfl
 .obtain⟨n,p,ws,rfl,ep,ok,n0,n1,q⟩:=h
  refine⟨_,aC (dh (cW (fG (aK c1 hr (aX (pv 1) ao)))) (aG jF) bN)
   (aG (dh (cW (fG (aK c2 hr (aX (pv 0) (aX aB (aX (aM (cu rfl) rfl Ts boot_sum (au (pv 1) ao)) ao)))))) (aG jF) bN)),?_⟩
  refine aP λc_ af=>?_;refine⟨_,rfl,λ_=>False,_,wD ws,rfl,.tup ep (IsThs.ints ws),by rw[N5];have:=ok.2.1;lia,λH1 s1=>⟨_,rfl,?_⟩⟩;rw[N6 ok];refine bZ ?_;refine af _ _ ?_;clear af c_
  try dsimp only
  refine⟨_,rfl,_,rfl,p,ws,rfl,.inr (SqT.of (s1 _ _ ep)),λ_=>False,_,.int n,0,_,rfl,.int n,(by show 1<=4000;decide),λH2 s2=>⟨_,rfl,?_⟩⟩
  have e:qt (.int n) 0 ws.sum=true:=by
   show(true&&(decide (0<=n)&&decide (n<=ws.sum)))=true;rw[zAt n0,zAt n1];rfl
  rw[e];exact bZ (q H2 (s1.trans s2))
theorem sc13:FnScope ["rests","ranked"] ["rests"] (aJ (top 39)):=fQS
theorem ok_places(F:Fun K "places_by_rest" "places_by_rest" (top 39) f fd)(Te:mg "enumerate"=none)(Ts:mg "sorted"=none):FnOk P w K mg base CX0 1 f fd ["rests"] vy:=by
 refine F.ok sc13 (λvs H Q E h=>?_) (λay A outer s H vs Q E hr h=>?_)
 .obtain⟨p,rests,rfl,_⟩:=h;rfl
 .obtain⟨p,rests,rfl,ep,hz,q⟩:=h
  refine⟨_,aC (pss 1 sc13.nd (aM iw rfl Ts boot_sorted (au (bB (g:=lu K 2 (cG (bK 0) (cG (bK 1) mK))) ["at","rest"] [none,none] rfl (ZT.pi_enum false rfl Te (au (pv 0) ao))
    (λC fp Zt s₂ H₂=>⟨dY rfl rfl (aq (bC (i:=0) (nd2 _ _ Zx) rfl (Or.inl rfl) (Or.inr rfl)) (aq (bC (i:=1) (nd2 _ _ Zx) rfl (Or.inl rfl) (Or.inr rfl)) bf)),bx,
     bO (au (BJ wu (pv 1)) (au (pv 0) ao))⟩) (λC=>trivial) ⟨rfl,rfl,rfl,rfl⟩) ao)))
   (aG (aW (bB (g:=lu K 2 (cG (bK 0) (cG (bK 1) mK))) ["minus","at"] [none,none] rfl (di (pv 1))
    (λC fp Zt s₂ H₂=>⟨dY rfl rfl (aq (bC (i:=0) (nd2 _ _ Zx) rfl (Or.inl rfl) (Or.inr rfl)) (aq (bC (i:=1) (nd2 _ _ Zx) rfl (Or.inl rfl) (Or.inr rfl)) bf)),bx,
     pv 1⟩) (λC=>trivial) ⟨rfl,rfl,rfl,rfl⟩))),?_⟩
  refine aQ ?_;refine⟨_,rfl,p,_,rfl,SqL.of ep,bM rests.length (λi ys σ Hc=>Same H Hc/\(∃o1 o2,σ=[o1,o2])/\∃ts:List Addr,ys=ts.map V.ref/\∀j,j<i->∃a,ts[j]?=some a/\Hc a=some (.tup [.int (-(rr rests j)),.int (j:Int)])) ⟨Same.refl H,⟨_,_,rfl⟩,[],rfl,λj hj=>absurd hj (Nat.not_lt_zero _)⟩ hz ?_ ?_⟩
  .rintro i ys σ Hc hi hy ⟨s1,⟨o1,o2,rfl⟩,ts,rfl,ja⟩;rw[zA1]at hy;have gN:SqL K Hc p (rests.map V.int):=SqL.of (s1 _ _ ep)
   have hx:(rests.map V.int)[i]?=some (.int (rr rests i)):=by
    rw[zAb,zA0 hi,HS (zA0 hi)];rfl
   refine⟨⟨_,_,gN,hx⟩,λv H' y R hR=>?_⟩;obtain⟨T,nT,rfl,y⟩:=y;obtain⟨x',gp,rfl⟩:=y _ gN;rw[hx]at gp;cases gp;have s2:=s1.updR (o:=.tup [.int (i:Int),.int (rr rests i)]) nT;refine⟨T,_,rfl,SqT.of aj,rfl,_,_,rfl,_,_,rfl,rfl,_,rfl,rr rests i,rfl,_,rfl,zL,λt ht=>?_⟩;refine hR _ _ _ ⟨s2.updR ht,⟨_,_,rfl⟩,ts++[t],by rw[zA4];rfl,λj hj=>?_⟩;by_cases e:j<i
   .obtain⟨a,h1,h2⟩:=ja j e;refine⟨a,by rw[zB8 Zz];exact h1,?_⟩;exact Same.upd ht _ _ (Same.upd nT _ _ h2)
   .have e:j=i:=Zz
    subst e;refine⟨t,by rw[zB7 Zz,hy,Nat.sub_self];rfl,aj⟩
  .rintro ys σ Hc hy ⟨s1,_,ts,rfl,ja⟩;rw[zA1]at hy;refine⟨⟨_,SqL.of (s1 _ _ ep),by rw[zA1];exact zA3 _⟩,λD hD=>?_⟩;have s2:=s1.updR (o:=.lst (ts.map V.ref)) hD
   have gS:∀j,j<rests.length->∃a,ts[j]?=some a/\upd Hc D (.lst (ts.map V.ref)) a=some (.tup [.int (-(rr rests j)),.int (j:Int)]):=λj hj=>by
    obtain⟨a,h1,h2⟩:=ja j hj;exact⟨a,h1,Same.upd hD _ _ h2⟩
   have eD:=aj (H:=Hc) (a:=D) (o:=.lst (ts.map V.ref));generalize upd Hc D (.lst (ts.map V.ref))=H2 at s2 gS eD⊢;clear ja hD s1
   have kD:∀a∈ts,∃j,j<rests.length/\H2 a=some (.tup [.int (-(rr rests j)),.int (j:Int)]):=λa ha=>by
    obtain⟨j,hj,e⟩:=List.getElem_of_mem ha;obtain⟨b,h1,h2⟩:=gS j Zz;rw[zA0 hj]at h1;injection h1 with h1;refine⟨j,Zz,?_⟩;rw[<-e,h1];exact h2
   refine⟨D,ts,rowAt H2,rfl,SqL.of eD,λa ha=>?_,λq' l' hq pm so=>?_⟩
   .obtain⟨j,hj,e⟩:=kD a ha;have er:rowAt H2 a=[-(rr rests j),(j:Int)]:=by unfold rowAt;rw[e]
    rw[er];exact⟨SqT.of e,by simp⟩
   have oT:∀a∈l',∃j,j<rests.length/\H2 a=some (.tup [.int (-(rr rests j)),.int (j:Int)]):=λa ha=>kD a (pm.mem_iff.mp ha)
   have sn:∀a∈l',H2 a=some (.tup [.int (-(rr rests (dw H2 a))),.int (dw H2 a:Int)])/\rowAt H2 a=[-(rr rests (dw H2 a)),(dw H2 a:Int)]:=λa ha=>by
    obtain⟨j,hj,e⟩:=oT a ha;have er:rowAt H2 a=[-(rr rests j),(j:Int)]:=by unfold rowAt;rw[e]
    have es:dw H2 a=j:=by unfold dw;rw[e];exact zAi j
    rw[er,es];exact⟨e,rfl⟩
   have ord:Ord rests (l'.map (dw H2)):=by
    refine⟨?_,?_⟩
    .refine(pm.map _).trans (List.Perm.of_eq (List.ext_getElem? λj=>?_));by_cases hj:j<rests.length
     .obtain⟨a,h1,h2⟩:=gS j hj;rw[zAb,h1,Zap hj];show some (dw H2 a)=some j;unfold dw;rw[h2];exact congrArg some (zAi j)
     .rw[List.getElem?_eq_none (by rw[zA1];lia),List.getElem?_eq_none (by rw[Zad];lia)]
    .refine Zan.mpr (so.imp_of_mem λ{a b} ha hb h=>?_);rw[(sn a ha).2,(sn b hb).2]at h;exact yL h
   have s3:=s2.updR (o:=.lst (l'.map V.ref)) hq;have QR:l'.length=rests.length:=by rw[pm.length_eq,hy]
   have pb:=aj (H:=H2) (a:=q') (o:=.lst (l'.map V.ref));have rX:∀a∈l',upd H2 q' (.lst (l'.map V.ref)) a=some (.tup [.int (-(rr rests (dw H2 a))),.int (dw H2 a:Int)]):=λa ha=>Same.upd hq _ _ (sn a ha).1;generalize dw H2=sd at ord rX;generalize upd H2 q' (.lst (l'.map V.ref))=H3 at s3 pb rX⊢;dsimp only;refine ir ?_;refine⟨_,rfl,q',rfl,⟨_,SqL.of pb⟩,bM rests.length (λi ys σ Hc=>Same H3 Hc/\(∃o1 o2,σ=[o1,o2])/\ys=((l'.take i).map sd).map λj:Nat=>V.int (j:Int)) ⟨Same.refl H3,⟨_,_,rfl⟩,rfl⟩ hz ?_ ?_⟩
   .rintro i ys σ Hc hi hy ⟨s4,⟨o1,o2,rfl⟩,rfl⟩;have hX:i<l'.length:=Zz
    have hu:(l'.map V.ref)[i]?=some (.ref l'[i]):=by rw[zAb,zA0 hX];rfl
    refine⟨⟨_,_,SqL.of (s4 _ _ pb),hu⟩,λv H' y R hR=>?_⟩;obtain⟨rfl,y⟩:=y;have hv:=y _ (SqL.of (s4 _ _ pb));rw[hu]at hv;cases hv;refine⟨l'[i],_,rfl,SqT.of (s4 _ _ (rX _ (zAh hX))),rfl,_,_,rfl,_,_,rfl,rfl,_,rfl,hR _ _ _ ⟨s4,⟨_,_,rfl⟩,?_⟩⟩;rw[zAj,zA0 hX,zA4,zA4];rfl
   .rintro ys σ Hc zS ⟨s4,_,rfl⟩;refine⟨⟨_,SqL.of (s4 _ _ pb),by rw[zA1];lia⟩,λD' Od=>?_⟩;have s5:=s3.trans s4;have hn:H D'=none:=s5.free Od;refine q _ D' _ ord (s5.updR Od) hn ?_;rw[aj,Zai Zz]
end
theorem yM{n j:Nat}(h:j<n):ixN n (j:Int)=some j:=by
 unfold ixN;rw[zAx Zz,zAx Zz,zAi]
theorem Dq(ok:OkW ws):ws.length<sizeLine:=by
 have:=ok.2.1;rw[sizeLine_eq];lia
section
variable{P:Program}{w:World}{K:Frag}{mg:Str->Option Value}{base:Heap}{f:Addr}{fd:FuncData}
theorem Lg:(["weight","sacks","together"]:List Str).Nodup:=by decide +kernel
theorem sc14:FnScope ["sacks","weights","together","parts","rests","left","at"] ["sacks","weights"] (aJ (top 40)):=fQS
theorem ok_parts(F:Fun K "parts_of" "parts_of" (top 40) f fd)(T:Mg mg)(Ts:mg "sum"=none)(c1:Cal P w K mg base 1 "places_by_rest" ["rests"] vy):FnOk P w K mg base CX0 2 f fd ["sacks","weights"] spParts:=by
 refine F.ok sc14 (λvs H Q E h=>?_) (λay A outer s H vs Q E hr h=>?_)
 .obtain⟨n,p,ws,rfl,_⟩:=h;rfl
 .obtain⟨n,p,ws,rfl,ep,ok,n0,n1,q⟩:=h
  refine⟨_,aC (gY (i:=2) sc14.nd rfl (Or.inr rfl) (aM (cu rfl) rfl Ts boot_sum (au (pv 1) ao)))
   (aC (ig (i:=3) ["weight","sacks","together"] [none,some 0,some 2] rfl sc14.nd rfl (Or.inl rfl) (gZ (pv 1))
    (λC fp Zt s₂ H₂=>⟨pgn 0 Lg,bx,aU mW (aU gH (pv 1) (pv 0)) (pv 2)⟩) (λC=>cI (cI trivial)) ⟨rfl,rfl,rfl,rfl⟩)
   (aC (ig (i:=4) ["weight","sacks","together"] [none,some 0,some 2] rfl sc14.nd rfl (Or.inl rfl) (gZ (pv 1))
    (λC fp Zt s₂ H₂=>⟨pgn 0 Lg,bx,aU gJ (aU gH (pv 1) (pv 0)) (pv 2)⟩) (λC=>cI (cI trivial)) ⟨rfl,rfl,rfl,rfl⟩)
   (aC (pss 5 sc14.nd (aU d8 (pv 0) (aM (cu rfl) rfl Ts boot_sum (au (pv 3) ao))))
   (aC (bU zB3 rfl (di (gQ sI (aK c1 hr (au (pv 4) ao)) jb (jc (pv 5)))) (pgn 6 sc14.nd)
    (aG (su (pv 3) (pv 6) jf aB Bx set_list)))
   (aG (aW (cZ cP rfl T.tuple boot_tuple (au (pv 3) ao)))))))),?_⟩
  have hp:=ok.pos;have ht:=ok.top;have se:=Dq ok;refine aP λc_ af=>?_;refine⟨_,rfl,p,ws,rfl,.inr (SqT.of ep),?_⟩;refine af _ _ ?_;clear af c_
  try dsimp only
  refine aP λc_ af=>?_;refine⟨_,rfl,p,rfl,⟨_,SqT.of ep⟩,rE (λz=>n*z / ws.sum) ep se (λz Q hz h=>⟨_,rfl,_,rfl,_,_,rfl,rfl,.inl ⟨Zz,Zz⟩,_,rfl,_,_,rfl,rfl,⟨Zz,Zz⟩,h⟩) ?_⟩;rw[show ws.map (λz=>n*z / ws.sum)=fs n ws from rfl];intro l1 dE;have s1:=Same.upd (o:=.lst ((fs n ws).map V.int)) dE;have el1:=aj (H:=H) (a:=l1) (o:=.lst ((fs n ws).map V.int));generalize upd H l1 _=H1 at s1 el1⊢;refine af _ _ ?_;clear af c_
  try dsimp only
  refine aP λc_ af=>?_;refine⟨_,rfl,p,rfl,⟨_,SqT.of (s1 _ _ ep)⟩,rE (λz=>n*z % ws.sum) (s1 _ _ ep) se (λz Q hz h=>⟨_,rfl,_,rfl,_,_,rfl,rfl,.inl ⟨Zz,Zz⟩,_,rfl,_,_,rfl,rfl,(by show 0<ws.sum;lia),h⟩) ?_⟩;rw[show ws.map (λz=>n*z % ws.sum)=rs n ws from rfl];intro l2 iX;have s2:=s1.updR (o:=.lst ((rs n ws).map V.int)) iX;have el2:=aj (H:=H1) (a:=l2) (o:=.lst ((rs n ws).map V.int));have lP:=Same.upd (o:=.lst ((rs n ws).map V.int)) iX _ _ el1;have wt:H l1=none:=dE;clear dE iX;generalize upd H1 l2 _=H2 at s2 el2 lP⊢;clear el1 s1;refine af _ _ ?_;clear af c_
  try dsimp only
  refine aP λc_ af=>?_;refine⟨_,rfl,_,rfl,l1,fs n ws,rfl,.inl (SqL.of lP),_,_,rfl,rfl,?_⟩;show _;refine af _ _ ?_;clear af c_
  try dsimp only
  rw[show n-(fs n ws).sum=lf n ws from rfl];refine aQ ?_;refine⟨_,rfl,l2,rs n ws,rfl,el2,by rw[jC];exact se,λH3 l3 pl ord s3 Cf el3=>⟨_,rfl,_,rfl,l3,_,rfl,SqL.of el3,λl4 gi=>⟨l4,rfl,⟨_,SqL.of aj⟩,?_⟩⟩⟩;have QS:=yK (n:=n) ok;have QT:=Do (n:=n) ok;have QU:=ord.len;rw[jC]at QU
  have w9:iH (pl.map λj:Nat=>V.int (j:Int)) none (some (lf n ws))=(pl.take (lf n ws).toNat).map λj:Nat=>V.int (j:Int):=by
   rw[List.map_take,<-jZ (i:=(lf n ws).toNat) (by rw[zA1];lia),show((lf n ws).toNat:Int)=lf n ws by lia]
  rw[w9];have fin:=Dp ord
  have inr:∀j∈pl.take (lf n ws).toNat,j<ws.length:=λj hj=>by
   have:=ord.lt j (Zaq hj);rw[jC]at this;exact this
  generalize pl.take (lf n ws).toNat=pk at fin inr gi⊢;have s4:=(s2.trans s3).updR (o:=.lst (pk.map λj:Nat=>V.int (j:Int))) gi;have el4:=aj (H:=H3) (a:=l4) (o:=.lst (pk.map λj:Nat=>V.int (j:Int)));have lT:=Same.upd (o:=.lst (pk.map λj:Nat=>V.int (j:Int))) gi _ _ (s3 _ _ lP)
  have HM:l4≠l1:=λz=>by
   rw[z,s3 _ _ lP]at gi;cases gi
  generalize upd H3 l4 (.lst (pk.map λj:Nat=>V.int (j:Int)))=H4 at s4 el4 lT⊢;clear gi el3 Cf s3 lP el2 s2;refine jG (xs:=pk.map λj:Nat=>V.int (j:Int)) (λi σ Hc=>∃o6,σ=[some (.int n),some (.ref p),some (.int ws.sum),some (.ref l1),some (.ref l2),some (.int (lf n ws)),o6]/\Same H Hc/\Hc l4=some (.lst (pk.map λj:Nat=>V.int (j:Int)))/\Hc l1=some (.lst ((du (fs n ws) (pk.take i)).map V.int))) ?_ ?_ ?_ ?_
  .exact⟨none,rfl,s4,el4,lT⟩
  .rintro i σ Hc hi ⟨o6,rfl,s5,e4,e1⟩;exact SqL.of e4
  .rintro i v σ Hc hv ⟨o6,rfl,s5,e4,e1⟩;rw[zAb]at hv
   cases hj:pk[i]? with
   |none=>rw[hj]at hv;cases hv
   |some j=>
    rw[hj]at hv;cases hv;refine aD ?_
    have kp:∀o,Same H (upd Hc l1 o):=λo b u e=>by
     rw[az (aA e wt)];exact s5 _ _ e
    have aI:j<(du (fs n ws) (pk.take i)).length:=by
     rw[jg,pH];exact inr j (zBg hj)
    have hx:((du (fs n ws) (pk.take i)).map V.int)[((j:Nat):Int).toNat]?=some (.int ((du (fs n ws) (pk.take i)).getD j 0)):=by
     rw[zAi,zAb,zA0 aI,zA7,zA0 aI];rfl
    refine⟨_,rfl,_,rfl,l1,_,(j:Int),_,rfl,rfl,SqL.of e1,Zz,hx,_,_,rfl,rfl,l1,_,(j:Int),j,rfl,rfl,e1,yM (by rw[zA1];exact aI),?_⟩;refine⟨_,rfl,kp _,by rw[az HM];exact e4,?_⟩;rw[aj,zAj,hj];show _=some (HO.lst ((du (fs n ws) (pk.take i++[j])).map V.int));rw[pG,List.map_set]
  .rintro σ Hc ⟨o6,rfl,s5,e4,e1⟩;rw[zA1,zAm,fin]at e1;dsimp only;refine ir ?_;exact⟨_,rfl,l1,_,rfl,.inl ⟨SqL.of e1,λt ht=>q _ t (s5.updR ht) aj⟩⟩
theorem sc15:FnScope ["sacks","weights"] ["sacks","weights"] (aJ (top 41)):=fQS
theorem ok_parted(F:Fun K "parted" "parted" (top 41) f fd)(c1:Cal P w K mg base 5 "refuse_unpartable" ["sacks","weights"] vq)(c2:Cal P w K mg base 2 "parts_of" ["sacks","weights"] spParts):FnOk P w K mg base CX0 6 f fd ["sacks","weights"] spParts:=by
 refine F.ok sc15 (λvs H Q E h=>?_) (λay A outer s H vs Q E hr h=>?_)
 .obtain⟨n,p,ws,rfl,_⟩:=h;rfl
 .obtain⟨n,p,ws,rfl,ep,ok,n0,n1,q⟩:=h;refine⟨_,aC (cA (aK c1 hr (au (pv 0) (au (pv 1) ao)))) (aG (aW (aK c2 hr (au (pv 0) (au (pv 1) ao))))),?_⟩;refine aP λc_ af=>?_;refine⟨_,rfl,_,rfl,n,p,ws,rfl,ep,ok,n0,n1,λH1 s1=>?_⟩;refine af _ _ ?_;clear af c_
  try dsimp only
  refine ir ?_;exact⟨_,rfl,_,rfl,n,p,ws,rfl,s1 _ _ ep,ok,n0,n1,λH2 t s2 et=>q H2 t (s1.trans s2) et⟩
end
end K41P
namespace K41
open PySem L2
variable{ps ss:PK}{L:PP}
def bj:Int->PK->PP
 |_,[]=>[]
 |w,r::rs=>(if w<fl r 3 then w else fl r 3)::bj (w-(if w<fl r 3 then w else fl r 3)) rs
theorem gm:∀(w:Int) (rs:PK) (r:PP),bj w (rs++[r])=bj w rs++[if w-(bj w rs).sum<fl r 3 then w-(bj w rs).sum else fl r 3]
 |w,[],r=>by
  show[_]=[_];rw[show(bj w []).sum=0 from rfl,Int.sub_zero]
 |w,q::rs,r=>by
  rw[List.cons_append];unfold bj;rw[gm _ rs r,List.cons_append,Zag,show ∀a b c:Int,a-b-c=a-(b+c)from λa b c=>by lia]
theorem d7:∀(w:Int) (rs:PK),(bj w rs).length=rs.length
 |_,[]=>rfl
 |w,r::rs=>by
  unfold bj;rw[zAe,zAe,d7]
inductive SpMadeI(vs:List V)(H:Hp)(Q:VK):Prop
 |mk:∀w l xs rs,(vs=[.int w,.ref l])->(H l=some (.lst xs))->(Els H xs rs)->((∀r∈rs,r.length=4))->(rs.length<=100000)->(∀m H',Same H H'->H m=none->H' m=some (.lst ((bj w rs).map V.int))->Q (.ref m) H')->SpMadeI  vs H Q
def Ds:Sp:=λvs H Q _=>SpMadeI  vs H Q
def bz(w:Int)(rs:PK):PP:=if(wts rs).sum<=w then wts rs else K41P.res w (wts rs)
inductive SpSharesI(vs:List V)(H:Hp)(Q:VK):Prop
 |mk:∀w l xs rs,(vs=[.int w,.ref l])->(H l=some (.lst xs))->(Els H xs rs)->((∀r∈rs,r.length=4/\1<=fl r 3/\fl r 3<=99))->(rs.length<=80)->(0<=w)->(∀t H',Same H H'->H' t=some (.tup ((bz w rs).map V.int))->Q (.ref t) H')->SpSharesI  vs H Q
def vz:Sp:=λvs H Q _=>SpSharesI  vs H Q
variable{P:Program}{w:World}{K:Frag}{mg:Str->Option Value}{base:Heap}{f:Addr}{fd:FuncData}
theorem scT1:FnScope ["wool","owed","shares","left","due","number","holder","sacks","share"] ["wool","owed"] (aJ (top 46)):=fQS
theorem Gu(F:Fun K "made_good" "made_good" (top 46) f fd)(Tn:mg "min"=none):FnOk P w K mg base CX0 1 f fd ["wool","owed"] Ds:=by
 refine F.ok scT1 (λvs H Q E h=>?_) (λay A outer s H vs Q E hr h=>?_)
 .obtain⟨w0,l,xs,rs,rfl,_⟩:=h;rfl
 .obtain⟨w0,l,xs,rs,rfl,el,eR,h4,hz,q⟩:=h
  refine⟨_,aC (pss 2 scT1.nd (cJ ao))
   (aC (pss 3 scT1.nd (pv 0))
   (aC (bU zB3 rfl (di (pv 1)) (bG rfl (aq (pgn 4 scT1.nd) (aq (pgn 5 scT1.nd) (aq (pgn 6 scT1.nd) (aq (pgn 7 scT1.nd) bf)))))
    (aC (pss 8 scT1.nd (aM (fX rfl) rfl Tn boot_min (au (pv 7) (au (pv 3) ao))))
    (aC (cA (gC zB9 zBc zBb cN (pv 2) (au (pv 8) ao)))
    (aG (nP (i:=3) scT1.nd rfl (Or.inl rfl) (pv 8) By)))))
   (aG (aW (pv 2))))),?_⟩
  refine aQ (aY ?_);refine⟨zL,λm hm=>?_⟩;refine aD ?_;dsimp only;refine aQ (aY ?_);refine⟨_,rfl,?_⟩;refine aD ?_;dsimp only;refine aQ ?_;have s1:=Same.upd (o:=.lst []) hm;have nl:l≠m:=aA el hm;refine⟨_,rfl,l,rfl,⟨_,SqL.of (s1 _ _ el)⟩,?_⟩;refine jG (xs:=xs) (λi σ Hc=>Xe5 λx4 x5 x6 x7 x8=>Xa3 (σ=[some (.int w0),some (.ref l),some (.ref m),some (.int (w0-(bj w0 (rs.take i)).sum)),x4,x5,x6,x7,x8]) ((∀b o,H b=some o->Hc b=some o)) (Hc m=some (.lst ((bj w0 (rs.take i)).map V.int)))) ?_ ?_ ?_ ?_
  .refine⟨none,none,none,none,none,?_,λb o e=>s1 _ _ e,aj⟩;rw[Zay,show(bj w0 []).sum=0 from rfl,Int.sub_zero];rfl
  .rintro i σ Hc hi ⟨x4,x5,x6,x7,x8,rfl,k,em⟩;exact SqL.of (k _ _ el)
  .rintro i x σ Hc hx ⟨x4,x5,x6,x7,x8,rfl,k,em⟩
   have hi:i<rs.length:=by
    have:=(zAa.mp hx).1;rw[eR.1]at this;exact this
   obtain⟨t,ex,et⟩:=eR.2 i rs[i] (zA0 hi);rw[ex]at hx;cases hx;rw[cY (h4 _ (zAh hi))]at et;refine⟨t,_,rfl,SqT.of (k _ _ et),rfl,_,_,rfl,_,_,rfl,_,_,rfl,_,_,rfl,rfl,?_⟩;refine aQ (aY ?_);refine⟨_,rfl,_,rfl,_,_,rfl,?_⟩;refine aD ?_;dsimp only;refine aQ ?_;refine⟨_,rfl,.inl ⟨rfl,_,SqL.of em⟩,_,rfl,m,_,_,rfl,rfl,em,?_,?_⟩
   .rw[zA1,d7,zAd,sizeLine_eq];lia
   have cb:rs.take (i+1)=rs.take i++[rs[i]]:=by rw[zAj,zA0 hi];rfl
   dsimp only;refine⟨_,rfl,_,rfl,_,_,rfl,rfl,some (.int (fl rs[i] 0)),some (.int (fl rs[i] 1)),some (.int (fl rs[i] 2)),some (.int (fl rs[i] 3)),some (.int (if w0-(bj w0 (rs.take i)).sum<fl rs[i] 3 then w0-(bj w0 (rs.take i)).sum else fl rs[i] 3)),?_,λb o e=>?_,?_⟩
   .rw[cb,gm,List.sum_append,Zag,List.sum_nil,Int.add_zero,show ∀a b c:Int,a-(b+c)=a-b-c from λa b c=>by lia];rfl
   .rw[az (aA e hm)];exact k _ _ e
   .rw[aj,cb,gm,zA4];rfl
  .rintro σ Hc ⟨x4,x5,x6,x7,x8,rfl,k,em⟩;rw[show xs.length=rs.length from eR.1,zAm]at em;exact⟨_,rfl,q m Hc (λb o e=>k b o e) hm em⟩
theorem scT2:FnScope ["wool","claims","weights"] ["wool","claims"] (aJ (top 45)):=fQS
theorem Aw(F:Fun K "shares_of" "shares_of" (top 45) f fd)(T:Mg mg)(Ts:mg "sum"=none)(c1:Cal P w K mg base 6 "parted" ["sacks","weights"] K41P.spParts):FnOk P w K mg base CX0 7 f fd ["wool","claims"] vz:=by
 refine F.ok scT2 (λvs H Q E h=>?_) (λay A outer s H vs Q E hr h=>?_)
 .obtain⟨w0,l,xs,rs,rfl,_⟩:=h;rfl
 .obtain⟨w0,l,xs,rs,rfl,el,eR,h4,hz,hw,q⟩:=h
  refine⟨_,aC (pss 2 scT2.nd (cZ cP rfl T.tuple boot_tuple (au (bB (g:=lu K 4 (cG (bK 0) (cG (bK 1) (cG (bK 2) (cG (bK 3) mK))))) ["due","number","holder","sacks"] [none,none,none,none] rfl (di (pv 1))
    (λC fp Zt s₂ H₂=>⟨dY rfl rfl (aq (pgn 0 nd4) (aq (pgn 1 nd4) (aq (pgn 2 nd4) (aq (pgn 3 nd4) bf)))),bx,pv 3⟩) (λC=>trivial) ⟨rfl,rfl,rfl,rfl⟩) ao)))
   (aG (aW (uA (bT bV (aM (cu rfl) rfl Ts boot_sum (au (pv 2) ao)) (pv 0) (bQ _)) (pv 2) (aK c1 hr (au (pv 0) (au (pv 2) ao)))))),?_⟩
  refine aQ (aY ?_);refine⟨_,rfl,l,rfl,⟨_,SqL.of el⟩,bM rs.length (λi ys σ Hc=>Same H Hc/\(∃o1 o2 o3 o4,σ=[o1,o2,o3,o4])/\ys=(wts (rs.take i)).map V.int) ⟨Same.refl H,⟨_,_,_,_,rfl⟩,rfl⟩ Zu ?_ ?_⟩
  .rintro i ys σ Hc hi hy ⟨s1,⟨o1,o2,o3,o4,rfl⟩,rfl⟩;obtain⟨t,ex,et⟩:=eR.2 i rs[i] (zA0 hi);rw[cY (h4 _ (zAh hi)).1]at et;refine⟨⟨_,_,SqL.of (s1 _ _ el),ex⟩,λv H' y R hR=>?_⟩;obtain⟨rfl,y⟩:=y;have hv:=y _ (SqL.of (s1 _ _ el));rw[ex]at hv;cases hv;refine⟨t,_,rfl,SqT.of (s1 _ _ et),rfl,_,_,rfl,_,_,rfl,_,_,rfl,_,_,rfl,rfl,_,rfl,hR _ _ _ ⟨s1,⟨_,_,_,_,rfl⟩,?_⟩⟩;unfold wts;rw[zAj,zA0 hi,zA4,zA4];rfl
  .rintro ys σ Hc hy ⟨s1,_,rfl⟩;refine⟨⟨_,SqL.of (s1 _ _ el),by rw[eR.1];exact zA3 _⟩,λD hD=>?_⟩;rw[zAm];refine⟨D,_,rfl,.inl ⟨SqL.of aj,λt ht=>?_⟩⟩;have s2:=(s1.updR (o:=.lst ((wts rs).map V.int)) hD).updR (o:=.tup ((wts rs).map V.int)) ht;have et:=aj (H:=upd Hc D (.lst ((wts rs).map V.int))) (a:=t) (o:=.tup ((wts rs).map V.int));generalize upd (upd Hc D (.lst ((wts rs).map V.int))) t (.tup ((wts rs).map V.int))=H2 at s2 et⊢;refine aD ?_;dsimp only;refine⟨_,rfl,t,wts rs,rfl,.inr (SqT.of et),_,rfl,_,_,rfl,rfl,_,rfl,?_⟩;by_cases hs:(wts rs).sum<=w0
   .rw[zAt hs];refine cC ⟨_,rfl,q t H2 s2 ?_⟩;unfold bz;rw[zAx hs];exact et
   .rw[zB2 hs];refine bZ ⟨_,rfl,_,rfl,w0,t,wts rs,rfl,et,⟨?_,?_,λx hx=>?_⟩,hw,Zz,λH3 t3 s3 e3=>q t3 H3 (s2.trans s3) ?_⟩
    .cases kF:rs with
     |nil=>
      rw[kF]at hs;exact absurd hw hs
     |cons r xb=>
      unfold wts;rw[zA1,zAe];lia
    .unfold wts;rw[zA1];exact hz
    .obtain⟨r,kF,rfl⟩:=zA5.mp hx;exact(h4 r kF).2
    .unfold bz;rw[zAw hs];exact e3
theorem eF{J:It}{g:TG}{tt:TT}{te:TE}{cE:St}{H0:Hp}{Fin:List V->Hp->Prop}(n:Nat)(Pv:Nat->List V->St->Hp->Prop)(h0:Pv 0 [] cE H0)(hz:n<sizeLine)
  (step:∀i ys σ H,i<n->ys.length<=i->Pv i ys σ H->J.go i H/\∀x H',J.yld i H x H'->∀R:List V->St->Hp->Prop,(∀cK aS H4,cK.length<=i+1->Pv (i+1) cK aS H4->R cK aS H4)->g x σ H' λaS H2=>tt aS H2 λb H3=>if b=true then te aS H3 λy H4=>R (ys++[y]) aS H4 else R ys aS H3)
  (fin:∀ys σ H,ys.length<=n->Pv n ys σ H->J.stop n H/\Fin ys H):jm J g tt te Fin cE H0:=by
 refine⟨λi m ys σ H=>m=n-i/\i<=n/\ys.length<=i/\Pv i ys σ H,⟨_,rfl,zAp _,zA3 _,h0⟩,?_⟩;rintro i m ys σ H ⟨rfl,hi,hy,p⟩;refine⟨Zz,?_⟩;by_cases aI:i<n
 .obtain⟨go,st⟩:=step i ys σ H aI hy p;exact .inr ⟨go,λx H' y=>st x H' y (λcK aS H4=>∃m',m'<n-i/\m'=n-(i+1)/\i+1<=n/\cK.length<=i+1/\Pv (i+1) cK aS H4) λcK aS H4 l2 p2=>⟨n-(i+1),Zz,rfl,aI,l2,p2⟩⟩
 .have e:i=n:=Zz
  subst e;exact .inl (fin ys σ H hy p)
def dI(P:List (PP×Int)):PK:=(P.filter λp=>decide (0<p.2)).map λp=>[fl p.1 0,fl p.1 1,fl p.1 2,p.2]
def bW(P:List (PP×Int)):PK:=(P.filter λp=>decide (p.2<fl p.1 3)).map λp=>[fl p.1 0,fl p.1 1,fl p.1 2,fl p.1 3-p.2]
theorem rF(P:List (PP×Int))(p:PP×Int):dI (P++[p])=dI P++(if 0<p.2 then[[fl p.1 0,fl p.1 1,fl p.1 2,p.2]]else[]):=by
 unfold dI;rw[Zao,zA4];congr 1;by_cases h:0<p.2
 .rw[zAx h,zBe (p:=λ(p:PP×Int)=>decide (0<p.2)) (zAt h)];rfl
 .rw[zAw h,zBa (p:=λ(p:PP×Int)=>decide (0<p.2)) (by rw[Zq];exact h)];rfl
theorem pI(P:List (PP×Int))(p:PP×Int):bW (P++[p])=bW P++(if p.2<fl p.1 3 then[[fl p.1 0,fl p.1 1,fl p.1 2,fl p.1 3-p.2]]else[]):=by
 unfold bW;rw[Zao,zA4];congr 1;by_cases h:p.2<fl p.1 3
 .rw[zAx h,zBe (p:=λ(p:PP×Int)=>decide (p.2<fl p.1 3)) (zAt h)];rfl
 .rw[zAw h,zBa (p:=λ(p:PP×Int)=>decide (p.2<fl p.1 3)) (by rw[Zq];exact h)];rfl
theorem shares_len{w:Int}{rs:PK}:(bz w rs).length=rs.length:=by
 unfold bz;split
 .unfold wts;rw[zA1]
 .rw[K41P.res_len];unfold wts;rw[zA1]
def shr(w:Int)(cl ow:PK):PP:=bz w cl++bj (w-(bz w cl).sum) ow
inductive SpSortI(vs:List V)(H:Hp)(Q:VK):Prop
 |mk:∀w lc xc cl lo xo ow,(vs=[.int w,.ref lc,.ref lo])->(H lc=some (.lst xc))->(Els H xc cl)->((∀r∈cl,r.length=4/\1<=fl r 3/\fl r 3<=99))->(cl.length<=80)->(0<=w)->(H lo=some (.lst xo))->(Els H xo ow)->((∀r∈ow,r.length=4))->(ow.length<=10000)->(∀t g k xg xk H',Same H H'->H' t=some (.tup [.ref g,.ref k])->H g=none->H k=none->H' g=some (.lst xg)->Els H' xg (dI ((cl++ow).zip (shr w cl ow)))->H' k=some (.lst xk)->Els H' xk (bW ((cl++ow).zip (shr w cl ow)))->Q (.ref t) H')->SpSortI  vs H Q
def Dt:Sp:=λvs H Q _=>SpSortI  vs H Q
theorem vA:bootBuiltins "list"=some (.type "list"):=by decide +kernel
theorem nd5:(["due","number","holder","sacks","share"]:List Str).Nodup:=by decide +kernel
theorem scU1:FnScope ["wool","claims","owed","shares","rows","gifts","lacking"] ["wool","claims","owed"] (aJ (top 47)):=fQS
theorem Du(F:Fun K "sort_given" "sort_given" (top 47) f fd)(Ts:mg "sum"=none)(Tl:mg "list"=none)(Tz:mg "zip"=none)(c1:Cal P w K mg base 7 "shares_of" ["wool","claims"] vz)(c2:Cal P w K mg base 1 "made_good" ["wool","owed"] Ds):FnOk P w K mg base CX0 8 f fd ["wool","claims","owed"] Dt:=by
 refine F.ok scU1 (λvs H Q E h=>?_) (λay A outer s H vs Q E hr h=>?_)
 .obtain⟨w0,lc,xc,cl,lo,xo,ow,rfl,_⟩:=h;rfl
 .obtain⟨w0,lc,xc,cl,lo,xo,ow,rfl,ec,Cn,Oe,QV,hw,eo,pd,Of,QW,q⟩:=h
  refine⟨_,aC (pss 3 scU1.nd (cZ sJ rfl Tl vA (au (aK c1 hr (au (pv 0) (au (pv 1) ao))) ao)))
   (aC (pss 4 scU1.nd (aU J9 (pv 1) (pv 2)))
   (aC (nP (i:=3) scU1.nd rfl (Or.inl rfl) (aK c2 hr (au (aU d8 (pv 0) (aM (cu rfl) rfl Ts boot_sum (au (pv 3) ao))) (au (pv 2) ao))) tV)
   (aC (ig (g:=lu K 2 (cG (lu K 4 (cG (bK 0) (cG (bK 1) (cG (bK 2) (cG (bK 3) mK))))) (cG (bK 4) mK))) (i:=5) ["due","number","holder","sacks","share"] [none,none,none,none,none] rfl scU1.nd rfl (Or.inl rfl) (ZT.pi_zip false false rfl Tz (au (pv 4) (au (pv 3) ao))) (λC fp Zt s₂ H₂=>⟨dY rfl rfl (aq (dY rfl rfl (aq (pgn 0 nd5) (aq (pgn 1 nd5) (aq (pgn 2 nd5) (aq (pgn 3 nd5) bf))))) (aq (pgn 4 nd5) bf)),fP (bT lZ (pv 4) aB (bQ _)),bO (au (pv 0) (au (pv 1) (au (pv 2) (au (pv 4) ao))))⟩) (λC=>trivial) ⟨rfl,rfl,rfl,rfl⟩)
   (aC (ig (g:=lu K 2 (cG (lu K 4 (cG (bK 0) (cG (bK 1) (cG (bK 2) (cG (bK 3) mK))))) (cG (bK 4) mK))) (i:=6) ["due","number","holder","sacks","share"] [none,none,none,none,none] rfl scU1.nd rfl (Or.inl rfl) (ZT.pi_zip false false rfl Tz (au (pv 4) (au (pv 3) ao))) (λC fp Zt s₂ H₂=>⟨dY rfl rfl (aq (dY rfl rfl (aq (pgn 0 nd5) (aq (pgn 1 nd5) (aq (pgn 2 nd5) (aq (pgn 3 nd5) bf))))) (aq (pgn 4 nd5) bf)),fP (bT lZ (pv 3) (pv 4) (bQ _)),bO (au (pv 0) (au (pv 1) (au (pv 2) (au (aU d8 (pv 3) (pv 4)) ao))))⟩) (λC=>trivial) ⟨rfl,rfl,rfl,rfl⟩)
   (aG (aW (bO (au (pv 5) (au (pv 6) ao))))))))),?_⟩
  refine aP λc_ af=>?_;refine aY ?_;refine⟨_,rfl,_,rfl,w0,lc,xc,cl,rfl,ec,Cn,Oe,QV,hw,λt H1 s1 et=>⟨t,_,rfl,.inr (SqT.of et),λls Og=>?_⟩⟩;have s2:=s1.updR (o:=.lst ((bz w0 cl).map V.int)) Og;have QX:H ls=none:=s1.free Og;have eR:=aj (H:=H1) (a:=ls) (o:=.lst ((bz w0 cl).map V.int));generalize upd H1 ls (.lst ((bz w0 cl).map V.int))=H2 at s2 eR⊢;refine aD ?_;refine af _ _ ?_;clear af c_
  try dsimp only
  refine aP λc_ af=>?_;refine aY ?_;refine⟨_,rfl,_,rfl,lc,lo,xc,xo,rfl,rfl,s2 _ _ ec,s2 _ _ eo,by rw[Cn.1,pd.1,sizeLine_eq];lia,λlr jI=>?_⟩;have s3:=s2.updR (o:=.lst (xc++xo)) jI;have WX:H lr=none:=s2.free jI;have pe:=Same.upd (o:=.lst (xc++xo)) jI _ _ eR;have HP:=aj (H:=H2) (a:=lr) (o:=.lst (xc++xo))
  have QY:lr≠ls:=λz=>by rw[z,eR]at jI;cases jI
  generalize upd H2 lr (.lst (xc++xo))=H3 at s3 pe HP⊢;refine aD ?_;refine af _ _ ?_;clear af c_
  try dsimp only
  refine aP λc_ af=>?_;refine⟨_,rfl,_,rfl,_,rfl,ls,bz w0 cl,rfl,.inl (SqL.of pe),_,_,rfl,rfl,_,rfl,_,lo,xo,ow,rfl,s3 _ _ eo,pd.same s3,Of,Zz,λm H4 s4 nm em=>?_⟩;refine⟨ls,m,_,_,rfl,rfl,s4 _ _ pe,em,by rw[zA1,zA1,shares_len,d7,sizeLine_eq];lia,?_⟩;have xh:(bz w0 cl).map V.int++(bj (w0-(bz w0 cl).sum) ow).map V.int=(shr w0 cl ow).map V.int:=by unfold shr;rw[zA4]
  rw[xh]
  have xi:(shr w0 cl ow).length=(cl++ow).length:=by
   unfold shr;rw[zA2,zA2,shares_len,d7]
  generalize shr w0 cl ow=SH at q xi;refine af _ _ ?_;clear af c_
  try dsimp only
  have k5:Same H (upd H4 ls (.lst (SH.map V.int))):=λb o e=>by
   rw[az (aA e QX)];exact s4 _ _ (s3 _ _ e)
  have l7:=aj (H:=H4) (a:=ls) (o:=.lst (SH.map V.int));have ix:upd H4 ls (.lst (SH.map V.int)) lr=some (.lst (xc++xo)):=by rw[az QY];exact s4 _ _ HP
  generalize upd H4 ls (.lst (SH.map V.int))=H5 at k5 l7 ix⊢;have Ap:Els H (xc++xo) (cl++ow):=Cn.app pd;have Oh:∀r∈cl++ow,r.length=4:=λr hr=>(zA6.mp hr).elim (λz=>(Oe r z).1) (Of r);have QZ:(cl++ow).length<=20000:=by rw[zA2];lia
  generalize xc++xo=xr at ix Ap;generalize cl++ow=rr at q xi Ap Oh QZ;clear eR pe HP xh s1 s2 s3 s4 em et
  obtain⟨ZP,EC⟩:∃ZP,ZP=rr.zip SH:=⟨_,rfl⟩
  rw[<-EC]at q;have pj:ZP.length=rr.length:=by rw[EC,zAs,xi,Nat.min_self]
  have xt:∀i (h:i<ZP.length),rr[i]?=some ZP[i].1:=λi h=>by
   have hi:i<rr.length:=Zz
   rw[zA0 hi];congr 1;simp only[EC,List.getElem_zip]
  have Co:∀i (h:i<ZP.length),SH[i]?=some ZP[i].2:=λi h=>by
   have hi:i<SH.length:=Zz
   rw[zA0 hi];congr 1;simp only[EC,List.getElem_zip]
  have Cs:∀i (h:i<ZP.length),(ZP[i].1).length=4:=λi h=>Oh _ (zBg (xt i h));refine aP λc_ af=>?_;refine⟨_,rfl,_,rfl,lr,ls,xr,_,rfl,SqL.of ix,SqL.of l7,eF rr.length (λi ys σ Hc=>Same H5 Hc/\(∃o1 o2 o3 o4 o5,σ=[o1,o2,o3,o4,o5])/\Els Hc ys (dI (ZP.take i))) ⟨Same.refl _,⟨_,_,_,_,_,rfl⟩,Els.nil⟩ Zu ?_ ?_⟩
  .rintro i ys σ Hc hi hy ⟨sc,⟨o1,o2,o3,o4,o5,rfl⟩,ht⟩;have hP:i<ZP.length:=by rw[pj];exact hi
   obtain⟨tr,ex,et⟩:=Ap.2 i ZP[i].1 (xt i hP);have er:SqL K Hc lr xr:=SqL.of (sc _ _ ix);have es:SqL K Hc ls (SH.map V.int):=SqL.of (sc _ _ l7);have zS:(SH.map V.int)[i]?=some (.int ZP[i].2):=by rw[zAb,Co i hP];rfl
   have cb:ZP.take (i+1)=ZP.take i++[ZP[i]]:=by rw[zAj,zA0 hP];rfl
   have Ct:=sc _ _ (k5 _ _ et);rw[cY (Cs i hP)]at Ct;refine⟨⟨_,_,_,_,er,es,ex,zS⟩,λx H' yv R hR=>?_⟩;obtain⟨T0,nT,rfl,yv⟩:=yv;obtain⟨x',y',wq,xw,rfl⟩:=yv _ _ er es;rw[ex]at wq;cases wq;rw[zS]at xw;cases xw;have sf:=sc.updR (o:=.tup [.ref tr,.int ZP[i].2]) nT;refine⟨T0,_,rfl,SqT.of aj,rfl,_,_,rfl,?_⟩;refine⟨tr,_,rfl,SqT.of (Same.upd nT _ _ Ct),rfl,_,_,rfl,_,_,rfl,_,_,rfl,_,_,rfl,rfl,?_⟩;refine⟨_,_,rfl,rfl,?_⟩;refine⟨_,rfl,_,_,rfl,rfl,_,rfl,?_⟩;by_cases bp:0<ZP[i].2
   .rw[zAt bp];refine cC ⟨_,rfl,_,rfl,_,rfl,_,rfl,zL,λt fI=>hR _ _ _ (by rw[zA2];show ys.length+1<=i+1;lia) ⟨sf.updR fI,⟨_,_,_,_,_,rfl⟩,?_⟩⟩;rw[cb,rF,zAx bp];exact(((ht.same (Same.upd nT)).same (Same.upd fI))).app (Els.one aj)
   .rw[zB2 bp];refine bZ (hR _ _ _ Zz ⟨sf,⟨_,_,_,_,_,rfl⟩,?_⟩);rw[cb,rF,zAw bp,zAn];exact ht.same (Same.upd nT)
  rintro ys σ Hc hy ⟨sc,_,ht⟩;rw[<-pj,zAm]at ht;refine⟨⟨_,SqL.of (sc _ _ ix),by rw[Ap.1];exact zA3 _⟩,λg hg=>?_⟩;have k6:=(k5.trans sc).updR (o:=.lst ys) hg;have ng:H g=none:=(k5.trans sc).free hg;have eg:=aj (H:=Hc) (a:=g) (o:=.lst ys);have elg:=ht.same (Same.upd (o:=.lst ys) hg);have pE:=Same.upd (o:=.lst ys) hg _ _ (sc _ _ ix);have cx:=Same.upd (o:=.lst ys) hg _ _ (sc _ _ l7);generalize upd Hc g (.lst ys)=H6 at k6 eg elg pE cx⊢;clear sc ht hy l7 ix k5;refine af _ _ ?_;clear af c_
  try dsimp only
  refine aP λc_ af=>?_;refine⟨_,rfl,_,rfl,lr,ls,xr,_,rfl,SqL.of pE,SqL.of cx,eF rr.length (λi ys σ Hc=>Same H6 Hc/\(∃o1 o2 o3 o4 o5,σ=[o1,o2,o3,o4,o5])/\Els Hc ys (bW (ZP.take i))) ⟨Same.refl _,⟨_,_,_,_,_,rfl⟩,Els.nil⟩ Zu ?_ ?_⟩
  .rintro i ys σ Hc hi hy ⟨sc,⟨o1,o2,o3,o4,o5,rfl⟩,ht⟩;have hP:i<ZP.length:=by rw[pj];exact hi
   obtain⟨tr,ex,et⟩:=Ap.2 i ZP[i].1 (xt i hP);have er:SqL K Hc lr xr:=SqL.of (sc _ _ pE);have es:SqL K Hc ls (SH.map V.int):=SqL.of (sc _ _ cx);have zS:(SH.map V.int)[i]?=some (.int ZP[i].2):=by rw[zAb,Co i hP];rfl
   have cb:ZP.take (i+1)=ZP.take i++[ZP[i]]:=by rw[zAj,zA0 hP];rfl
   have Ct:=sc _ _ (k6 _ _ et);rw[cY (Cs i hP)]at Ct;refine⟨⟨_,_,_,_,er,es,ex,zS⟩,λx H' yv R hR=>?_⟩;obtain⟨T0,nT,rfl,yv⟩:=yv;obtain⟨x',y',wq,xw,rfl⟩:=yv _ _ er es;rw[ex]at wq;cases wq;rw[zS]at xw;cases xw;have sf:=sc.updR (o:=.tup [.ref tr,.int ZP[i].2]) nT;refine⟨T0,_,rfl,SqT.of aj,rfl,_,_,rfl,?_⟩;refine⟨tr,_,rfl,SqT.of (Same.upd nT _ _ Ct),rfl,_,_,rfl,_,_,rfl,_,_,rfl,_,_,rfl,rfl,?_⟩;refine⟨_,_,rfl,rfl,?_⟩;refine⟨_,rfl,_,rfl,_,_,rfl,rfl,_,rfl,?_⟩;by_cases bp:ZP[i].2<fl ZP[i].1 3
   .rw[zAt bp];refine cC ⟨_,rfl,_,rfl,_,rfl,_,rfl,_,rfl,_,_,rfl,rfl,zL,λt fI=>hR _ _ _ (by rw[zA2];show ys.length+1<=i+1;lia) ⟨sf.updR fI,⟨_,_,_,_,_,rfl⟩,?_⟩⟩;rw[cb,pI,zAx bp];exact(((ht.same (Same.upd nT)).same (Same.upd fI))).app (Els.one aj)
   .rw[zB2 bp];refine bZ (hR _ _ _ Zz ⟨sf,⟨_,_,_,_,_,rfl⟩,?_⟩);rw[cb,pI,zAw bp,zAn];exact ht.same (Same.upd nT)
  rintro HU σ Hc hy ⟨sc,_,ht⟩;rw[<-pj,zAm]at ht;refine⟨⟨_,SqL.of (sc _ _ pE),by rw[Ap.1];exact zA3 _⟩,λk hk=>?_⟩;have k7:=(k6.trans sc).updR (o:=.lst HU) hk;have nk:H k=none:=(k6.trans sc).free hk;have sk:=Same.upd (o:=.lst HU) hk;refine af _ _ ?_;clear af c_
  try dsimp only
  refine⟨_,rfl,_,rfl,zL,λt fI=>?_⟩;have st:=Same.upd (o:=.tup [.ref g,.ref k]) fI;exact q t g k ys HU _ (k7.trans st) aj ng nk (st _ _ (sk _ _ (sc _ _ eg))) (((elg.same sc).same sk).same st) (st _ _ aj) ((ht.same sk).same st)
def dO(L:PP)(i:Nat):PK:=((List.range i).filter λh=>decide (0<L.getD h 0)).map λ(h:Nat)=>[(h:Int),L.getD h 0]
theorem mH(L:PP)(i:Nat):dO L (i+1)=dO L i++(if 0<L.getD i 0 then[[(i:Int),L.getD i 0]]else[]):=by
 unfold dO;rw[Za6,Zao,zA4];congr 1;by_cases h:0<L.getD i 0
 .rw[zAx h,zBe (p:=λh=>decide (0<L.getD h 0)) (zAt h)];rfl
 .rw[zAw h,zBa (p:=λh=>decide (0<L.getD h 0)) (by rw[Zq];exact h)];rfl
theorem xf(L:PP)(i:Nat):(dO L i).length<=i:=by
 unfold dO;rw[zA1];have:=List.length_filter_le (λh=>decide (0<L.getD h 0)) (List.range i);rw[Zad]at this;exact this
def iC(ps ss:PK)(sort year:Int)(n:Nat):PK:=if fl (ps.getD n []) 1=sort then(dO (bL (ps.getD n []) ss n year) 8).map (λr=>year::(n:Int)::r)else[]
def iz(ps ss:PK)(sort year:Int):Nat->PK
 |0=>[]
 |k+1=>iz ps ss sort year k++iC ps ss sort year k
def aF(ps ss:PK)(sort year:Int):PK:=iz ps ss sort year ps.length
theorem Dv(ps ss:PK)(sort year:Int)(n:Nat):(iC ps ss sort year n).length<=8:=by
 unfold iC;split
 .rw[zA1];exact xf _ 8
 .exact zAp _
theorem kE(ps ss:PK)(sort year:Int):∀k,(iz ps ss sort year k).length<=8*k
 |0=>zA3 _
 |k+1=>by
  unfold iz;rw[zA2];have:=kE ps ss sort year k;have:=Dv ps ss sort year k;lia
inductive SpClaimsI(vs:List V)(H:Hp)(Q:VK):Prop
 |mk:∀ap xp ps ai xs ss sort year,(vs=[.ref ap,.ref ai,.int sort,.int year])->(RowsAt H ap xp ps)->(ps.length<=10)->((∀r∈ps,okP r))->(RowsAt H ai xs ss)->(ss.length<=12)->((∀s∈ss,okS s))->(∀l xl H',Same H H'->H l=none->H' l=some (.lst xl)->Els H' xl (aF ps ss sort year)->Q (.ref l) H')->SpClaimsI  vs H Q
def pJ:Sp:=λvs H Q _=>SpClaimsI  vs H Q
theorem ndV:(["holder","sacks","year","number"]:List Str).Nodup:=by decide +kernel
theorem scV1:FnScope ["promises","sales","sort","year","claims","number","promise","held"] ["promises","sales","sort","year"] (aJ (top 44)):=fQS
theorem Ax(F:Fun K "claims_in" "claims_in" (top 44) f fd)(Te:mg "enumerate"=none)(c1:Cal P w K mg base 1 "held_in" ["promises","sales","number","year"] wZ):FnOk P w K mg base CX0 2 f fd ["promises","sales","sort","year"] pJ:=by
 refine F.ok scV1 (λvs H Q E h=>?_) (λay A outer s H vs Q E hr h=>?_)
 .obtain⟨ap,xp,ps,ai,xs,ss,sort,year,rfl,_⟩:=h;rfl
 .obtain⟨ap,xp,ps,ai,xs,ss,sort,year,rfl,rp,lp,okp,rs,ls,de,q⟩:=h
  refine⟨_,aC (pss 4 scV1.nd (cJ ao))
   (aC (bU zB3 rfl (ZT.pi_enum true rfl Te (au (pv 0) ao)) (bG rfl (aq (bC (i:=5) scV1.nd rfl (Or.inr rfl)) (aq (pgn 6 scV1.nd) bf)))
    (aG (dh (bT jH (pX bR (pv 6) aB) (pv 2) (bQ _))
     (aC (pss 7 scV1.nd (aK c1 hr (au (pv 0) (au (pv 1) (au (pv 5) (au (pv 3) ao))))))
     (aG (nP (i:=4) scV1.nd rfl (Or.inl rfl) (bB (g:=lu K 2 (cG (bK 0) (cG (bK 1) mK))) ["holder","sacks","year","number"] [none,none,some 3,some 5] rfl (ZT.pi_enum false rfl Te (au (pv 7) ao))
      (λC fp Zt s₂ H₂=>⟨dY rfl rfl (aq (pgn 0 ndV) (aq (pgn 1 ndV) bf)),fP (bT lZ (pv 1) aB (bQ _)),bO (au (pv 2) (au (pv 3) (au (pv 0) (au (pv 1) ao))))⟩)
      (λC=>cI (cI trivial)) ⟨rfl,rfl,rfl,rfl⟩) tV))) bN)))
   (aG (aW (pv 4)))),?_⟩
  refine aQ (aY ?_);refine⟨zL,λl hl=>?_⟩;refine aD ?_;dsimp only;refine aQ ?_;have s0:=Same.upd (o:=.lst []) hl;refine⟨_,rfl,ap,xp,rfl,SqT.of (s0 _ _ rp.e),?_⟩;refine ZT.for_enum true (xs:=xp) (λi σ Hc=>Xe4 λx5 x6 x7 xl=>Xa4 (σ=[some (.ref ap),some (.ref ai),some (.int sort),some (.int year),some (.ref l),x5,x6,x7]) ((∀b o,H b=some o->Hc b=some o)) (Hc l=some (.lst xl)) (Els Hc xl (iz ps ss sort year i))) ?_ ?_ ?_ ?_
  .exact⟨none,none,none,[],rfl,λb o e=>s0 _ _ e,aj,Els.nil⟩
  .rintro i σ Hc hi ⟨x5,x6,x7,xl,rfl,k,el,ht⟩;exact SqT.of (k _ _ rp.e)
  .rintro i x σ Hc T0 hx ⟨x5,x6,x7,xl,rfl,k,el,ht⟩ nT
   have hi:i<ps.length:=by
    have:=(zAa.mp hx).1;rw[rp.l]at this;exact this
   obtain⟨tr,fz,eW⟩:=rp.g i ps[i] (zA0 hi)
   have:x=.ref tr:=by
    rw[hx]at fz;exact zAl fz
   subst this;have op:=okp ps[i] (zAh hi);have ep:ps.getD i []=ps[i]:=getD_get hi;rw[dZ op.1]at eW;have sT:=Same.upd (o:=.tup [V.int i,V.ref tr]) nT;have kT:Same H (upd Hc T0 (.tup [V.int i,V.ref tr])):=λb o e=>sT _ _ (k _ _ e);have As:=sT _ _ el;have Au:=ht.same sT;have eT:=aj (H:=Hc) (a:=T0) (o:=.tup [V.int i,V.ref tr]);generalize upd Hc T0 (.tup [V.int i,V.ref tr])=H1 at kT As Au eT⊢;refine⟨T0,_,rfl,SqT.of eT,rfl,_,_,rfl,_,_,rfl,rfl,?_⟩;refine⟨_,rfl,tr,_,1,.int (fl ps[i] 1),rfl,rfl,SqT.of (kT _ _ eW),rfl,_,rfl,rfl,_,rfl,?_⟩;by_cases hs:fl ps[i] 1=sort
   .rw[zAt (by rw[hs])];refine cC (aQ ?_);refine aY ?_;refine⟨_,rfl,_,rfl,_,rfl,_,rfl,ap,xp,ps,ai,xs,ss,i,year,rfl,rp.same kT,rs.same kT,Zz,Zz,by rw[zAi,ep];exact op,ls,de,λhd H2 s2 e2=>?_⟩;rw[zAi,ep]at e2;have ED:=eU ps[i] ss i year
    have ki:iC ps ss sort year i=(dO (bL ps[i] ss i year) 8).map (λr=>year::(i:Int)::r):=by
     unfold iC;rw[ep,zAx hs]
    generalize bL ps[i] ss i year=L at e2 ED ki;have k2:=kT.trans s2;have el2:=s2 _ _ As;have nI:=Au.same s2;refine aD ?_;dsimp only;refine⟨_,rfl,_,rfl,hd,_,rfl,SqL.of e2,eF 8 (λj ys σ Hj=>Same H2 Hj/\(∃o1 o2,σ=[o1,o2,some (.int year),some (.int i)])/\Els Hj ys ((dO L j).map (λr=>year::(i:Int)::r))) ⟨Same.refl _,⟨_,_,rfl⟩,Els.nil⟩ (by rw[sizeLine_eq];decide) ?_ ?_⟩
    .rintro j ys σ Hj hj hy ⟨sc,⟨o1,o2,rfl⟩,ko⟩;have gN:SqL K Hj hd (L.map V.int):=SqL.of (sc _ _ e2)
     have CA:(L.map V.int)[j]?=some (.int (L.getD j 0)):=by
      have df:j<L.length:=Zz
      rw[zAb,zA7,zA0 df];rfl
     refine⟨⟨_,_,gN,CA⟩,λx H' yv R hR=>?_⟩;obtain⟨T1,CB,rfl,yv⟩:=yv;obtain⟨x',gp,rfl⟩:=yv _ gN;rw[CA]at gp;cases gp;have sf:=sc.updR (o:=.tup [.int (j:Int),.int (L.getD j 0)]) CB;refine⟨T1,_,rfl,SqT.of aj,rfl,_,_,rfl,_,_,rfl,rfl,?_⟩;refine⟨_,rfl,_,_,rfl,rfl,_,rfl,?_⟩;by_cases bp:0<L.getD j 0
     .rw[zAt bp];refine cC ⟨_,rfl,_,rfl,_,rfl,_,rfl,zL,λt fI=>hR _ _ _ (by rw[zA2];show ys.length+1<=j+1;lia) ⟨sf.updR fI,⟨_,_,rfl⟩,?_⟩⟩;rw[mH,zAx bp,zA4];exact((ko.same (Same.upd CB)).same (Same.upd fI)).app (Els.one aj)
     .rw[zB2 bp];refine bZ (hR _ _ _ Zz ⟨sf,⟨_,_,rfl⟩,?_⟩);rw[mH,zAw bp,zAn];exact ko.same (Same.upd CB)
    .rintro ys σ Hj hy ⟨sc,_,ko⟩;refine⟨⟨_,SqL.of (sc _ _ e2),by rw[zA1];lia⟩,λD hD=>?_⟩;have sD:=sc.updR (o:=.lst ys) hD
     have nD:D≠l:=λz=>by rw[z,sc _ _ el2]at hD;cases hD
     have ll:=kE ps ss sort year i;have:=ht.1;refine⟨l,D,xl,ys,rfl,rfl,sD _ _ el2,aj,by rw[sizeLine_eq];lia,?_⟩;refine⟨_,_,_,xl++ys,rfl,λb o e=>?_,aj,?_⟩
     .rw[az (aA e hl)];exact sD _ _ (k2 _ _ e)
     .have e3:=(nI.same sD).app (ko.same (Same.upd (o:=.lst ys) hD));rw[<-ki]at e3;refine e3.keep λb z e=>?_;rw[az λw=>by rw[w,sD _ _ el2]at e;cases e];exact e
   .rw[zB2 (λz=>hs (by injection z))];refine bZ ?_;refine⟨_,_,_,xl,rfl,λb o e=>kT _ _ e,As,?_⟩
    have:iz ps ss sort year (i+1)=iz ps ss sort year i:=by
     show iz ps ss sort year i++iC ps ss sort year i=_;unfold iC;rw[ep,zAw hs,zAn]
    rw[this];exact Au
  .rintro σ Hc ⟨x5,x6,x7,xl,rfl,k,el,ht⟩;rw[show xp.length=ps.length from rp.l]at ht;exact⟨_,rfl,q l xl Hc (λb o e=>k b o e) hl el ht⟩
theorem sum_set:∀(L:PP) (i:Nat) (a:Int),i<L.length->(L.set i a).sum=L.sum-L.getD i 0+a
 |[],i,a,h=>by simp at h
 |x::L,0,a,h=>by
  rw[List.set_cons_zero,Zag,Zag,List.getD_cons_zero];lia
 |x::L,i+1,a,h=>by
  rw[List.set_cons_succ,Zag,Zag,List.getD_cons_succ,sum_set L i a (by simpa using h)];lia
theorem vB{i v:Int}(h:i.toNat<L.length):(jB L i v).sum=L.sum+v:=by
 unfold jB;rw[sum_set _ _ _ h];lia
theorem iy:∀{L:PP},(∀x∈L,0<=x)->0<=L.sum/\∀x∈L,x<=L.sum
 |[],_=>⟨Int.le_refl _,λx hx=>by cases hx⟩
 |y::L,h=>by
  obtain⟨h1,h2⟩:=iy (L:=L) λx hx=>h x (.tail _ hx);have hy:=h y (.head _);rw[Zag];refine⟨Zz,λx hx=>?_⟩;rcases zAo.mp hx with z|z
  .lia
  .have:=h2 x z;lia
theorem jh(h:∀x∈L,0<=x)(i:Nat):0<=L.getD i 0:=by
 rw[zA7]
 cases e:L[i]? with
 |none=>exact Int.le_refl _
 |some y=>exact h y (zBg e)
theorem yN{i v:Int}(h:∀x∈L,0<=x)(hv:0<=L.getD i.toNat 0+v):∀x∈jB L i v,0<=x:=by
 intro x hx;unfold jB at hx;rcases List.mem_or_eq_of_mem_set hx with z|z
 .exact h x z
 .rw[z];exact hv
theorem Dw(h:un ps ss=none):∀j,j<ss.length->dN ps (ss.take j) (ss.getD j [])=true:=λj hj=>by
 unfold un at h;have:=List.find?_eq_none.mp h j (Za5.mpr hj);simpa using this
theorem Gv{n:Nat}{y:Int}(hu:un ps ss=none)(h5:∀s∈ss,s.length=5)(op:okP (ps.getD n [])):
  ∀k,k<=ss.length->(∀x∈bL (ps.getD n []) (ss.take k) n y,0<=x)/\(bL (ps.getD n []) (ss.take k) n y).sum<=99:=by
 intro k;by_cases hy:fl (ps.getD n []) 2<=y/\y<=fl (ps.getD n []) 3
 .obtain⟨_,⟨a1,a2⟩,_,_,⟨e1,e2⟩,_⟩:=id op
  induction k with
  |zero=>
   intro _;rw[Zay];unfold bL;rw[zAx hy];show(∀x∈base0 (ps.getD n []),0<=x)/\(base0 (ps.getD n [])).sum<=99;unfold base0;refine⟨λx hx=>?_,?_⟩
   .rcases List.mem_or_eq_of_mem_set hx with z|z
    .rw[List.eq_of_mem_replicate z];exact Int.le_refl _
    .lia
   .rw[sum_set _ _ _ (by rw[List.length_replicate];lia)];have:(List.replicate 8 (0:Int)).sum=0:=rfl
    have e:(List.replicate 8 (0:Int)).getD (fl (ps.getD n []) 0).toNat 0=0:=by
     rw[zA7,List.getElem?_replicate,zAx Zz];rfl
    rw[this,e];lia
  |succ k ih=>
   intro hk;have df:k<ss.length:=Zz
   obtain⟨i1,i2⟩:=ih Zz;have hB:=Dw hu k df;rw[getD_get df]at hB;have cb:ss.take (k+1)=ss.take k++[ss[k]]:=by rw[zAj,zA0 df];rfl
   have eh:bL (ps.getD n []) (ss.take (k+1)) n y=hstep n y (bL (ps.getD n []) (ss.take k) n y) ss[k]:=by
    unfold bL;rw[zAx hy,zAx hy,cb,List.foldl_append];rfl
   have Q0:=kh (h5 _ (zAh df)) hB;obtain⟨_,⟨b1,b2⟩,c1,c2⟩:=Q0;have hl:=eU (ps.getD n []) (ss.take k) n y;rw[eh];unfold hstep;by_cases hc:fl ss[k] 0=n/\fl ss[k] 4<=y
   .rw[zAx hc];unfold dN at hB;rw[zAc]at hB;obtain⟨AB,iq⟩:=hB
    have ep:pF ps ss[k]=ps.getD n []:=by
     unfold pF;rw[hc.1,zAi]
    have rL:fl ss[k] 3<=(bL (ps.getD n []) (ss.take k) n y).getD (fl ss[k] 1).toNat 0:=by
     have:=Zaf.mp iq y (by
      unfold years;refine zA5.mpr ⟨(y-fl ss[k] 4).toNat,Za5.mpr ?_,?_⟩
      .rw[ep];lia
      .lia)
     have:=zB6 this;rw[ep,hc.1]at this;exact this
    unfold qu at AB;simp only[Bool.and_eq_true,Zq,Bool.not_eq_true',decide_eq_false_iff_not]at AB;obtain⟨_,_,_,HV,⟨v1,v2⟩,_⟩:=AB;generalize bL (ps.getD n []) (ss.take k) n y=L at i1 i2 hl rL;have n1:=yN (i:=fl ss[k] 1) (v:=-(fl ss[k] 3)) i1 Zz;refine⟨yN n1 ?_,?_⟩
    .have:=jh n1 (fl ss[k] 2).toNat;lia
    .rw[vB (by rw[iW];lia),vB Zz];lia
   .rw[zAw hc];exact⟨i1,i2⟩
 .intro _;unfold bL;rw[zAw hy];refine⟨λx hx=>by rw[List.eq_of_mem_replicate hx];exact Int.le_refl _,by decide⟩
theorem HW{sort year:Int}(hu:un ps ss=none)(h5:∀s∈ss,s.length=5)(okp:∀r∈ps,okP r):∀k,k<=ps.length->∀r∈iz ps ss sort year k,r.length=4/\1<=fl r 3/\fl r 3<=99/\fl r 0=year/\0<=fl r 1/\fl r 1<k:=by
 intro k
 induction k with
 |zero=>intro _ r hr;cases hr
 |succ k ih=>
  intro hk r hr;rcases zA6.mp (show r∈iz ps ss sort year k++iC ps ss sort year k from hr)with z|z
  .obtain⟨h1,h2,h3,h4,h6,h7⟩:=ih Zz r z;exact⟨h1,h2,h3,h4,h6,Zz⟩
  .unfold iC at z;split at z
   .obtain⟨q,hq,rfl⟩:=zA5.mp z;unfold dO at hq;obtain⟨h,hh,rfl⟩:=zA5.mp hq;have hp:=zB6 (zAq.mp hh).2;have df:k<ps.length:=Zz
    obtain⟨a,b⟩:=Gv (n:=k) (y:=year) hu h5 (by rw[getD_get df];exact okp _ (zAh df)) ss.length (zA3 _);rw[zAm]at a b
    have le:(bL (ps.getD k []) ss k year).getD h 0<=99:=by
     rw[zA7]at hp⊢
     cases e:(bL (ps.getD k []) ss k year)[h]? with
     |none=>show(0:Int)<=99;decide
     |some y=>
      have:=(iy a).2 y (zBg e);show y<=99;lia
    refine⟨rfl,?_,le,rfl,?_,?_⟩
    .show 1<=(bL (ps.getD k []) ss k year).getD h 0;lia
    .show(0:Int)<=(k:Int);lia
    .show(k:Int)<((k+1:Nat):Int);lia
   .cases z
end K41
namespace K41P
open PySem L2
theorem sum_set:∀{l:PP} {i:Nat} {x:Int},i<l.length->(l.set i (l.getD i 0+x)).sum=l.sum+x
 |a::l,0,x,_=>by simp;lia
 |a::l,i+1,x,h=>by
  have:=sum_set (l:=l) (i:=i) (x:=x) (by simpa using h);simp only[List.set_cons_succ,List.sum_cons,List.getD_cons_succ];lia
theorem rG:∀(pl:List Nat) (l:PP),(∀i∈pl,i<l.length)->(du l pl).sum=l.sum+pl.length
 |[],l,_=>by simp[du]
 |i::pl,l,h=>by
  show(du (l.set i (l.getD i 0+1)) pl).sum=_;rw[rG pl _ λj hj=>by rw[List.length_set];exact h j (.tail _ hj),sum_set (h i (.head _)),zAe];lia
theorem res_sum{n:Int}{ws:PP}(ok:OkW ws):(res n ws).sum=n:=by
 have o:=(j5 (rs n ws)).choose_spec;have hl:=o.len;rw[jC]at hl;have l0:=yK (n:=n) ok;have l1:=Do (n:=n) ok;unfold res;rw[rG _ _ λi hi=>by rw[pH];have:=o.lt i (Zaq hi);rw[jC]at this;exact this,zAd,Nat.min_eq_left Zz];have:lf n ws=n-(fs n ws).sum:=rfl;lia
end K41P
namespace K41
open PySem L2
variable{H:Hp}{sort:Int}{G M cl ow ps ss:PK}{c:PP}
theorem pK:∀{w:Int} {rs:PK},0<=w->(∀r∈rs,0<=fl r 3)->(∀x∈bj w rs,0<=x)/\0<=(bj w rs).sum/\(bj w rs).sum<=w
 |w,[],h,_=>⟨λx hx=>(by cases hx),Int.le_refl _,h⟩
 |w,r::rs,h,hr=>by
  have h3:=hr r (.head _);unfold bj;by_cases hc:w<fl r 3
  .rw[zAx hc];obtain⟨a,b,c⟩:=pK (w:=w-w) (rs:=rs) Zz λq hq=>hr q (.tail _ hq);refine⟨λx hx=>?_,by rw[Zag];lia,by rw[Zag];lia⟩;rcases zAo.mp hx with z|z
   .lia
   .exact a x z
  .rw[zAw hc];obtain⟨a,b,c⟩:=pK (w:=w-fl r 3) (rs:=rs) Zz λq hq=>hr q (.tail _ hq);refine⟨λx hx=>?_,by rw[Zag];lia,by rw[Zag];lia⟩;rcases zAo.mp hx with z|z
   .lia
   .exact a x z
theorem yO:∀{rs:PK} {sh:PP},sh.length=rs.length->(∀x∈sh,0<=x)->aN (dI (rs.zip sh))=sh.sum
 |[],[],_,_=>rfl
 |[],_::_,h,_=>by simp at h
 |_::_,[],h,_=>by simp at h
 |r::rs,x::sh,h,hn=>by
  have ih:=yO (rs:=rs) (sh:=sh) (by simpa using h) λy hy=>hn y (.tail _ hy);have hx:=hn x (.head _);rw[Za0,Zag,<-ih];unfold dI;by_cases hp:0<x
  .rw[zBe (p:=λ(p:PP×Int)=>decide (0<p.2)) (zAt hp),zAk];unfold aN wts;rw[zAk,Zag];rfl
  .rw[zBa (p:=λ(p:PP×Int)=>decide (0<p.2)) (by rw[Zq];exact hp)];have:x=0:=Zz
   rw[this,Zas]
theorem Dy{w:Int}(hw:0<=w)(hc:∀r∈cl,r.length=4/\1<=fl r 3/\fl r 3<=99)(hz:cl.length<=80)(ho:∀r∈ow,0<=fl r 3):(∀x∈shr w cl ow,0<=x)/\0<=(shr w cl ow).sum/\(shr w cl ow).sum<=w:=by
 have hs:(∀x∈bz w cl,0<=x)/\(bz w cl).sum<=w:=by
  unfold bz;by_cases h:(wts cl).sum<=w
  .rw[zAx h];refine⟨λx hx=>?_,h⟩;obtain⟨r,hr,rfl⟩:=zA5.mp hx;have:=(hc r hr).2.1;lia
  .rw[zAw h]
   have ok:K41P.OkW (wts cl):=by
    refine⟨?_,by unfold wts;rw[zA1];exact hz,λx hx=>?_⟩
    .cases kF:cl with
     |nil=>
      rw[kF]at h;exact absurd hw h
     |cons r xb=>
      unfold wts;rw[zA1,zAe];lia
    .obtain⟨r,hr,rfl⟩:=zA5.mp hx;exact(hc r hr).2
   refine⟨λx hx=>?_,by rw[K41P.res_sum ok];exact Int.le_refl _⟩;obtain⟨i,hi,e⟩:=List.getElem_of_mem hx;have hX:i<(wts cl).length:=by rw[K41P.res_len]at hi;exact hi
   exact(K41P.res_get ok hw Zz (i:=i) (r:=x) (w:=(wts cl)[i]) (by rw[zA0 hi,e]) (zA0 hX)).1
 obtain⟨h1,h2⟩:=hs;have h3:=(iy h1).1;obtain⟨m1,m2,m3⟩:=pK (w:=w-(bz w cl).sum) (rs:=ow) Zz ho;unfold shr;refine⟨λx hx=>(zA6.mp hx).elim (h1 x) (m1 x),?_,?_⟩
 .rw[List.sum_append];lia
 .rw[List.sum_append];lia
theorem ug{w:Int}(hw:0<=w)(hc:∀r∈cl,r.length=4/\1<=fl r 3/\fl r 3<=99)(hz:cl.length<=80)(ho:∀r∈ow,0<=fl r 3):aN (dI ((cl++ow).zip (shr w cl ow)))=(shr w cl ow).sum/\0<=w-aN (dI ((cl++ow).zip (shr w cl ow))):=by
 obtain⟨a,b,c⟩:=Dy hw hc hz ho;have e:=yO (rs:=cl++ow) (sh:=shr w cl ow) (by unfold shr;rw[zA2,zA2,shares_len,d7]) a;exact⟨e,by rw[e];lia⟩
def rle(a b:PP):Bool:=!HT.lexLt b a
theorem Dz(a b c:PP)(h1:rle a b=true)(h2:rle b c=true):rle a c=true:=by
 unfold rle at *;rw[Za4]at *
 cases h:HT.lexLt c a with
 |false=>rfl
 |true=>
  rcases yx c b a h with z|z
  .rw[z]at h2;cases h2
  .rw[z]at h1;cases h1
theorem yP(a b:PP):(rle a b||rle b a)=true:=by
 unfold rle
 cases h:HT.lexLt b a with
 |false=>rfl
 |true=>
  cases h':HT.lexLt a b with
  |false=>rfl
  |true=>
   have:=tU a b a h' h;rw[tR]at this;cases this
def srt(rs:PK):PK:=rs.mergeSort rle
theorem gO{rs xb:PK}(pm:xb.Perm rs)(so:xb.Pairwise (λa b=>HT.lexLt b a=false)):xb=srt rs:=by
 have pS:xb.Pairwise (λa b=>rle a b=true):=so.imp λ{a b} h=>by unfold rle;rw[h];rfl
 refine List.Perm.eq_of_pairwise (le:=λa b=>rle a b=true) (λa b _ _ h1 h2=>?_) pS (List.pairwise_mergeSort Dz yP rs) (pm.trans (List.mergeSort_perm rs rle).symm);unfold rle at h1 h2;rw[Za4]at h1 h2;exact nu a b h2 h1
structure Yr where
 g:PK
 k:PK
 l:PP
 d:Int
def aH(ps ow:PK)(sort:Int):PK:=ow.filter λr=>decide (fl (ps.getD (fl r 1).toNat []) 1=sort)
def Lh(c:PP)(ps ss ow:PK)(y:Int)(a:Yr)(sort:Nat):Yr:=
 ⟨a.g++dI ((aF ps ss sort y++aH ps ow sort).zip (shr (c.getD sort 0+a.d) (aF ps ss sort y) (aH ps ow sort))),
  a.k++bW ((aF ps ss sort y++aH ps ow sort).zip (shr (c.getD sort 0+a.d) (aF ps ss sort y) (aH ps ow sort))),
  a.l++[c.getD sort 0+a.d-aN (dI ((aF ps ss sort y++aH ps ow sort).zip (shr (c.getD sort 0+a.d) (aF ps ss sort y) (aH ps ow sort))))],
  c.getD sort 0+a.d-aN (dI ((aF ps ss sort y++aH ps ow sort).zip (shr (c.getD sort 0+a.d) (aF ps ss sort y) (aH ps ow sort))))⟩
def yTo(c:PP)(ps ss ow:PK)(y:Int):Nat->Yr
 |0=>⟨[],[],[],0⟩
 |n+1=>Lh c ps ss ow y (yTo c ps ss ow y n) n
def okO(ps:PK)(r:PP):Prop:=r.length=4/\0<=fl r 1/\fl r 1<ps.length/\1<=fl r 3
theorem j6(h:∀r∈ow,okO ps r):∀r∈aH ps ow sort,okO ps r:=λr hr=>h r (zAq.mp hr).1
theorem rH(ps ow:PK)(sort:Int):(aH ps ow sort).length<=ow.length:=List.length_filter_le _ _
theorem dU{year:Int}(hu:un ps ss=none)(h5:∀s∈ss,s.length=5)(okp:∀r∈ps,okP r):∀r∈aF ps ss sort year,r.length=4/\1<=fl r 3/\fl r 3<=99:=λr hr=>by
 obtain⟨a,b,c,_⟩:=HW (sort:=sort) (year:=year) hu h5 okp ps.length (zA3 _) r hr;exact⟨a,b,c⟩
theorem cQ{year:Int}(h:ps.length<=10):(aF ps ss sort year).length<=80:=by
 have:=kE ps ss sort year ps.length;unfold aF;lia
theorem DG{c:PP}{ps ss ow:PK}{y:Int}(hc:∀x∈c,0<=x)(hu:un ps ss=none)(h5:∀s∈ss,s.length=5)(okp:∀r∈ps,okP r)(hl:ps.length<=10)(ho:∀r∈ow,okO ps r):∀n,0<=(yTo c ps ss ow y n).d
 |0=>Int.le_refl _
 |n+1=>by
  have ih:=DG (y:=y) hc hu h5 okp hl ho n
  have hw:0<=c.getD n 0+(yTo c ps ss ow y n).d:=by
   have:=jh hc n;lia
  exact(ug hw (dU hu h5 okp) (cQ hl) λr hr=>by have:=(j6 ho r hr).2.2.2;lia).2
theorem yQ(P:List (PP×Int)):(dI P).length<=P.length:=by
 unfold dI;rw[zA1];exact List.length_filter_le _ _
theorem pL(P:List (PP×Int)):(bW P).length<=P.length:=by
 unfold bW;rw[zA1];exact List.length_filter_le _ _
theorem DK{c:PP}{ps ss ow:PK}{y:Int}(hl:ps.length<=10):∀n,(yTo c ps ss ow y n).g.length<=n*(80+ow.length)/\(yTo c ps ss ow y n).k.length<=n*(80+ow.length)/\(yTo c ps ss ow y n).l.length=n
 |0=>⟨zAp _,zAp _,rfl⟩
 |n+1=>by
  obtain⟨a,b,d⟩:=DK (c:=c) (ss:=ss) (ow:=ow) (y:=y) hl n;have h1:=cQ (ss:=ss) (sort:=n) (year:=y) hl;have h2:=rH ps ow n
  have hz:∀sh:PP,((aF ps ss n y++aH ps ow n).zip sh).length<=80+ow.length:=λsh=>by
   rw[zAs,zA2];lia
  rw[Nat.succ_mul];refine⟨?_,?_,?_⟩
  .show((yTo c ps ss ow y n).g++dI _).length<=_;rw[zA2];have:=yQ ((aF ps ss n y++aH ps ow n).zip (shr (c.getD n 0+(yTo c ps ss ow y n).d) (aF ps ss n y) (aH ps ow n)));have:=hz (shr (c.getD n 0+(yTo c ps ss ow y n).d) (aF ps ss n y) (aH ps ow n));lia
  .show((yTo c ps ss ow y n).k++bW _).length<=_;rw[zA2];have:=pL ((aF ps ss n y++aH ps ow n).zip (shr (c.getD n 0+(yTo c ps ss ow y n).d) (aF ps ss n y) (aH ps ow n)));have:=hz (shr (c.getD n 0+(yTo c ps ss ow y n).d) (aF ps ss n y) (aH ps ow n));lia
  .show((yTo c ps ss ow y n).l++[_]).length=n+1;rw[zA2,d];rfl
theorem y_row{c:PP}{ps ss ow:PK}{y:Int}:∀n,(∀r∈(yTo c ps ss ow y n).g,r.length=4)/\∀r∈(yTo c ps ss ow y n).k,r.length=4
 |0=>⟨λr hr=>(by cases hr),λr hr=>(by cases hr)⟩
 |n+1=>by
  obtain⟨a,b⟩:=y_row (c:=c) (ps:=ps) (ss:=ss) (ow:=ow) (y:=y) n;refine⟨λr hr=>?_,λr hr=>?_⟩
  .rcases zA6.mp (show r∈(yTo c ps ss ow y n).g++dI _ from hr)with z|z
   .exact a r z
   .obtain⟨p,_,rfl⟩:=zA5.mp z;rfl
  .rcases zA6.mp (show r∈(yTo c ps ss ow y n).k++bW _ from hr)with z|z
   .exact b r z
   .obtain⟨p,_,rfl⟩:=zA5.mp z;rfl
def vInt:V->Int
 |.int i=>i
 |_=>0
def gA(H:Hp)(a:Addr):PP:=match H a with
 |some (.tup xs)=>xs.map vInt
 |_=>[]
theorem Gw{a:Addr}{r:PP}(e:H a=some (.tup (r.map V.int))):gA H a=r:=by
 unfold gA;rw[e];show(r.map V.int).map vInt=r;rw[zAr];exact List.map_id _
theorem ji{H:Hp}:∀{xs:List V} {rs:PK},Els H xs rs->∃ads:List Addr,xs=ads.map V.ref/\rs=ads.map (gA H)/\∀a∈ads,H a=some (.tup ((gA H a).map V.int))
 |[],[],_=>⟨[],rfl,rfl,λa ha=>(by cases ha)⟩
 |[],_::_,h=>by have:=h.1;simp at this
 |_::_,[],h=>by have:=h.1;simp at this
 |x::xs,r::rs,h=>by
  obtain⟨t,e1,e2⟩:=h.2 0 r rfl;rw[List.getElem?_cons_zero]at e1;cases e1
  obtain⟨ads,f1,f2,f3⟩:=ji (xs:=xs) (rs:=rs) ⟨by have:=h.1;simpa using this,λi q e=>by
   obtain⟨u,g1,g2⟩:=h.2 (i+1) q (by rw[List.getElem?_cons_succ];exact e);rw[List.getElem?_cons_succ]at g1
   exact⟨u,g1,g2⟩⟩
  have er:=Gw e2;refine⟨t::ads,by rw[f1];rfl,by rw[f2,zAk,er,<-f2],λa ha=>?_⟩;rcases zAo.mp ha with z|z
  .rw[z,er];exact e2
  .exact f3 a z
theorem pM{H':Hp}{l':List Addr}(h:∀a∈l',H' a=some (.tup ((gA H a).map V.int))):Els H' (l'.map V.ref) (l'.map (gA H)):=by
 refine⟨by rw[zA1,zA1],λi r e=>?_⟩;rw[zAb]at e
 cases z:l'[i]? with
 |none=>rw[z]at e;cases e
 |some a=>
  rw[z]at e;cases e;exact⟨a,by rw[zAb,z];rfl,h a (zBg z)⟩
inductive SpYearI(vs:List V)(H:Hp)(Q:VK):Prop
 |mk:∀bk y lo ac xc cs ap xp ps ai xs ss xo ow,(vs=[.ref bk,.int y,.ref lo])->(H bk=some (.tup [.ref ac,.ref ap,.ref ai]))->(RowsAt H ac xc cs)->((∀r∈cs,r.length=3/\∀x∈r,0<=x))->(0<=y)->(y<cs.length)->(RowsAt H ap xp ps)->(ps.length<=10)->((∀r∈ps,okP r))->(RowsAt H ai xs ss)->(ss.length<=12)->((∀s∈ss,s.length=5))->(un ps ss=none)->(H lo=some (.lst xo))->(Els H xo ow)->((∀r∈ow,okO ps r))->(ow.length<=10000)->(∀t g k tl xg xk H',Same H H'->H' t=some (.tup [.ref g,.ref k,.ref tl])->H g=none->H k=none->(g≠sysModules/\k≠sysModules)->H' g=some (.lst xg)->Els H' xg (srt (yTo (cs.getD y.toNat []) ps ss ow y 3).g)->H' k=some (.lst xk)->Els H' xk (srt (yTo (cs.getD y.toNat []) ps ss ow y 3).k)->H' tl=some (.tup ((yTo (cs.getD y.toNat []) ps ss ow y 3).l.map V.int))->Q (.ref t) H')->SpYearI  vs H Q
def DN:Sp:=λvs H Q _=>SpYearI  vs H Q
theorem yR(h:un ps ss=none)(h5:∀s∈ss,s.length=5):∀s∈ss,okS s:=λs hs=>by
 obtain⟨j,hj,e⟩:=List.getElem_of_mem hs;have:=Dw h j hj;rw[getD_get hj,e]at this;exact kh (h5 s hs) this
theorem j7{D:Ends}{tb:TS}{σ:L2.St}(R:Hp->Prop)(h:R H)(g:∀H,R H->tb D σ H):tb D σ H:=g H h
variable{P:Program}{w:World}{K:Frag}{mg:Str->Option Value}{base:Heap}{f:Addr}{fd:FuncData}
theorem boot_sorted:bootBuiltins "sorted"=some (.builtin "sorted"):=by decide +kernel
theorem ndZ:(["row","promises","sort"]:List Str).Nodup:=by decide +kernel
theorem scZ1:FnScope ["book","year","owed","clips","promises","sales","gifts","lacking","left","down","sort","wool","claims","ahead","given","lacked"] ["book","year","owed"] (aJ (top 48)):=fQS
theorem Gx(F:Fun K "year_given" "year_given" (top 48) f fd)(T:Mg mg)(N:Nums mg)(Tr:mg "range"=none)(Ts:mg "sorted"=none)(c1:Cal P w K mg base 2 "claims_in" ["promises","sales","sort","year"] pJ)(c2:Cal P w K mg base 8 "sort_given" ["wool","claims","owed"] Dt)(c3:Cal P w K mg base 1 "sacks_of" ["rows"] nC):FnOk P w K mg base CX0 9 f fd ["book","year","owed"] DN:=by
 refine F.ok scZ1 (λvs H Q E h=>?_) (λay A outer s H vs Q E hr h=>?_)
 .obtain⟨bk,y,lo,ac,xc,cs,ap,xp,ps,ai,xs,ss,xo,ow,rfl,_⟩:=h;rfl
 .obtain⟨bk,y,lo,ac,xc,cs,ap,xp,ps,ai,xs,ss,xo,ow,rfl,eb,rc,okc,y0,y1,rp,lp,okp,rs,ls,h5,hu,eo,pd,gT,QW,q⟩:=h;obtain⟨t3,e3⟩:=N.sorts
  refine K41P.ok_b (aR ⟨cH (pv 0) (bG rfl (aq (pgn 3 scZ1.nd) (aq (bC (i:=4) scZ1.nd rfl (Or.inr rfl)) (aq (pgn 5 scZ1.nd) bf))))⟩
   (aR (gR 6 scZ1.nd (wK gM))
   (aR (gR 7 scZ1.nd (wK gM))
   (aR (gR 8 scZ1.nd (wK gM))
   (aR (gR 9 scZ1.nd Jk)
   (aR ⟨bU zB3 rfl (bu rfl Tr (au (cg (v:=.int 3) rfl e3 ⟨_,rfl⟩) ao)) (bC (i:=10) scZ1.nd rfl (Or.inr rfl))
    (iT (aR (gR 11 scZ1.nd (yg bw (Cp bR (Cp bR ⟨pv 3⟩ ⟨pv 1⟩ (λ_ _=>rfl)) ⟨pv 10⟩ (λ_ _=>rfl)) ⟨pv 9⟩))
    (aR (gR 12 scZ1.nd ⟨aK c1 hr (au (pv 4) (au (pv 5) (au (pv 10) (au (pv 1) ao))))⟩)
    (aR ⟨ig (i:=13) ["row","promises","sort"] [none,some 4,some 10] rfl scZ1.nd rfl (Or.inl rfl) (di (pv 2)) (λC fp Zt s₂ H₂=>⟨pgn 0 ndZ,fP (bT jH (pX (K41P.ix_tupK (K:=K) rfl) (pX (K41P.ix_tupK (K:=K) rfl) (pv 1) (pX (K41P.ix_tupK (K:=K) rfl) (pv 0) aB)) aB) (pv 2) (bQ _)),pv 0⟩) (λC=>cI (cI trivial)) ⟨rfl,rfl,rfl,rfl⟩⟩
    (aR ⟨cH (aK c2 hr (au (pv 11) (au (pv 12) (au (pv 13) ao)))) (bG rfl (aq (pgn 14 scZ1.nd) (aq (pgn 15 scZ1.nd) bf)))⟩
    (aR (gR 9 scZ1.nd (yg d8 ⟨pv 11⟩ ⟨aK c3 hr (au (pv 14) ao)⟩))
    (aR ⟨nP (i:=6) scZ1.nd rfl (Or.inl rfl) (pv 14) tV⟩
    (aR ⟨nP (i:=7) scZ1.nd rfl (Or.inl rfl) (pv 15) tV⟩
    (cO ⟨cA (gC zB9 zBc zBb cN (pv 8) (au (pv 9) ao))⟩)))))))))⟩
   (cO (lH (tK (jl ⟨aM dH rfl Ts boot_sorted (au (pv 6) ao)⟩ (jl ⟨aM dH rfl Ts boot_sorted (au (pv 7) ao)⟩ (jl ⟨cZ cP rfl T.tuple boot_tuple (au (pv 8) ao)⟩ gM)))))))))))) ?_
  refine aQ ?_;refine⟨_,rfl,bk,_,rfl,SqT.of eb,rfl,_,_,rfl,_,_,rfl,_,_,rfl,rfl,?_⟩;dsimp only;refine aQ (aY ?_);refine⟨zL,λlg si=>?_⟩;refine aD ?_;dsimp only;refine aQ (aY ?_);refine⟨zL,λlk jS=>?_⟩;refine aD ?_;dsimp only;refine aQ (aY ?_);refine⟨zL,λll eI=>?_⟩;refine aD ?_;dsimp only;refine aQ (aY ?_);refine aD ?_;dsimp only;have s1:=Same.upd (o:=.lst []) si;have s2:=Same.upd (o:=.lst []) jS;have s3:=Same.upd (o:=.lst []) eI;have Q3:H lg=none:=si;have pT:H lk=none:=s1.free jS;have Q4:H ll=none:=(s1.trans s2).free eI
  have Oi:lg≠lk:=λz=>by rw[<-z,aj]at jS;cases jS
  have Oj:lk≠ll:=λz=>by rw[<-z,aj]at eI;cases eI
  have Ol:lg≠ll:=λz=>by rw[<-z,s2 _ _ aj]at eI;cases eI
  refine j7 (λH1=>Same H H1/\H1 lg=some (.lst [])/\H1 lk=some (.lst [])/\H1 ll=some (.lst [])) ⟨(s1.trans s2).trans s3,s3 _ _ (s2 _ _ aj),s3 _ _ aj,aj⟩ λH1=>?_;rintro⟨k1,B0,Q5,el1⟩;clear s1 s2 s3 si jS eI;have HZ:y.toNat<cs.length:=Zz
  obtain⟨tc,CC,sv⟩:=gG rc y0 (show cs[y.toNat]?=some cs[y.toNat]from zA0 HZ);have Q6:cs.getD y.toNat []=cs[y.toNat]:=getD_get HZ;have xy:=okc _ (zAh HZ);rw[Q6]at q;generalize cs[y.toNat]=c at q sv xy;have de:=yR hu h5;refine aQ ?_;refine⟨3,rfl,by decide,by decide,?_⟩;refine cj (lo:=0) (λi σ Hc=>Xe8 λkG kC kg fw fx fy xg xk=>Xa7 (σ=[some (.ref bk),some (.int y),some (.ref lo),some (.ref ac),some (.ref ap),some (.ref ai),some (.ref lg),some (.ref lk),some (.ref ll),some (.int (yTo c ps ss ow y i).d),kG,kC,kg,fw,fx,fy]) (Same H Hc) (Hc lg=some (.lst xg)) (Els Hc xg (yTo c ps ss ow y i).g) (Hc lk=some (.lst xk)) (Els Hc xk (yTo c ps ss ow y i).k) (Hc ll=some (.lst ((yTo c ps ss ow y i).l.map V.int)))) ?_ ?_ ?_
  .exact⟨none,none,none,none,none,none,[],[],rfl,k1,B0,Els.nil,Q5,Els.nil,el1⟩
  .rintro i σ Hc hi ⟨kG,kC,kg,fw,fx,fy,xg,xk,rfl,k,eg,elg,ek,dQ,el⟩;have hi:i<3:=hi;obtain⟨WY,WZ,Q7⟩:=DK (c:=c) (ss:=ss) (ow:=ow) (y:=y) lp i;refine aD ?_;have z0:(0:Int)+(i:Int)=i:=Zz
   rw[z0];refine vm λDe sx=>?_
   have Ic:(c.map V.int)[i]?=some (.int (c.getD i 0)):=by
    have df:i<c.length:=Zz
    rw[zAb,zA7,zA0 df];rfl
   refine aQ (aY ?_);refine⟨_,rfl,_,rfl,ac,xc,y,.ref tc,rfl,rfl,SqT.of (k _ _ rc.e),CC,_,rfl,tc,_,i,.int (c.getD i 0),rfl,rfl,SqT.of (k _ _ sv),cB Ic,_,rfl,_,_,rfl,rfl,?_⟩;refine aD ?_;dsimp only;have dn:=DG (c:=c) (y:=y) xy.2 hu h5 okp lp gT i;have cn:=jh xy.2 i;refine aQ (aY ?_);refine⟨_,rfl,_,rfl,_,rfl,_,rfl,ap,xp,ps,ai,xs,ss,i,y,rfl,rp.same k,lp,okp,rs.same k,ls,de,λlc Q8 H2 s2 Xa Cn Iq=>?_⟩;refine aD ?_;dsimp only;have k2:=k.trans s2;refine aQ ?_;refine⟨_,rfl,lo,rfl,⟨_,SqL.of (k2 _ _ eo)⟩,eF ow.length (λj ys σ Hj=>Same H2 Hj/\(∃o1,σ=[o1,some (.ref ap),some (.int i)])/\Els Hj ys (aH ps (ow.take j) i)) ⟨Same.refl _,⟨_,rfl⟩,Els.nil⟩ Zu ?_ ?_⟩
   .rintro j ys σ Hj hj hy ⟨sc,⟨o1,rfl⟩,ko⟩;have kj:=k2.trans sc;have gN:SqL K Hj lo xo:=SqL.of (kj _ _ eo);obtain⟨tr,ex,eW⟩:=pd.2 j ow[j] (zA0 hj);obtain⟨o4,o5,o6,o7⟩:=gT _ (zAh hj);have Iy:=eW;rw[cY o4]at eW;obtain⟨p,hp,ep,op⟩:=fV okp o5 o6;obtain⟨tp,eJ,fe⟩:=gG rp o5 hp;rw[dZ op.1]at fe
    have cb:aH ps (ow.take (j+1)) i=aH ps (ow.take j) i++(if fl p 1=i then[ow[j]]else[]):=by
     rw[zAj,zA0 hj];unfold aH;rw[show(some ow[j]).toList=[ow[j]]from rfl,Zao];congr 1;by_cases h:fl p 1=i
     .rw[zAx h,zBe (by rw[ep];exact zAt h)];rfl
     .rw[zAw h,zBa (by rw[ep,Zq];exact h)];rfl
    refine⟨⟨_,_,gN,ex⟩,λx H' yv R hR=>?_⟩;obtain⟨rfl,yv⟩:=yv;have yv:=yv _ gN;rw[ex]at yv;cases yv;refine aD ?_;refine⟨_,rfl,_,rfl,tr,_,1,.int (fl ow[j] 1),rfl,rfl,SqT.of (kj _ _ eW),rfl,ap,xp,_,.ref tp,rfl,rfl,SqT.of (kj _ _ rp.e),eJ,tp,_,1,.int (fl p 1),rfl,rfl,SqT.of (kj _ _ fe),rfl,_,rfl,rfl,_,rfl,?_⟩;by_cases h:fl p 1=i
    .rw[zAt (by rw[h])];refine cC ⟨_,rfl,hR _ _ _ (by rw[zA2];show ys.length+1<=j+1;lia) ⟨sc,⟨_,rfl⟩,?_⟩⟩;rw[cb,zAx h];exact ko.app (Els.one (kj _ _ Iy))
    .rw[zB2 (λz=>h (by injection z))];refine bZ (hR _ _ _ Zz ⟨sc,⟨_,rfl⟩,?_⟩);rw[cb,zAw h,zAn];exact ko
   rintro ya σ Hj hy ⟨sc,_,kD⟩;rw[zAm]at kD;refine⟨⟨_,SqL.of (sc _ _ (k2 _ _ eo)),by rw[pd.1];exact zA3 _⟩,λla oT=>?_⟩;have sa:=sc.updR (o:=.lst ya) oT;have Om:=aj (H:=Hj) (a:=la) (o:=.lst ya);have kD:=kD.same (Same.upd (o:=.lst ya) oT);generalize upd Hj la (.lst ya)=H3 at sa Om kD⊢;have k3:=k2.trans sa;have sH:=s2.trans sa;dsimp only;have hU:=dU (sort:=i) (year:=y) hu h5 okp;have se:=cQ (ss:=ss) (sort:=i) (year:=y) lp;have Q9:=j6 (sort:=i) gT;have Xb:=rH ps ow i;refine aQ ?_;refine⟨_,rfl,_,rfl,_,rfl,c.getD i 0+(yTo c ps ss ow y i).d,lc,Q8,aF ps ss i y,la,ya,aH ps ow i,rfl,sa _ _ Cn,Iq.same sa,hU,se,Zz,Om,kD,λr hr=>(Q9 r hr).1,Zz,λt g kk l8 pV H4 s4 et ng nk Oo p9 Ra xA=>⟨t,_,rfl,SqT.of et,rfl,_,_,rfl,_,_,rfl,rfl,?_⟩⟩;have k4:=k3.trans s4;have Rb:=sH.trans s4;have gl:=yQ ((aF ps ss i y++aH ps ow i).zip (shr (c.getD i 0+(yTo c ps ss ow y i).d) (aF ps ss i y) (aH ps ow i)));have kl:=pL ((aF ps ss i y++aH ps ow i).zip (shr (c.getD i 0+(yTo c ps ss ow y i).d) (aF ps ss i y) (aH ps ow i)))
   have zl:((aF ps ss i y++aH ps ow i).zip (shr (c.getD i 0+(yTo c ps ss ow y i).d) (aF ps ss i y) (aH ps ow i))).length<=80+ow.length:=by
    rw[zAs,zA2];lia
   have e1:(yTo c ps ss ow y (i+1)).g=(yTo c ps ss ow y i).g++dI ((aF ps ss i y++aH ps ow i).zip (shr (c.getD i 0+(yTo c ps ss ow y i).d) (aF ps ss i y) (aH ps ow i))):=rfl;have e2:(yTo c ps ss ow y (i+1)).k=(yTo c ps ss ow y i).k++bW ((aF ps ss i y++aH ps ow i).zip (shr (c.getD i 0+(yTo c ps ss ow y i).d) (aF ps ss i y) (aH ps ow i))):=rfl;have e3:(yTo c ps ss ow y (i+1)).l=(yTo c ps ss ow y i).l++[c.getD i 0+(yTo c ps ss ow y i).d-aN (dI ((aF ps ss i y++aH ps ow i).zip (shr (c.getD i 0+(yTo c ps ss ow y i).d) (aF ps ss i y) (aH ps ow i))))]:=rfl;have e4:(yTo c ps ss ow y (i+1)).d=c.getD i 0+(yTo c ps ss ow y i).d-aN (dI ((aF ps ss i y++aH ps ow i).zip (shr (c.getD i 0+(yTo c ps ss ow y i).d) (aF ps ss i y) (aH ps ow i)))):=rfl
   have g4:∀r∈dI ((aF ps ss i y++aH ps ow i).zip (shr (c.getD i 0+(yTo c ps ss ow y i).d) (aF ps ss i y) (aH ps ow i))),r.length=4:=λr hr=>by
    obtain⟨p,_,rfl⟩:=zA5.mp hr;rfl
   rw[e1,e2,e3,e4]at sx;generalize dI ((aF ps ss i y++aH ps ow i).zip (shr (c.getD i 0+(yTo c ps ss ow y i).d) (aF ps ss i y) (aH ps ow i)))=GG at p9 g4 gl sx⊢;generalize bW ((aF ps ss i y++aH ps ow i).zip (shr (c.getD i 0+(yTo c ps ss ow y i).d) (aF ps ss i y) (aH ps ow i)))=KK at xA kl sx⊢;dsimp only;refine aQ (aY ?_);refine⟨_,rfl,_,rfl,g,l8,GG,rfl,Oo,p9,g4,Zz,λH5 s5=>⟨_,_,rfl,rfl,?_⟩⟩;refine aD ?_;dsimp only;have k5:=k4.trans s5;have CD:=Rb.trans s5;have Xc:g≠lg:=(aA (sH _ _ eg) ng).symm;have Rc:kk≠lg:=(aA (sH _ _ eg) nk).symm;have Oq:=CD _ _ eg;have Rf:=CD _ _ ek;have el5:=CD _ _ el;refine aQ ?_;refine⟨_,rfl,_,rfl,lg,g,xg,l8,rfl,rfl,Oq,s5 _ _ Oo,by rw[elg.1,p9.1,sizeLine_eq];have:i*(80+ow.length)<=3*(80+ow.length):=Zal _ Zz;lia,?_⟩;dsimp only
   have IA:∀b z,H5 b=some (.tup z)->upd H5 lg (.lst (xg++l8)) b=some (.tup z):=λb z e=>by
    rw[az λw=>by rw[w,Oq]at e;cases e];exact e
   have k6:Same H (upd H5 lg (.lst (xg++l8))):=λb o e=>by
    rw[az (aA e Q3)];exact k5 _ _ e
   have Ot:=aj (H:=H5) (a:=lg) (o:=.lst (xg++l8));have CF:=((elg.same CD).app (p9.same s5)).keep IA;have IB:upd H5 lg (.lst (xg++l8)) lk=some (.lst xk):=by rw[az Oi.symm];exact Rf
   have CH:upd H5 lg (.lst (xg++l8)) kk=some (.lst pV):=by rw[az Rc];exact s5 _ _ Ra
   have Ou:upd H5 lg (.lst (xg++l8)) ll=some (.lst ((yTo c ps ss ow y i).l.map V.int)):=by rw[az Ol.symm];exact el5
   have CI:=(dQ.same CD).keep IA;have sA:=(xA.same s5).keep IA;generalize upd H5 lg (.lst (xg++l8))=H6 at k6 Ot CF IB CH Ou CI sA⊢;refine aQ ?_;refine⟨_,rfl,_,rfl,lk,kk,xk,pV,rfl,rfl,IB,CH,by rw[dQ.1,xA.1,sizeLine_eq];have:i*(80+ow.length)<=3*(80+ow.length):=Zal _ Zz;lia,?_⟩;dsimp only
   have Ov:∀b z,H6 b=some (.tup z)->upd H6 lk (.lst (xk++pV)) b=some (.tup z):=λb z e=>by
    rw[az λw=>by rw[w,IB]at e;cases e];exact e
   have k7:Same H (upd H6 lk (.lst (xk++pV))):=λb o e=>by
    rw[az (aA e pT)];exact k6 _ _ e
   have Ow:upd H6 lk (.lst (xk++pV)) lg=some (.lst (xg++l8)):=by rw[az Oi];exact Ot
   have CL:=CF.keep Ov;have Ox:=aj (H:=H6) (a:=lk) (o:=.lst (xk++pV));have CM:=(CI.app sA).keep Ov;have EE:upd H6 lk (.lst (xk++pV)) ll=some (.lst ((yTo c ps ss ow y i).l.map V.int)):=by rw[az Oj.symm];exact Ou
   generalize upd H6 lk (.lst (xk++pV))=H7 at k7 Ow CL Ox CM EE⊢;refine⟨_,rfl,.inl ⟨rfl,_,SqL.of EE⟩,_,rfl,ll,_,_,rfl,rfl,EE,by rw[zA1,Q7,sizeLine_eq];lia,?_⟩
   have Oy:∀{o:HO} b z,H7 b=some (.tup z)->upd H7 ll o b=some (.tup z):=λb z e=>by
    rw[az λw=>by rw[w,EE]at e;cases e];exact e
   refine sx _ _ ⟨_,_,_,_,_,_,xg++l8,xk++pV,rfl,λb o e=>?_,?_,CL.keep Oy,?_,CM.keep Oy,?_⟩
   .rw[az (aA e Q4)];exact k7 _ _ e
   .rw[az Ol];exact Ow
   .rw[az Oj];exact Ox
   .rw[aj,zA4];rfl
  .rintro σ Hc ⟨kG,kC,kg,fw,fx,fy,xg,xk,rfl,k,eg,elg,ek,dQ,el⟩;obtain⟨Rg,Rh⟩:=y_row (c:=c) (ps:=ps) (ss:=ss) (ow:=ow) (y:=y) 3;have q:∀t g k tl xg xk H',Same H H'->H' t=some (.tup [.ref g,.ref k,.ref tl])->H g=none->H k=none->(g≠sysModules/\k≠sysModules)->H' g=some (.lst xg)->Els H' xg (srt (yTo c ps ss ow y 3).g)->H' k=some (.lst xk)->Els H' xk (srt (yTo c ps ss ow y 3).k)->H' tl=some (.tup ((yTo c ps ss ow y 3).l.map V.int))->Q (.ref t) H':=q;have elg:Els Hc xg (yTo c ps ss ow y 3).g:=elg;have dQ:Els Hc xk (yTo c ps ss ow y 3).k:=dQ;have el:Hc ll=some (.lst ((yTo c ps ss ow y 3).l.map V.int)):=el;obtain⟨ag,Ri,Oz,OA⟩:=ji elg;obtain⟨ak,Rj,zo,OB⟩:=ji dQ;subst Ri Rj;dsimp only
   have nn:∀{rs:PK} {ads:List Addr},rs=ads.map (gA Hc)->(∀r∈rs,r.length=4)->∀a∈ads,gA Hc a≠[]:=λ{rs ads} h h4 a ha z=>by
    have:=h4 (gA Hc a) (by rw[h];exact List.mem_map_of_mem ha);rw[z]at this;cases this
   refine⟨_,rfl,lg,ag,gA Hc,rfl,SqL.of eg,λa ha=>⟨SqT.of (OA a ha),nn Oz Rg a ha⟩,λg l1 hg xB OC Rk=>?_⟩;have sg:=Same.upd (o:=.lst (l1.map V.ref)) hg;refine⟨_,rfl,lk,ak,gA Hc,rfl,SqL.of (sg _ _ ek),λa ha=>⟨SqT.of (sg _ _ (OB a ha)),nn zo Rh a ha⟩,λkk l2 hk Rl OD EF=>?_⟩;have sk:=sg.updR (o:=.lst (l2.map V.ref)) hk;refine⟨_,rfl,ll,_,rfl,.inl ⟨SqL.of (sk _ _ el),λtl EG=>?_⟩⟩;have sl:=sk.updR (o:=.tup ((yTo c ps ss ow y 3).l.map V.int)) EG;refine⟨zL,λt ht=>?_⟩;have st:=sl.updR (o:=.tup [.ref g,.ref kk,.ref tl]) ht;have u1:=Same.upd (o:=.lst (l2.map V.ref)) hk;have u2:=Same.upd (o:=.tup ((yTo c ps ss ow y 3).l.map V.int)) EG;have u3:=Same.upd (o:=.tup [.ref g,.ref kk,.ref tl]) ht;have AD:l1.map (gA Hc)=srt (yTo c ps ss ow y 3).g:=gO (by rw[Oz];exact OC.map _) (Zan.mpr Rk);have Rm:l2.map (gA Hc)=srt (yTo c ps ss ow y 3).k:=gO (by rw[zo];exact OD.map _) (Zan.mpr EF);refine q t g kk tl _ _ _ (k.trans st) aj (k.free hg) (k.free (sg.free hk)) ⟨xB,Rl⟩ (u3 _ _ (u2 _ _ (u1 _ _ aj))) ?_ (u3 _ _ (u2 _ _ aj)) ?_ (u3 _ _ aj)
   .rw[<-AD];exact pM λa ha=>st _ _ (OA a (OC.mem_iff.mp ha))
   .rw[<-Rm];exact pM λa ha=>st _ _ (OB a (OD.mem_iff.mp ha))
def cnt(ps ow:PK):Nat->Nat
 |0=>0
 |n+1=>cnt ps ow n+(aH ps ow n).length
theorem cnt_nil(ps:PK):∀n,cnt ps [] n=0
 |0=>rfl
 |n+1=>by
  unfold cnt;rw[cnt_nil ps n];rfl
theorem cnt_cons(ps ow:PK)(r:PP):∀n,cnt ps (r::ow) n=cnt ps ow n+(if 0<=fl (ps.getD (fl r 1).toNat []) 1/\fl (ps.getD (fl r 1).toNat []) 1<n then 1 else 0)
 |0=>by
  rw[zAw Zz];rfl
 |n+1=>by
  show cnt ps (r::ow) n+(aH ps (r::ow) n).length=cnt ps ow n+(aH ps ow n).length+_;rw[cnt_cons ps ow r n];unfold aH;by_cases h:fl (ps.getD (fl r 1).toNat []) 1=n
  .rw[zBe (p:=λ(r:PP)=>decide (fl (ps.getD (fl r 1).toNat []) 1=(n:Int))) (zAt h),zAe,zAw Zz,zAx Zz];lia
  .rw[zBa (p:=λ(r:PP)=>decide (fl (ps.getD (fl r 1).toNat []) 1=(n:Int))) (by rw[Zq];exact h)];by_cases h2:0<=fl (ps.getD (fl r 1).toNat []) 1/\fl (ps.getD (fl r 1).toNat []) 1<n
   .rw[zAx h2,zAx Zz];lia
   .rw[zAw h2,zAw Zz];lia
theorem DP(ps:PK)(n:Nat):∀ow:PK,cnt ps ow n<=ow.length
 |[]=>by rw[cnt_nil];exact zA3 _
 |r::ow=>by
  rw[cnt_cons,zAe];have:=DP ps n ow;split<;>lia
theorem HX{c:PP}{ps ss ow:PK}{y:Int}(hl:ps.length<=10):∀n,(yTo c ps ss ow y n).k.length<=80*n+cnt ps ow n
 |0=>zAp _
 |n+1=>by
  have a:=HX (c:=c) (ss:=ss) (ow:=ow) (y:=y) hl n;have h1:=cQ (ss:=ss) (sort:=n) (year:=y) hl;have h3:=pL ((aF ps ss n y++aH ps ow n).zip (shr (c.getD n 0+(yTo c ps ss ow y n).d) (aF ps ss n y) (aH ps ow n)));show((yTo c ps ss ow y n).k++bW _).length<=80*(n+1)+(cnt ps ow n+(aH ps ow n).length);rw[zA2];rw[zAs,zA2]at h3;lia
theorem Li{c:PP}{ps ss ow:PK}{y:Int}(hu:un ps ss=none)(h5:∀s∈ss,s.length=5)(okp:∀r∈ps,okP r)(ho:∀r∈ow,okO ps r):∀n,∀r∈(yTo c ps ss ow y n).k,okO ps r
 |0,r,hr=>by cases hr
 |n+1,r,hr=>by
  rcases zA6.mp (show r∈(yTo c ps ss ow y n).k++bW _ from hr)with z|z
  .exact Li (c:=c) (y:=y) hu h5 okp ho n r z
  .obtain⟨p,hp,rfl⟩:=zA5.mp z;obtain⟨h1,h2⟩:=zAq.mp hp;have h2:=zB6 h2;have hm:p.1∈aF ps ss n y++aH ps ow n:=(Zaz (show(p.1,p.2)∈_ from h1)).1
   have hn:0<=fl p.1 1/\fl p.1 1<ps.length:=by
    rcases zA6.mp hm with w|w
    .obtain⟨_,_,_,_,a,b⟩:=HW (sort:=n) (year:=y) hu h5 okp ps.length (zA3 _) p.1 w;exact⟨a,b⟩
    .have:=j6 ho p.1 w;exact⟨this.2.1,this.2.2.1⟩
   refine⟨rfl,hn.1,hn.2,?_⟩;show 1<=fl p.1 3-p.2;lia
def dz(cs ps ss:PK):Nat->PK
 |0=>[]
 |n+1=>srt (yTo (cs.getD n []) ps ss (dz cs ps ss n) n 3).k
theorem rJ{cs ps ss:PK}(hl:ps.length<=10)(hu:un ps ss=none)(h5:∀s∈ss,s.length=5)(okp:∀r∈ps,okP r):∀n,(∀r∈dz cs ps ss n,okO ps r)/\(dz cs ps ss n).length<=240*n
 |0=>⟨λr hr=>(by cases hr),zA3 _⟩
 |n+1=>by
  obtain⟨a,b⟩:=rJ (cs:=cs) hl hu h5 okp n;have pm:=List.mergeSort_perm (yTo (cs.getD n []) ps ss (dz cs ps ss n) n 3).k rle;refine⟨λr hr=>Li (c:=cs.getD n []) (y:=n) hu h5 okp a 3 r (pm.mem_iff.mp hr),?_⟩;show(srt (yTo (cs.getD n []) ps ss (dz cs ps ss n) n 3).k).length<=_;unfold srt;rw[pm.length_eq];have:=HX (c:=cs.getD n []) (ss:=ss) (ow:=dz cs ps ss n) (y:=n) hl 3;have:=DP ps 3 (dz cs ps ss n);lia
def d9(M:PK):PK:=M.filter λr=>decide (0<fl r 3)
def bh(ps:PK)(r:PP):Int:=fl (ps.getD (fl r 1).toNat []) 1
def keyOf(r:PP):PP:=[fl r 0,fl r 1,fl r 2]
def dD(p:PP×Int):PP:=[fl p.1 0,fl p.1 1,fl p.1 2,fl p.1 3-p.2]
def fW(p:PP×Int):PP:=[fl p.1 0,fl p.1 1,fl p.1 2,p.2]
theorem jj(a b:PK):d9 (a++b)=d9 a++d9 b:=Zao ..
theorem yS(Z:List (PP×Int)):d9 (Z.map fW)=dI Z:=by
 unfold d9 dI;rw[List.filter_map];rfl
theorem yU(Z:List (PP×Int)):d9 (Z.map dD)=bW Z:=by
 unfold d9 bW;rw[List.filter_map];congr 1;refine List.filter_congr λp _=>?_;show decide (0<fl p.1 3-p.2)=decide (p.2<fl p.1 3);exact decide_eq_decide.mpr ⟨λh=>by lia,λh=>by lia⟩
theorem nF(a b:List (PP×Int)):dI (a++b)=dI a++dI b:=by
 unfold dI;rw[Zao,zA4]
theorem kI(a b:List (PP×Int)):bW (a++b)=bW a++bW b:=by
 unfold bW;rw[Zao,zA4]
theorem xj:∀{w:Int} {S:PK},0<=w->(∀r∈S,0<=fl r 3)->dI (S.zip (bj w S))=dI ((d9 S).zip (bj w (d9 S)))/\bW (S.zip (bj w S))=bW ((d9 S).zip (bj w (d9 S)))/\(bj w S).sum=(bj w (d9 S)).sum
 |w,[],_,_=>⟨rfl,rfl,rfl⟩
 |w,r::S,hw,h=>by
  have h0:=h r (.head _);have hS:∀r∈S,0<=fl r 3:=λq hq=>h q (.tail _ hq);by_cases hp:0<fl r 3
  .have e:d9 (r::S)=r::d9 S:=zBe (p:=λr=>decide (0<fl r 3)) (zAt hp);obtain⟨a,b,c⟩:=xj (w:=w-(if w<fl r 3 then w else fl r 3)) (S:=S) (by split<;>lia) hS;rw[e];unfold bj;rw[Za0,Za0];refine⟨?_,?_,?_⟩
   .rw[<-List.singleton_append,nF,a,<-nF,List.singleton_append]
   .rw[<-List.singleton_append,kI,b,<-kI,List.singleton_append]
   .rw[Zag,Zag,c]
  .have e:d9 (r::S)=d9 S:=zBa (p:=λr=>decide (0<fl r 3)) (by rw[Zq];exact hp);have hm:(if w<fl r 3 then w else fl r 3)=0:=by split<;>lia
   obtain⟨a,b,c⟩:=xj (w:=w) (S:=S) hw hS;rw[e]
   have em:bj w (r::S)=0::bj w S:=by
    show(if w<fl r 3 then w else fl r 3)::bj (w-(if w<fl r 3 then w else fl r 3)) S=_;rw[hm,Int.sub_zero]
   rw[em,Za0];refine⟨?_,?_,?_⟩
   .rw[<-List.singleton_append,nF,a,show dI [(r,0)]=[]from rfl,List.nil_append]
   .rw[<-List.singleton_append,kI,b]
    have:bW [(r,0)]=[]:=by
     unfold bW;rw[zBa (by rw[Zq];show¬0<fl r 3;exact hp)];rfl
    rw[this,List.nil_append]
   .rw[Zag,c,Zas]
theorem uh(rs:PK):(srt rs).Pairwise (λa b=>HT.lexLt b a=false):=(List.pairwise_mergeSort Dz yP rs).imp λ{a b} h=>by
 unfold rle at h;rw[Za4]at h;exact h
theorem fM(rs:PK):(srt rs).Perm rs:=List.mergeSort_perm rs rle
theorem Ay{a b:PK}(h:a.Perm b):srt a=srt b:=gO ((fM a).trans h) (uh a)
theorem xm(p:PP->Bool)(M:PK):(srt M).filter p=srt (M.filter p):=gO ((fM M).filter p) ((uh M).filter p)
theorem Gy{a b:PP}(ha:a.length=4)(hb:b.length=4)(h:HT.lexLt b a=false):HT.lexLt (keyOf b) (keyOf a)=false:=by
 rw[cY ha,cY hb]at h;unfold keyOf;simp only[HT.lexLt_cons]at h⊢;split at h
 .split at h
  .split at h
   .rw[zAx (by assumption),zAx (by assumption),zAx (by assumption)];rfl
   .rw[zAx (by assumption),zAx (by assumption),zAw (by assumption)];exact h
  .rw[zAx (by assumption),zAw (by assumption)];exact h
 .rw[zAw (by assumption)];exact h
theorem DQ(h:∀r∈M,r.length=4):(srt M).map keyOf=srt (M.map keyOf):=by
 refine gO ((fM M).map _) ?_;rw[Zan];have hm:∀r∈srt M,r.length=4:=λr hr=>h r ((fM M).mem_iff.mp hr);exact(uh M).imp_of_mem λ{a b} ha hb z=>Gy (hm a ha) (hm b hb) z
theorem xn{ps ss:PK}{sort year:Int}:∀{k:Nat} {r:PP},r∈iz ps ss sort year k->∃(j h:Nat) (x:Int),j<k/\h<8/\fl (ps.getD j []) 1=sort/\r=[year,j,h,x]
 |0,r,hr=>by cases hr
 |k+1,r,hr=>by
  rcases zA6.mp (show r∈iz ps ss sort year k++iC ps ss sort year k from hr)with z|z
  .obtain⟨j,h,x,a,b⟩:=xn z;exact⟨j,h,x,Zz,b⟩
  .unfold iC at z;split at z
   .rename_i hs
    obtain⟨q,hq,rfl⟩:=zA5.mp z;unfold dO at hq;obtain⟨h,hh,rfl⟩:=zA5.mp hq;have:=Za5.mp (zAq.mp hh).1;exact⟨k,h,_,Zz,this,hs,rfl⟩
   .cases z
theorem yV{ps ss:PK}{sort year:Int}:∀k,((iz ps ss sort year k).map keyOf).Nodup
 |0=>List.nodup_nil
 |k+1=>by
  show((iz ps ss sort year k++iC ps ss sort year k).map keyOf).Nodup;rw[zA4,List.nodup_append];refine⟨yV k,?_,λa ha b hb e=>?_⟩
  .unfold iC;split
   .unfold dO;rw[zAr,zAr];refine List.Pairwise.map _ (R:=λa b=>a≠b) (λa b h e=>h ?_) (List.nodup_range.filter _);have e:[year,(k:Int),(a:Int)]=[year,(k:Int),(b:Int)]:=e;injection e with _ e;injection e with _ e;injection e with e;lia
   .exact List.nodup_nil
  .subst e;obtain⟨r,hr,e1⟩:=zA5.mp ha;obtain⟨j,h,x,a1,a2,a3,rfl⟩:=xn hr;obtain⟨r',kF,e2⟩:=zA5.mp hb;unfold iC at kF;split at kF
   .obtain⟨q,hq,rfl⟩:=zA5.mp kF;rw[<-e1]at e2;have e2:[year,(k:Int),_]=[year,(j:Int),(h:Int)]:=e2;injection e2 with _ e2;injection e2 with e2;lia
   .cases kF
theorem iB{year:Int}{r:PP}(hr:r∈aF ps ss sort year):fl r 0=year/\bh ps r=sort/\0<=fl r 1/\fl r 1<ps.length/\0<=fl r 2/\fl r 2<8:=by
 obtain⟨j,h,x,a1,a2,a3,rfl⟩:=xn hr;refine⟨rfl,?_,?_,?_,?_,?_⟩
 .show fl (ps.getD ((j:Int)).toNat []) 1=sort;rw[zAi];exact a3
 .show(0:Int)<=j;lia
 .show(j:Int)<ps.length;lia
 .show(0:Int)<=h;lia
 .show(h:Int)<8;lia
theorem Az{Z:List (PP×Int)}{n:Int}(h:∀p∈Z,bh ps p.1=n):∀r∈bW Z,bh ps r=n:=λr hr=>by
 obtain⟨p,hp,rfl⟩:=zA5.mp hr;exact h p (zAq.mp hp).1
theorem Gz{n:Int}:∀r∈aH ps ow n,bh ps r=n:=λr hr=>zB6 (zAq.mp hr).2
theorem xu{c:PP}{ps ss ow:PK}{y:Int}:∀n,∀r∈(yTo c ps ss ow y n).k,bh ps r<n
 |0,r,hr=>by cases hr
 |n+1,r,hr=>by
  rcases zA6.mp (show r∈(yTo c ps ss ow y n).k++bW _ from hr)with z|z
  .have:=xu (c:=c) (y:=y) n r z;lia
  .have:=Az (n:=n) (λp hp=>by
    rcases zA6.mp (Zaz (show(p.1,p.2)∈_ from hp)).1 with z|z
    .exact(iB z).2.1
    .exact Gz _ z) r z
   lia
structure Stg(c:PP)(ps ss ow:PK)(y:Int)(n:Nat)(M G:PK):Prop where
 kd:(M.map keyOf).Nodup
 ok:∀r∈M,r.length=4/\0<=fl r 1/\fl r 1<ps.length/\0<=fl r 3
 yr:∀r∈M,fl r 0<y\/(fl r 0=y/\bh ps r<n)
 pm:(d9 M).Perm ((yTo c ps ss ow y n).k++ow.filter λr=>decide ((n:Int)<=bh ps r))
 gn:d9 G=(yTo c ps ss ow y n).g
 g4:∀r∈G,r.length=4
 len:M.length<=240*y.toNat+80*n
 glen:G.length<=n*(240*y.toNat+400)
def elder(ps M:PK)(n:Nat):PK:=srt (M.filter λr=>decide (bh ps r=n))
def others(ps M:PK)(n:Nat):PK:=M.filter λr=>!decide (bh ps r=n)
theorem dW{S:PK}{m:PP}{f:PP×Int->PP}(hk:∀p,keyOf (f p)=keyOf p.1)(hl:m.length=S.length):((S.zip m).map f).map keyOf=S.map keyOf:=by
 rw[zAr]
 have:(keyOf∘f)=keyOf∘Prod.fst:=by
  funext p;exact hk p
 rw[this,<-zAr,List.map_fst_zip Zz]
theorem DR(ps ow:PK)(n:Nat):(ow.filter λr=>decide ((n:Int)<=bh ps r)).filter (λr=>decide (bh ps r=n))=aH ps ow n:=by
 rw[List.filter_filter];unfold aH;refine List.filter_congr λr _=>?_;show(decide (bh ps r=n)&&decide ((n:Int)<=bh ps r))=decide (bh ps r=n);by_cases h:bh ps r=n
 .rw[zAt h,zAt Zz];rfl
 .rw[zB2 h];rfl
theorem Ba(ps ow:PK)(n:Nat):(ow.filter λr=>decide ((n:Int)<=bh ps r)).filter (λr=>!decide (bh ps r=n))=ow.filter λr=>decide (((n+1:Nat):Int)<=bh ps r):=by
 rw[List.filter_filter];refine List.filter_congr λr _=>?_;show(!decide (bh ps r=n)&&decide ((n:Int)<=bh ps r))=decide (((n+1:Nat):Int)<=bh ps r);by_cases h:bh ps r=n
 .rw[zAt h,zB2 (p:=((n+1:Nat):Int)<=bh ps r) Zz];rfl
 .rw[zB2 h];show decide ((n:Int)<=bh ps r)=_;exact decide_eq_decide.mpr ⟨λz=>by lia,λz=>by lia⟩
theorem Stg.elder_pos{y:Int}{n:Nat}(g:Stg c ps ss ow y n M G)(so:ow.Pairwise (λa b=>HT.lexLt b a=false)):d9 (elder ps M n)=aH ps ow n:=by
 unfold elder d9;rw[xm,List.filter_filter]
 have e:(M.filter λr=>decide (0<fl r 3)&&decide (bh ps r=n))=(d9 M).filter λr=>decide (bh ps r=n):=by
  unfold d9;rw[List.filter_filter];exact List.filter_congr λr _=>Bool.and_comm _ _
 rw[e];refine(gO ?_ (so.filter _)).symm;have:=g.pm.symm.filter λr=>decide (bh ps r=n);rw[Zao,DR,List.filter_eq_nil_iff.mpr,List.nil_append]at this
 .exact this
 .intro r hr;have:=xu n r hr;rw[Zq];lia
theorem HY{w:Int}(hw:0<=w)(hc:∀r∈cl,r.length=4/\1<=fl r 3/\fl r 3<=99)(hz:cl.length<=80):∀p∈cl.zip (bz w cl),p.2<=fl p.1 3:=λp hp=>by
 obtain⟨i,hi⟩:=List.mem_iff_getElem?.mp hp;obtain⟨h1,h2⟩:=List.getElem?_zip_eq_some.mp hi;have e3:(wts cl)[i]?=some (fl p.1 3):=by unfold wts;rw[zAb,h1];rfl
 unfold bz at h2;split at h2
 .rw[e3]at h2;rw[<-zAl h2];exact Int.le_refl _
 .rename_i hs
  have ok:K41P.OkW (wts cl):=by
   refine⟨?_,?_,λx hx=>?_⟩
   .have:=(zAa.mp e3).1;lia
   .unfold wts;rw[zA1];exact hz
   .obtain⟨r,hr,rfl⟩:=zA5.mp hx;exact(hc r hr).2
  exact(K41P.res_get ok hw Zz h2 e3).2
theorem Stg.step{y:Int}{n:Nat}(g:Stg c ps ss ow y n M G)(so:ow.Pairwise (λa b=>HT.lexLt b a=false))(hc:∀x∈c,0<=x)(hu:un ps ss=none)(h5:∀s∈ss,s.length=5)(okp:∀r∈ps,okP r)(hl:ps.length<=10)(ho:∀r∈ow,okO ps r)(h3:n<3)
  {w:Int}  {sh mg:PP} (ew:w=c.getD n 0+(yTo c ps ss ow y n).d) (ec:cl=aF ps ss n y) (es:sh=bz w cl) (em:mg=bj (w-sh.sum) (elder ps M n)):
  Stg c ps ss ow y (n+1) (others ps M n++((elder ps M n).zip mg).map dD++(cl.zip sh).map dD) (G++(cl.zip sh).map fW++((elder ps M n).zip mg).map fW)/\w-sh.sum-mg.sum=(yTo c ps ss ow y (n+1)).d/\0<=w-sh.sum:=by
 have ea:=g.elder_pos so
 have hE:∀r∈elder ps M n,r∈M/\bh ps r=n:=λr hr=>by
  obtain⟨a,b⟩:=zAq.mp ((fM _).mem_iff.mp hr);exact⟨a,zB6 b⟩
 have nn:=DG (y:=y) hc hu h5 okp hl ho n
 have hw:0<=w:=by
  have:=jh hc n;lia
 have hU:=dU (sort:=n) (year:=y) hu h5 okp;have l9:=cQ (ss:=ss) (sort:=n) (year:=y) hl;have xC:sh.length=cl.length:=by rw[es];exact shares_len
 have Rn:mg.length=(elder ps M n).length:=by rw[em,d7]
 have EF:=Dy (ow:=[]) hw (by rw[ec];exact hU) (by rw[ec];exact l9) (λr hr=>by cases hr) (cl:=cl);unfold shr at EF;rw[<-es,show bj (w-sh.sum) []=[]from rfl,zAn]at EF;have fq:0<=w-sh.sum:=Zz
 obtain⟨m1,m2,m3⟩:=xj (w:=w-sh.sum) (S:=elder ps M n) fq λr hr=>(g.ok r (hE r hr).1).2.2.2;rw[<-em,ea]at m1 m2 m3
 have ez:(aF ps ss n y++aH ps ow n).zip (shr (c.getD n 0+(yTo c ps ss ow y n).d) (aF ps ss n y) (aH ps ow n))=cl.zip sh++(aH ps ow n).zip (bj (w-sh.sum) (aH ps ow n)):=by
  unfold shr;rw[<-ew,<-ec,<-es,List.zip_append xC.symm]
 have ln:=(ug (w:=c.getD n 0+(yTo c ps ss ow y n).d) Zz hU l9 λr hr=>by have:=(j6 (sort:=n) ho r hr).2.2.2;lia).1;refine⟨⟨?_,?_,?_,?_,?_,?_,?_,?_⟩,?_,fq⟩
 .have p1:(others ps M n++((elder ps M n).zip mg).map dD).map keyOf |>.Perm (M.map keyOf):=by
   rw[zA4,dW (f:=dD) (λ_=>rfl) Rn,<-zA4];refine List.Perm.map _ ?_;refine(List.Perm.append_left _ (fM _)).trans (Za7.trans ?_);exact List.filter_append_perm (λr=>decide (bh ps r=n)) M
  rw[zA4,List.nodup_append];refine⟨p1.nodup_iff.mpr g.kd,?_,λa ha b hb e=>?_⟩
  .rw[dW (f:=dD) (λ_=>rfl) xC,ec];exact yV _
  .subst e;obtain⟨r,hr,e1⟩:=zA5.mp (p1.mem_iff.mp ha);rw[dW (f:=dD) (λ_=>rfl) xC,ec]at hb;obtain⟨q,hq,e2⟩:=zA5.mp hb;obtain⟨a1,a2,_⟩:=iB hq;rw[<-e1]at e2;unfold keyOf at e2;injection e2 with e3 e2;injection e2 with e4 e2;have:bh ps r=bh ps q:=by unfold bh;rw[e4]
   rcases g.yr r hr with z|z<;>lia
 .intro r hr;rcases zA6.mp hr with hr|hr
  .rcases zA6.mp hr with hr|hr
   .exact g.ok r (zAq.mp hr).1
   .obtain⟨p,hp,rfl⟩:=zA5.mp hr;obtain⟨h1,h2⟩:=Zaz (show(p.1,p.2)∈_ from hp);obtain⟨k1,k2,k3,k4⟩:=g.ok _ (hE _ h1).1;refine⟨rfl,k2,k3,?_⟩;show 0<=fl p.1 3-p.2
    have:∀{w:Int} {S:PK},(∀p∈S.zip (bj w S),p.2<=fl p.1 3):=λ{w S}=>by
     induction S generalizing w with
     |nil=>intro p hp;cases hp
     |cons r S ih=>
      intro p hp;unfold bj at hp;rw[Za0]at hp;rcases zAo.mp hp with z|z
      .rw[z];show(if w<fl r 3 then w else fl r 3)<=fl r 3;split<;>lia
      .exact ih p z
    rw[em]at hp;have:=this p hp;lia
  .obtain⟨p,hp,rfl⟩:=zA5.mp hr;obtain⟨h1,h2⟩:=Zaz (show(p.1,p.2)∈_ from hp);rw[ec]at h1;obtain⟨_,_,k2,k3,_⟩:=iB h1;refine⟨rfl,k2,k3,?_⟩;show 0<=fl p.1 3-p.2;have:=HY (w:=w) (cl:=cl) hw (by rw[ec];exact hU) (by rw[ec];exact l9) p (by rw[<-es];exact hp);lia
 .intro r hr;rcases zA6.mp hr with hr|hr
  .rcases zA6.mp hr with hr|hr
   .rcases g.yr r (zAq.mp hr).1 with z|z
    .exact .inl z
    .exact .inr ⟨z.1,Zz⟩
   .obtain⟨p,hp,rfl⟩:=zA5.mp hr;obtain⟨h1,h2⟩:=Zaz (show(p.1,p.2)∈_ from hp);rcases g.yr p.1 (hE _ h1).1 with z|z
    .exact .inl z
    .exact .inr ⟨z.1,by show bh ps p.1<_;lia⟩
  .obtain⟨p,hp,rfl⟩:=zA5.mp hr;obtain⟨h1,h2⟩:=Zaz (show(p.1,p.2)∈_ from hp);rw[ec]at h1;obtain⟨k1,k2,_⟩:=iB h1;exact .inr ⟨k1,by show bh ps p.1<_;lia⟩
 .rw[jj,jj,yU,yU,m2]
  have eo:d9 (others ps M n)=(d9 M).filter λr=>!decide (bh ps r=n):=by
   unfold d9 others;rw[List.filter_filter,List.filter_filter];exact List.filter_congr λr _=>Bool.and_comm _ _
  have po:=g.pm.filter λr=>!decide (bh ps r=n);rw[<-eo,Zao,Ba,List.filter_eq_self.mpr]at po
  .show List.Perm _ (((yTo c ps ss ow y n).k++bW _)++_);rw[ez,kI];refine(List.Perm.append_right _ (List.Perm.append_right _ po)).trans ?_;rw[zAf,zAf,zAf];refine List.Perm.append_left _ ?_;refine Za7.trans ?_;exact List.Perm.append_right _ Za7
  .intro r hr;have:=xu n r hr;rw[zB2 Zz];rfl
 .rw[jj,jj,yS,yS,m1,g.gn];show _=(yTo c ps ss ow y n).g++dI _;rw[ez,nF,zAf]
 .intro r hr;rcases zA6.mp hr with hr|hr
  .rcases zA6.mp hr with hr|hr
   .exact g.g4 r hr
   .obtain⟨p,hp,rfl⟩:=zA5.mp hr;rfl
  .obtain⟨p,hp,rfl⟩:=zA5.mp hr;rfl
 .have e1:(others ps M n).length+(elder ps M n).length=M.length:=by
   have:=(List.filter_append_perm (λr=>decide (bh ps r=n)) M).length_eq;rw[zA2]at this;have:=(fM (M.filter λr=>decide (bh ps r=n))).length_eq;unfold others elder;lia
  rw[zA2,zA2,zA1,zA1,zAs,zAs];have:=g.len;have:cl.length<=80:=by rw[ec];exact l9
  lia
 .have e1:(elder ps M n).length<=M.length:=by
   unfold elder;rw[(fM (M.filter λr=>decide (bh ps r=n))).length_eq];exact List.length_filter_le _ _
  rw[zA2,zA2,zA1,zA1,zAs,zAs];have:=g.len;have:=g.glen;have:cl.length<=80:=by rw[ec];exact l9
  rw[Nat.succ_mul];lia
 .show _=c.getD n 0+(yTo c ps ss ow y n).d-aN _;rw[ln,m3];unfold shr;rw[<-ew,<-ec,<-es,List.sum_append];lia
def kvR(r:PP):List Key×V:=((keyOf r).map Sum.inl,.int (fl r 3))
theorem nG:∀{a b:PP},(a.map (Sum.inl:Int->Key))=b.map Sum.inl->a=b
 |[],[],_=>rfl
 |[],_::_,h=>by simp at h
 |_::_,[],h=>by simp at h
 |x::a,y::b,h=>by
  rw[zAk,zAk]at h;injection h with h1 h2;injection h1 with h1;rw[h1,nG h2]
theorem xx(h:(M.map keyOf).Nodup):((M.map kvR).map (·.1)).Nodup:=by
 rw[zAr];have:((λx:List Key×V=>x.1)∘kvR)=(λk:PP=>(k.map Sum.inl:List Key))∘keyOf:=rfl;rw[this,<-zAr];exact List.Pairwise.map _ (λa b h e=>h (nG e)) h
theorem pN{κ:Type}[DecidableEq κ]{k:κ}{v:V}:∀{kvs:List (κ×V)},(kvs.map (·.1)).Nodup->(k,v)∈kvs->cD kvs k=some v
 |[],_,h=>by cases h
 |p::kvs,nd,h=>by
  rw[zAk,List.nodup_cons]at nd;rcases zAo.mp h with z|z
  .rw[<-z];exact cT rfl
  .rw[cU λe=>nd.1 (e▸zA5.mpr ⟨_,z,rfl⟩)];exact pN nd.2 z
def LkAt(H:Hp)(d:Addr)(M:PK):Prop:=∃Mo:PK,H d=some (.dT (Mo.map kvR))/\Mo.Perm M
theorem LkAt.get{d b:Addr}{r:PP}(h:LkAt H d M)(nd:(M.map keyOf).Nodup)(hr:r∈M)(eb:H b=some (.tup ((keyOf r).map V.int))):DGet H d (.ref b) (some (.int (fl r 3))):=by
 obtain⟨Mo,e,pm⟩:=h;have:=pN (xx ((pm.map _).nodup_iff.mpr nd)) (zA5.mpr ⟨r,pm.mem_iff.mpr hr,rfl⟩);rw[<-this];exact DGet.t e (by rw[eb,zAr];rfl)
def DW(r:PP)(x:Int)(q:PP):PP:=if keyOf q=keyOf r then[fl r 0,fl r 1,fl r 2,x]else q
theorem Bb{Mo A B:PK}{r:PP}{x:Int}(pm:Mo.Perm (A++r::B))(nd:((A++r::B).map keyOf).Nodup):∃AE:PK,putK (Mo.map kvR) ((keyOf r).map Sum.inl) (.int x)=AE.map kvR/\AE.Perm (A++[fl r 0,fl r 1,fl r 2,x]::B):=by
 refine⟨Mo.map (DW r x),?_,?_⟩
 .unfold putK;rw[zAx (List.any_eq_true.mpr ⟨kvR r,zA5.mpr ⟨r,pm.mem_iff.mpr (zA6.mpr (.inr (.head _))),rfl⟩,zAt rfl⟩),zAr,zAr];refine List.map_congr_left λq _=>?_;show(if(kvR q).1=_ then((kvR q).1,V.int x)else kvR q)=kvR (DW r x q);unfold DW;by_cases e:keyOf q=keyOf r
  .rw[zAx e,zAx (show(kvR q).1=(keyOf r).map Sum.inl by rw[<-e];rfl)];show((keyOf q).map Sum.inl,V.int x)=((keyOf r).map Sum.inl,V.int x);rw[e]
  .rw[zAw e];exact zAw λz=>e (nG z)
 .refine(pm.map _).trans ?_;rw[zA4,zAk,List.nodup_append,List.nodup_cons]at nd;obtain⟨_,⟨n1,_⟩,n2⟩:=nd
  have keep:∀l:PK,(∀q∈l,keyOf q≠keyOf r)->l.map (DW r x)=l:=λl hl=>by
   refine(List.map_congr_left λq hq=>?_).trans (List.map_id l);exact zAw (hl q hq)
  rw[zA4,zAk,keep A λq hq e=>n2 _ (zA5.mpr ⟨q,hq,rfl⟩) _ (.head _) e,keep B λq hq e=>n1 (by rw[<-e];exact zA5.mpr ⟨q,hq,rfl⟩),show DW r x r=[fl r 0,fl r 1,fl r 2,x]from zAx rfl]
def vC(acc h:Nat):Nat:=((((acc+h*14029467366897019727) % 2^64)*2^31) % 2^64+((acc+h*14029467366897019727) % 2^64) / 2^33)*11400714785074694791 % 2^64
def Jy(acc:Nat)(h:Int):Nat:=vC acc (h % ((2^64:Nat):Int)).toNat
def mU(acc:Nat):Int:=if acc==2^64-1 then 1546275796 else if acc<2^63 then acc else(acc:Int)-(2^64:Nat)
def hLen(n:Nat):Nat:=n ^^^ (2870177450012600261 ^^^ 3527539)
theorem Lj(hs:PP):Builtin.Tuple.tupleHashOf hs=mU ((hs.foldl Jy 2870177450012600261+hLen hs.length) % 2^64):=rfl
theorem pO{acc k:Nat}(h:k<100):Jy acc (k:Int)=vC acc k:=by
 unfold Jy;rw[Int.emod_eq_of_lt Zz Zz,zAi]
def xF(y n h:Nat):Nat:=(vC (vC (vC 2870177450012600261 y) n) h+hLen 3) % 2^64
theorem DX{y n h:Nat}(hy:y<100)(hn:n<100)(hh:h<100):Builtin.Tuple.tupleHashOf [(y:Int),(n:Int),(h:Int)]=mU (xF y n h):=by
 rw[Lj,List.foldl_cons,List.foldl_cons,List.foldl_cons,List.foldl_nil,pO hy,pO hn,pO hh];rfl
theorem DY:∀k:Fin 100,hashInt ((k.1:Nat):Int)=(k.1:Int):=by decide +kernel
def hOf(ks:PP):Int:=reduceHash (Builtin.Tuple.tupleHashOf ks)
theorem xG{a:Nat}(n:a≠2^64-1):mU a=if a<2^63 then(a:Int)else(a:Int)-(2^64:Nat):=by
 unfold mU;rw[zAw (by simpa using n)]
theorem yW{a:Nat}(h:a<2^64)(n:a≠2^64-1):reduceHash (mU a)=mU a:=by
 have b:-(2^63:Int)<=mU a/\mU a<2^63/\mU a≠-1:=by
  rw[xG n];split<;>lia
 generalize mU a=x at b;unfold reduceHash;rw[zAx (by rw[zAc,Zq,Zq];exact⟨b.1,b.2.1⟩),zAw (by simpa using b.2.2)]
theorem GC{a b:Nat}(ha:a<2^64)(na:a≠2^64-1)(hb:b<2^64)(nb:b≠2^64-1)(e:mU a=mU b):a=b:=by
 rw[xG na,xG nb]at e;split at e<;>split at e<;>lia
def apart(acc:Nat):List Nat->Bool
 |[]=>true
 |a::l=>match acc.testBit a with
  |true=>false
  |false=>apart (acc |||2^a) l
theorem vD:∀{l:List Nat} {acc:Nat},apart acc l=true->l.Nodup/\∀a∈l,acc.testBit a=false
 |[],_,_=>⟨List.nodup_nil,λa h=>by cases h⟩
 |a::l,acc,h=>by
  unfold apart at h;split at h
  .cases h
  .rename_i e
   obtain⟨h1,h2⟩:=vD h;refine⟨List.nodup_cons.mpr ⟨λhm=>?_,h1⟩,λb hb=>?_⟩
   .have:=h2 a hm;rw[Nat.testBit_or,Nat.testBit_two_pow_self,Bool.or_true]at this;cases this
   .rcases zAo.mp hb with z|z
    .rw[z];exact e
    .have:=h2 b z;rw[Nat.testBit_or,Bool.or_eq_false_iff]at this;exact this.1
def Jz(y:Nat):List Nat:=(List.range 80).map λj=>(xF y (j / 8) (j % 8)) % 512
def tops(y:Nat):Bool:=(List.range 80).all λj=>!(xF y (j / 8) (j % 8)==2^64-1)
theorem JB:∀y,y<20->apart 0 (Jz y)=true:=by decide +kernel
theorem JC:∀y,y<20->tops y=true:=by decide +kernel
theorem ul(y n h:Nat):xF y n h<2^64:=Nat.mod_lt _ Zx
theorem GD{y n h n' h':Nat}(hy:y<20)(hn:n<10)(hh:h<8)(DO:n'<10)(OE:h'<8)(e:hOf [(y:Int),(n:Int),(h:Int)]=hOf [(y:Int),(n':Int),(h':Int)]):n=n'/\h=h':=by
 have top:=Zaf.mp (JC y hy)
 have nt:∀n h,n<10->h<8->xF y n h≠2^64-1:=λn h hn hh=>by
  have:=top (8*n+h) (Za5.mpr Zz);rw[show(8*n+h) / 8=n by lia,show(8*n+h) % 8=h by lia]at this;simpa using this
 unfold hOf at e;rw[DX Zz Zz Zz,DX Zz Zz Zz,yW (ul ..) (nt n h hn hh),yW (ul ..) (nt n' h' DO OE)]at e;have e:=GC (ul ..) (nt n h hn hh) (ul ..) (nt n' h' DO OE) e;have nd:(Jz y).Nodup:=(vD (JB y hy)).1;unfold Jz at nd
 have inj:∀i j,i<80->j<80->xF y (i / 8) (i % 8)=xF y (j / 8) (j % 8)->i=j:=λi j hi hj e=>by
  have nd:=List.pairwise_iff_getElem.mp nd;rcases Nat.lt_trichotomy i j with z|z|z
  .have:=nd i j (by simpa using hi) (by simpa using hj) z;simp only[List.getElem_map,List.getElem_range]at this;exact absurd (by rw[e]) this
  .exact z
  .have:=nd j i (by simpa using hj) (by simpa using hi) z;simp only[List.getElem_map,List.getElem_range]at this;exact absurd (by rw[e]) this
 have:=inj (8*n+h) (8*n'+h') Zz Zz (by
  rw[show(8*n+h) / 8=n by lia,show(8*n+h) % 8=h by lia,show(8*n'+h') / 8=n' by lia,show(8*n'+h') % 8=h' by lia]
  exact e)
 lia
theorem yX{w:World}{r:PP}{y:Int}(y0:0<=y)(y1:y<20)(h:fl r 0=y/\0<=fl r 1/\fl r 1<10/\0<=fl r 2/\fl r 2<8):reduceHash (Builtin.Tuple.tupleHashOf ((kvR r).1.map (rT w)))=hOf [((y.toNat:Nat):Int),(((fl r 1).toNat:Nat):Int),(((fl r 2).toNat:Nat):Int)]:=by
 obtain⟨a,b,c,d,f⟩:=h;have el:(kvR r).1.map (rT w)=[hashInt (fl r 0),hashInt (fl r 1),hashInt (fl r 2)]:=rfl
 have h0:hashInt (fl r 0)=((y.toNat:Nat):Int):=by
  have:=DY ⟨y.toNat,Zz⟩;rw[show((y.toNat:Nat):Int)=fl r 0 by lia]at this⊢;exact this
 have h1:hashInt (fl r 1)=(((fl r 1).toNat:Nat):Int):=by
  have:=DY ⟨(fl r 1).toNat,Zz⟩;rw[show(((fl r 1).toNat:Nat):Int)=fl r 1 by lia]at this⊢;exact this
 have h2:hashInt (fl r 2)=(((fl r 2).toNat:Nat):Int):=by
  have:=DY ⟨(fl r 2).toNat,Zz⟩;rw[show(((fl r 2).toNat:Nat):Int)=fl r 2 by lia]at this⊢;exact this
 unfold hOf;rw[el,h0,h1,h2]
theorem JD{f:List Key×V->Int}{L:PK}(nd:(L.map keyOf).Nodup)(h:∀r∈L,∀q∈L,f (kvR r)=f (kvR q)->keyOf r=keyOf q):((L.map kvR).map f).Nodup:=by
 rw[zAr];unfold List.Nodup at nd⊢;rw[Zan]at nd⊢;exact nd.imp_of_mem λ{r q} hr hq n e=>n (h r hr q hq e)
theorem JF{y:Int}{L:PK}(y0:0<=y)(y1:y<20)(h:∀r∈L,fl r 0=y/\0<=fl r 1/\fl r 1<10/\0<=fl r 2/\fl r 2<8)(nd:(L.map keyOf).Nodup)(w:World):((L.map kvR).map λp=>reduceHash (Builtin.Tuple.tupleHashOf (p.1.map (rT w)))).Nodup:=by
 refine JD nd λr hr q hq e=>?_;rw[yX y0 y1 (h r hr),yX y0 y1 (h q hq)]at e;obtain⟨a,b,c,d,f⟩:=h r hr;obtain⟨a',b',c',d',f'⟩:=h q hq;obtain⟨e1,e2⟩:=GD Zz Zz Zz Zz Zz e;unfold keyOf;rw[a,a',show fl r 1=fl q 1 by lia,show fl r 2=fl q 2 by lia]
structure Lk(ps ow:PK)(y:Nat)(M:PK):Prop where
 kd:(M.map keyOf).Nodup
 ok:∀r∈M,r.length=4/\0<=fl r 1/\fl r 1<ps.length/\0<=fl r 3
 yr:∀r∈M,fl r 0<y
 pm:(d9 M).Perm ow
 len:M.length<=240*y
theorem yZ{r:PP}(okp:∀r∈ps,okP r)(h0:0<=fl r 1)(h1:fl r 1<ps.length):0<=bh ps r/\bh ps r<3:=by
 obtain⟨p,_,e,op⟩:=fV okp h0 h1;unfold bh;rw[e];exact op.2.2.1
theorem Lk.start{y:Nat}(g:Lk ps ow y M)(c:PP)(ss:PK)(okp:∀r∈ps,okP r)(ho:∀r∈ow,okO ps r):Stg c ps ss ow y 0 M []:=by
 refine⟨g.kd,g.ok,λr hr=>.inl (g.yr r hr),?_,rfl,λr hr=>(by cases hr),by have:=g.len;lia,zAp _⟩;show(d9 M).Perm ([]++ow.filter _);rw[List.nil_append,List.filter_eq_self.mpr λr hr=>zAt ?_]
 .exact g.pm
 .exact(yZ okp (ho r hr).2.1 (ho r hr).2.2.1).1
theorem Stg.next{y:Nat}(g:Stg c ps ss ow y 3 M G)(okp:∀r∈ps,okP r)(ho:∀r∈ow,okO ps r):Lk ps (srt (yTo c ps ss ow y 3).k) (y+1) M:=by
 refine⟨g.kd,g.ok,λr hr=>?_,?_,by have:=g.len;lia⟩
 .rcases g.yr r hr with z|z<;>lia
 .have:=g.pm;rw[List.filter_eq_nil_iff.mpr,zAn]at this
  .exact this.trans (fM _).symm
  .intro r hr;have:=(yZ okp (ho r hr).2.1 (ho r hr).2.2.1).2;rw[Zq];lia
end K41
namespace K41P
open PySem L2
theorem xH{K:Frag}{te:TE}{p:Addr}{ws:PP}{cE:St}{H0:Hp}{Fin:List V->Hp->Prop}(f:Int->Int)(ep:H0 p=some (.lst (ws.map V.int)))(hl:ws.length<sizeLine)
  (vT:∀(z:Int) (Q:VK),z∈ws->Q (.int (f z)) H0->te (cE.set 0 (some (.int z))) H0 Q) (fin:Fin ((ws.map f).map V.int) H0):jm (Itl K p) (bK 0) sO te Fin cE H0:=by
 refine bM ws.length (λi ys σ H=>H=H0/\(∀o,σ.set 0 o=cE.set 0 o)/\ys=((ws.take i).map f).map V.int) ⟨rfl,λ_=>rfl,rfl⟩ hl ?_ ?_
 .rintro i ys σ H hi hy ⟨rfl,kU,rfl⟩;have hz:(ws.map V.int)[i]?=some (.int ws[i]):=by rw[zAb,zA0 hi];rfl
  refine⟨⟨_,_,SqL.of ep,hz⟩,λv H' y' R hR=>?_⟩;obtain⟨rfl,y'⟩:=y';have hv:=y' _ (SqL.of ep);rw[hz]at hv;cases hv;show te (σ.set 0 (some (.int ws[i]))) _ _;rw[kU];refine vT ws[i] _ (zAh hi) (hR _ _ _ ⟨rfl,λo=>by rw[List.set_set],?_⟩);rw[zAj,zA0 hi,zA4,zA4];rfl
 .rintro ys σ H hy ⟨rfl,kU,rfl⟩;refine⟨⟨_,SqL.of ep,by rw[zA1];exact zA3 _⟩,?_⟩;rw[zAm];exact fin
inductive SpLPartsI(vs:List V)(H:Hp)(Q:VK):Prop
 |mk:∀n p ws,(vs=[.int n,.ref p])->(H p=some (.lst (ws.map V.int)))->(OkW ws)->(0<=n)->(n<=ws.sum)->(∀H' q,Same H H'->H q=none->H' q=some (.lst ((res n ws).map V.int))->Q (.ref q) H')->SpLPartsI  vs H Q
def spLParts:Sp:=λvs H Q _=>SpLPartsI  vs H Q
theorem Ln{n:Int}{ws:PP}{i:Nat}(h:i<ws.length):rr (rs n ws) i=n*ws[i] % ws.sum:=HS (by unfold rs;rw[zAb,zA0 h];rfl)
section
variable{P:Program}{w:World}{K:Frag}{mg:Str->Option Value}{base:Heap}{f:Addr}{fd:FuncData}
theorem N8:([Y6,Y0,Zo]:List Str).Nodup:=by decide +kernel
theorem Lp:(["_law_at",Y6,Y0,Zo]:List Str).Nodup:=by decide +kernel
theorem scLC:FnScope [Y0,Zi,Zo,Y4,"_law_order","_law_rest","_law_at"] [Y0,Zi] (aJ (top 75)):=fQS
theorem ok_lparted(F:Fun K "_law_parted" "_law_parted" (top 75) f fd)(Ts:mg "sum"=none)(Te:mg "enumerate"=none)(To:mg "sorted"=none):FnOk P w K mg base CX0 1 f fd [Y0,Zi] spLParts:=by
 refine F.ok scLC (λvs H Q E h=>?_) (λay A outer s H vs Q E hr h=>?_)
 .obtain⟨n,p,ws,rfl,_⟩:=h;rfl
 .obtain⟨n,p,ws,rfl,ep,ok,n0,n1,q⟩:=h
  refine⟨_,aC (gY (i:=2) scLC.nd rfl (Or.inr rfl) (aM (cu rfl) rfl Ts boot_sum (au (pv 1) ao)))
   (aC (ig (i:=3) [Y6,Y0,Zo] [none,some 0,some 2] rfl scLC.nd rfl (Or.inl rfl) (di (pv 1))
    (λC fp Zt s₂ H₂=>⟨pgn 0 N8,bx,aU mW (aU gH (pv 1) (pv 0)) (pv 2)⟩) (λC=>cI (cI trivial)) ⟨rfl,rfl,rfl,rfl⟩)
   (aC (pss 4 scLC.nd (aM iw rfl To boot_sorted (au (bB (g:=lu K 2 (cG (bK 0) (cG (bK 1) mK))) ["_law_at",Y6,Y0,Zo] [none,none,some 0,some 2] rfl (ZT.pi_enum false rfl Te (au (pv 1) ao))
    (λC fp Zt s₂ H₂=>⟨dY rfl rfl (aq (pgn 0 Lp) (aq (pgn 1 Lp) bf)),bx,
     bO (au (aU d8 aB (aU gJ (aU gH (pv 2) (pv 1)) (pv 3))) (au (pv 0) ao))⟩) (λC=>cI (cI trivial)) ⟨rfl,rfl,rfl,rfl⟩) ao)))
   (aC (bU zB3 rfl (di (gQ sI (pv 4) jb (jc (aU d8 (pv 0) (aM (cu rfl) rfl Ts boot_sum (au (pv 3) ao)))))) (bG rfl (aq (pgn 5 scLC.nd) (aq (pgn 6 scLC.nd) bf)))
    (aG (cH (aU bw (pX bA (pv 3) (pv 6)) aB) (nO (pv 3) (pv 6) set_list))))
   (aG (aW (pv 3)))))),?_⟩
  have hp:=ok.pos;have ht:=ok.top;have se:=Dq ok;refine aP λc_ af=>?_;refine⟨_,rfl,p,ws,rfl,.inl (SqL.of ep),?_⟩;refine af _ _ ?_;clear af c_
  try dsimp only
  refine aP λc_ af=>?_;refine⟨_,rfl,p,rfl,⟨_,SqL.of ep⟩,xH (λz=>n*z / ws.sum) ep se (λz Q hz h=>⟨_,rfl,_,rfl,_,_,rfl,rfl,.inl ⟨Zz,Zz⟩,_,rfl,_,_,rfl,rfl,⟨Zz,Zz⟩,h⟩) ?_⟩;rw[show ws.map (λz=>n*z / ws.sum)=fs n ws from rfl];intro l1 dE;have s1:=Same.upd (o:=.lst ((fs n ws).map V.int)) dE;have el1:=aj (H:=H) (a:=l1) (o:=.lst ((fs n ws).map V.int));have wt:H l1=none:=dE;generalize upd H l1 _=H1 at s1 el1⊢;clear dE;refine af _ _ ?_;clear af c_
  try dsimp only
  have IC:=s1 _ _ ep;have EH:=jC n ws;refine aP λc_ af=>?_;refine⟨_,rfl,p,_,rfl,SqL.of IC,bM ws.length (λi ys σ Hc=>Same H1 Hc/\(∃o1 o2,σ=[o1,o2,some (.int n),some (.int ws.sum)])/\∃ts:List Addr,ys=ts.map V.ref/\∀j,j<i->∃a,ts[j]?=some a/\Hc a=some (.tup [.int (-(rr (rs n ws) j)),.int (j:Int)])) ⟨Same.refl H1,⟨_,_,rfl⟩,[],rfl,λj hj=>absurd hj (Nat.not_lt_zero _)⟩ se ?_ ?_⟩
  .rintro i ys σ Hc hi hy ⟨AF,⟨o1,o2,rfl⟩,ts,rfl,ja⟩;rw[zA1]at hy;have gN:SqL K Hc p (ws.map V.int):=SqL.of (AF _ _ IC);have hx:(ws.map V.int)[i]?=some (.int ws[i]):=by rw[zAb,zA0 hi];rfl
   refine⟨⟨_,_,gN,hx⟩,λv H' y R hR=>?_⟩;obtain⟨T,nT,rfl,y⟩:=y;obtain⟨x',gp,rfl⟩:=y _ gN;rw[hx]at gp;cases gp;have s2:=AF.updR (o:=.tup [.int (i:Int),.int ws[i]]) nT;refine⟨T,_,rfl,SqT.of aj,rfl,_,_,rfl,_,_,rfl,rfl,_,rfl,_,rfl,_,_,rfl,rfl,.inl ⟨Zz,Zz⟩,_,rfl,_,_,rfl,rfl,(by show 0<ws.sum;lia),_,_,rfl,rfl,_,rfl,zL,λt ht=>?_⟩;refine hR _ _ _ ⟨s2.updR ht,⟨_,_,rfl⟩,ts++[t],by rw[zA4];rfl,λj hj=>?_⟩;by_cases e:j<i
   .obtain⟨a,h1,h2⟩:=ja j e;refine⟨a,by rw[zB8 Zz];exact h1,?_⟩;exact Same.upd ht _ _ (Same.upd nT _ _ h2)
   .have e:j=i:=Zz
    subst e;refine⟨t,by rw[zB7 Zz,hy,Nat.sub_self];rfl,?_⟩;rw[aj];show some (HO.tup [V.int (0-n*ws[j] % ws.sum),V.int (j:Int)])=_;rw[Int.zero_sub,Ln hi]
  rintro ys σ Hc hy ⟨AF,_,ts,rfl,ja⟩;rw[zA1]at hy;refine⟨⟨_,SqL.of (AF _ _ IC),by rw[zA1];exact zA3 _⟩,λD hD=>?_⟩;have s2:=AF.updR (o:=.lst (ts.map V.ref)) hD
  have gS:∀j,j<ws.length->∃a,ts[j]?=some a/\upd Hc D (.lst (ts.map V.ref)) a=some (.tup [.int (-(rr (rs n ws) j)),.int (j:Int)]):=λj hj=>by
   obtain⟨a,h1,h2⟩:=ja j hj;exact⟨a,h1,Same.upd hD _ _ h2⟩
  have eD:=aj (H:=Hc) (a:=D) (o:=.lst (ts.map V.ref));generalize upd Hc D (.lst (ts.map V.ref))=H2 at s2 gS eD⊢;clear ja hD AF
  have kD:∀a∈ts,∃j,j<ws.length/\H2 a=some (.tup [.int (-(rr (rs n ws) j)),.int (j:Int)]):=λa ha=>by
   obtain⟨j,hj,e⟩:=List.getElem_of_mem ha;obtain⟨b,h1,h2⟩:=gS j Zz;rw[zA0 hj]at h1;injection h1 with h1;refine⟨j,Zz,?_⟩;rw[<-e,h1];exact h2
  refine⟨D,ts,rowAt H2,rfl,SqL.of eD,λa ha=>?_,λq' l' hq pm so=>?_⟩
  .obtain⟨j,hj,e⟩:=kD a ha;have er:rowAt H2 a=[-(rr (rs n ws) j),(j:Int)]:=by unfold rowAt;rw[e]
   rw[er];exact⟨SqT.of e,by simp⟩
  have oT:∀a∈l',∃j,j<ws.length/\H2 a=some (.tup [.int (-(rr (rs n ws) j)),.int (j:Int)]):=λa ha=>kD a (pm.mem_iff.mp ha)
  have sn:∀a∈l',H2 a=some (.tup [.int (-(rr (rs n ws) (dw H2 a))),.int (dw H2 a:Int)])/\rowAt H2 a=[-(rr (rs n ws) (dw H2 a)),(dw H2 a:Int)]:=λa ha=>by
   obtain⟨j,hj,e⟩:=oT a ha;have er:rowAt H2 a=[-(rr (rs n ws) j),(j:Int)]:=by unfold rowAt;rw[e]
   have es:dw H2 a=j:=by unfold dw;rw[e];exact zAi j
   rw[er,es];exact⟨e,rfl⟩
  have ord:Ord (rs n ws) (l'.map (dw H2)):=by
   refine⟨?_,?_⟩
   .refine(pm.map _).trans (List.Perm.of_eq (List.ext_getElem? λj=>?_));rw[EH];by_cases hj:j<ws.length
    .obtain⟨a,h1,h2⟩:=gS j hj;rw[zAb,h1,Zap hj];show some (dw H2 a)=some j;unfold dw;rw[h2];exact congrArg some (zAi j)
    .rw[List.getElem?_eq_none (by rw[zA1];lia),List.getElem?_eq_none (by rw[Zad];lia)]
   .refine Zan.mpr (so.imp_of_mem λ{a b} ha hb h=>?_);rw[(sn a ha).2,(sn b hb).2]at h;exact yL h
  have s3:=s2.updR (o:=.lst (l'.map V.ref)) hq;have QR:l'.length=ws.length:=by rw[pm.length_eq,hy]
  have pb:=aj (H:=H2) (a:=q') (o:=.lst (l'.map V.ref));have rX:∀a∈l',upd H2 q' (.lst (l'.map V.ref)) a=some (.tup [.int (-(rr (rs n ws) (dw H2 a))),.int (dw H2 a:Int)]):=λa ha=>Same.upd hq _ _ (sn a ha).1;generalize dw H2=sd at ord rX;generalize upd H2 q' (.lst (l'.map V.ref))=H3 at s3 pb rX⊢;clear hq sn oT kD gS eD s2;refine af _ _ ?_;clear af c_
  try dsimp only
  have qa:=s3 _ _ el1;have QS:=yK (n:=n) ok;have QT:=Do (n:=n) ok;refine aQ ?_;refine⟨_,rfl,_,rfl,_,rfl,l1,fs n ws,rfl,.inl (SqL.of qa),_,_,rfl,rfl,_,rfl,q',_,rfl,SqL.of pb,λl4 gi=>⟨l4,rfl,⟨_,SqL.of aj⟩,?_⟩⟩
  have w9:iH (l'.map V.ref) none (some (lf n ws))=(l'.take (lf n ws).toNat).map V.ref:=by
   rw[List.map_take,<-jZ (i:=(lf n ws).toNat) (by rw[zA1];lia),show((lf n ws).toNat:Int)=lf n ws by lia]
  rw[show n-(fs n ws).sum=lf n ws from rfl]at *;rw[w9];have fin:=Dp ord
  have inr:∀a∈l'.take (lf n ws).toNat,sd a<ws.length:=λa ha=>by
   have:=ord.lt (sd a) (zA5.mpr ⟨a,Zaq ha,rfl⟩);lia
  rw[<-List.map_take]at fin;have ID:∀a∈l'.take (lf n ws).toNat,H3 a=some (.tup [.int (-(rr (rs n ws) (sd a))),.int (sd a:Int)]):=λa ha=>rX a (Zaq ha);generalize l'.take (lf n ws).toNat=pk at fin inr ID gi⊢;have s4:=(s1.trans s3).updR (o:=.lst (pk.map V.ref)) gi;have el4:=aj (H:=H3) (a:=l4) (o:=.lst (pk.map V.ref));have lT:=Same.upd (o:=.lst (pk.map V.ref)) gi _ _ qa
  have HM:l4≠l1:=λz=>by
   rw[z,qa]at gi;cases gi
  have CO:∀a∈pk,upd H3 l4 (.lst (pk.map V.ref)) a=some (.tup [.int (-(rr (rs n ws) (sd a))),.int (sd a:Int)]):=λa ha=>Same.upd gi _ _ (ID a ha);generalize upd H3 l4 (.lst (pk.map V.ref))=H4 at s4 el4 lT CO⊢;clear gi ID rX pb qa s3;refine jG (xs:=pk.map V.ref) (λi σ Hc=>∃o5 o6,σ=[some (.int n),some (.ref p),some (.int ws.sum),some (.ref l1),some (.ref q'),o5,o6]/\Same H Hc/\Hc l4=some (.lst (pk.map V.ref))/\Hc l1=some (.lst ((du (fs n ws) ((pk.take i).map sd)).map V.int))/\∀a∈pk,Hc a=some (.tup [.int (-(rr (rs n ws) (sd a))),.int (sd a:Int)])) ?_ ?_ ?_ ?_
  .exact⟨none,none,rfl,s4,el4,lT,CO⟩
  .rintro i σ Hc hi ⟨o5,o6,rfl,s5,e4,e1,sk⟩;exact SqL.of e4
  .rintro i v σ Hc hv ⟨o5,o6,rfl,s5,e4,e1,sk⟩;rw[zAb]at hv
   cases hj:pk[i]? with
   |none=>rw[hj]at hv;cases hv
   |some a=>
    rw[hj]at hv;cases hv;have ha:=zBg hj
    have kp:∀o,Same H (upd Hc l1 o):=λo b u e=>by
     rw[az (aA e wt)];exact s5 _ _ e
    have aI:sd a<(du (fs n ws) ((pk.take i).map sd)).length:=by
     rw[jg,pH];exact inr a ha
    have hx:((du (fs n ws) ((pk.take i).map sd)).map V.int)[((sd a:Nat):Int).toNat]?=some (.int ((du (fs n ws) ((pk.take i).map sd)).getD (sd a) 0)):=by
     rw[zAi,zAb,zA0 aI,zA7,zA0 aI];rfl
    refine⟨a,_,rfl,SqT.of (sk a ha),rfl,_,_,rfl,_,_,rfl,rfl,?_⟩;dsimp only;refine⟨_,rfl,_,rfl,l1,_,(sd a:Int),_,rfl,rfl,SqL.of e1,cB (by rw[<-zAi (sd a)];exact hx),_,_,rfl,rfl,_,rfl,_,rfl,l1,_,(sd a:Int),sd a,rfl,rfl,e1,yM (by rw[zA1];exact aI),?_⟩;refine⟨_,_,rfl,kp _,by rw[az HM];exact e4,?_,λb hb=>?_⟩
    .rw[aj,zAj,hj,show(some a).toList=[a]from rfl,zA4,show[a].map sd=[sd a]from rfl,pG,List.map_set]
    .rw[az λz=>by have:=sk b hb;rw[z,e1]at this;cases this];exact sk b hb
  .rintro σ Hc ⟨o5,o6,rfl,s5,e4,e1,sk⟩;rw[zA1,zAm,fin]at e1;dsimp only;exact⟨_,rfl,q _ l1 s5 wt e1⟩
end
end K41P
namespace K41
open PySem L2
variable{fo lk:Addr}{X:Cx}{H H':Hp}{h:Int}{dm:Int->Int->Prop}{kv:List (Key×V)}{M T cs ps ss:PK}{kvs:List (List Key×V)}{as:List Addr}{L:PP}{xl xs:List V}{Y m s:Nat}
abbrev ky(n y:Int):List Key:=[.inl n,.inl y]
def KsOk(kv:List (Key×V)):Prop:=∀p∈kv,∃h:Int,p.1=.inl h/\0<=h/\h<8
theorem KsOk.put(g:KsOk kv)(h0:0<=h)(h8:h<8)(v:V):KsOk (putK kv (.inl h) v):=by
 intro p hp;unfold putK at hp;split at hp
 .obtain⟨q,hq,rfl⟩:=zA5.mp hp;split
  .exact g q hq
  .exact g q hq
 .rcases zA6.mp hp with z|z
  .exact g p z
  .rw[Zae.mp z];exact⟨h,rfl,h0,h8⟩
structure Dts(fo:Addr)(H0 H:Hp)(dm:Int->Int->Prop)(f:Int->Int->Int->Int)(b:Int->Int->Nat)(kvs:List (List Key×V)):Prop where
 sm:Same H0 H
 nf:H0 fo=none
 e:H fo=some (.dT kvs)
 g:∀n y,dm n y->∃d kv,cD kvs (ky n y)=some (.ref d)/\H d=some (.dK kv)/\(kv.length<=b n y/\KsOk kv)/\∀h,0<=h->h<8->(cD kv (.inl h)).getD (.int 0)=.int (f n y h)
 no:∀n y,¬dm n y->cD kvs (ky n y)=none
 i:∀n y n' y' d,cD kvs (ky n y)=some (.ref d)->cD kvs (ky n' y')=some (.ref d)->n=n'/\y=y'
 fr:∀n y d,cD kvs (ky n y)=some (.ref d)->H0 d=none/\d≠fo/\∃o,H d=some o
theorem Dts.new{p:Addr}{o:HO}{H0:Hp}{f:Int->Int->Int->Int}{b:Int->Int->Nat}(g:Dts fo H0 H dm f b kvs)(hp:H p=none):Dts fo H0 (upd H p o) dm f b kvs:=
 ⟨g.sm.updR hp,g.nf,Same.upd hp _ _ g.e,λn y h=>by
  obtain⟨d,kv,e1,e2,r⟩:=g.g n y h
  exact⟨d,kv,e1,Same.upd hp _ _ e2,r⟩,g.no,g.i,λn y d h=>by
  obtain⟨e1,e2,o',e3⟩:=g.fr n y d h
  exact⟨e1,e2,o',Same.upd hp _ _ e3⟩⟩
theorem Dts.same{H0:Hp}{f:Int->Int->Int->Int}{b:Int->Int->Nat}(g:Dts fo H0 H dm f b kvs)(s:Same H H'):Dts fo H0 H' dm f b kvs:=
 ⟨g.sm.trans s,g.nf,s _ _ g.e,λn y h=>by
  obtain⟨d,kv,e1,e2,r⟩:=g.g n y h
  exact⟨d,kv,e1,s _ _ e2,r⟩,g.no,g.i,λn y d h=>by
  obtain⟨e1,e2,o',e3⟩:=g.fr n y d h
  exact⟨e1,e2,o',s _ _ e3⟩⟩
theorem xJ{n y n' y':Int}(h:ky n y=ky n' y'):n=n'/\y=y':=by
 injection h with h1 h2;injection h2 with h2 _;injection h1 with h1;injection h2 with h2;exact⟨h1,h2⟩
theorem Dts.wr{d:Addr}{H0:Hp}{f f':Int->Int->Int->Int}{b b':Int->Int->Nat}{AG:List (Key×V)}{N Y:Int}(g:Dts fo H0 H dm f b kvs)(hv:cD kvs (ky N Y)=some (.ref d))
  (h1:(AG.length<=b' N Y/\KsOk AG)/\∀h,0<=h->h<8->(cD AG (.inl h)).getD (.int 0)=.int (f' N Y h)) (h2:∀n y,dm n y->¬(n=N/\y=Y)->b n y<=b' n y/\∀h,0<=h->h<8->f' n y h=f n y h):Dts fo H0 (upd H d (.dK AG)) dm f' b' kvs:=by
 obtain⟨w1,w2,_⟩:=g.fr _ _ _ hv;refine⟨λc o e=>by rw[az (aA e w1)];exact g.sm _ _ e,g.nf,by rw[az w2.symm];exact g.e,λn y hd=>?_,g.no,g.i,λn y d' hd=>?_⟩
 .by_cases hk:n=N/\y=Y
  .obtain⟨rfl,rfl⟩:=hk;exact⟨d,AG,hv,aj,h1⟩
  .obtain⟨d',kv,q1,q2,q3,q4⟩:=g.g n y hd;have nd:d'≠d:=λz=>hk (g.i _ _ _ _ _ (z▸q1) hv);obtain⟨k1,k2⟩:=h2 n y hd hk;exact⟨d',kv,q1,by rw[az nd];exact q2,⟨Zak q3.1 k1,q3.2⟩,λh z1 z2=>by rw[k2 h z1 z2];exact q4 h z1 z2⟩
 .obtain⟨w3,w4,o,w5⟩:=g.fr n y d' hd;by_cases OF:d'=d
  .exact⟨w3,w4,.dK AG,by rw[OF];exact aj⟩
  .exact⟨w3,w4,o,by rw[az OF];exact w5⟩
theorem Dts.cast{H0:Hp}{f f':Int->Int->Int->Int}{b b':Int->Int->Nat}(g:Dts fo H0 H dm f b kvs)(h2:∀n y,dm n y->b n y<=b' n y/\∀h,0<=h->h<8->f' n y h=f n y h):Dts fo H0 H dm f' b' kvs:=
 ⟨g.sm,g.nf,g.e,λn y hd=>by
  obtain⟨d',kv,q1,q2,q3,q4⟩:=g.g n y hd;obtain⟨k1,k2⟩:=h2 n y hd
  exact⟨d',kv,q1,q2,⟨Zak q3.1 k1,q3.2⟩,λh z1 z2=>by rw[k2 h z1 z2];exact q4 h z1 z2⟩,g.no,g.i,g.fr⟩
def dom(ps:PK)(n y:Int):Prop:=0<=n/\n<ps.length/\fl (ps.getD n.toNat []) 2<=y/\y<=fl (ps.getD n.toNat []) 3
def f0(ps:PK)(n y h:Int):Int:=if h=fl (ps.getD n.toNat []) 0 then fl (ps.getD n.toNat []) 4 else 0
inductive SpBegunI(vs:List V)(H:Hp)(Q:VK):Prop
 |mk:∀ap xp ps,(vs=[.ref ap])->(RowsAt H ap xp ps)->(ps.length<=10)->((∀r∈ps,okP r))->(∀fo H' kvs,Dts fo H H' (dom ps) (f0 ps) (λ_ _=>1) kvs->Q (.ref fo) H')->SpBegunI  vs H Q
def za:Sp:=λvs H Q _=>SpBegunI  vs H Q
variable{P:Program}{w:World}{K:Frag}{mg:Str->Option Value}{base:Heap}{f:Addr}{fd:FuncData}
theorem sc34s:FnScope [Yq,Y4,Y7,Zg,Yz,Y5,"_law_last",Y0,"_law_price",Yt] [Yq] (aJ (top 68)):=fQS
theorem Ea(F:Fun K "_law_begun" "_law_begun" (top 68) f fd)(Te:mg "enumerate"=none)(Tr:mg "range"=none):FnOk P w K mg base CX0 1 f fd [Yq] za:=by
 refine F.ok sc34s (λvs H Q E h=>?_) (λay A outer s H vs Q E hr h=>?_)
 .obtain⟨ap,xp,ps,rfl,_⟩:=h;rfl
 .obtain⟨ap,xp,ps,rfl,rp,lp,okp,q⟩:=h
  refine⟨_,aC (pss 1 sc34s.nd oH)
   (aC (bU zB3 rfl (ZT.pi_enum true rfl Te (au (pv 0) ao)) (bG rfl (aq (pgn 2 sc34s.nd) (aq (bG rfl (aq (pgn 3 sc34s.nd) (aq (pgn 4 sc34s.nd) (aq (pgn 5 sc34s.nd)
     (aq (pgn 6 sc34s.nd) (aq (pgn 7 sc34s.nd) (aq (pgn 8 sc34s.nd) bf))))))) bf)))
    (aG (bU zB3 rfl (j8 rfl Tr (au (pv 5) (au (aU bw (pv 6) aB) ao))) (pgn 9 sc34s.nd)
     (aG (ni (eO hr) (pv 1) (bO (au (pv 2) (au (pv 9) ao))) (G3 (Ci (pv 3) (pv 7) FZ) rfl rfl Zy Zx) rfl)))))
   (aG (aW (pv 1)))),?_⟩
  refine aQ (aY ?_);refine λfo OG=>?_;refine aD ?_;dsimp only;refine aQ ?_
  have d0:Dts fo H (upd H fo (.dT [])) (λ_ _=>False) (f0 ps) (λ_ _=>1) []:=⟨Same.upd OG,OG,aj,λ_ _ z=>z.elim,λ_ _ _=>rfl,λ_ _ _ _ _ z=>(by cases z),λ_ _ _ z=>(by cases z)⟩
  generalize upd H fo (.dT [])=H1 at d0⊢;refine⟨_,rfl,ap,xp,rfl,SqT.of (d0.sm _ _ rp.e),?_⟩;refine ZT.for_enum true (xs:=xp) (λi σ Hc=>Xe9 λx2 x3 x4 x5 x6 x7 x8 x9 kvs=>Xa3 (σ=[some (.ref ap),some (.ref fo),x2,x3,x4,x5,x6,x7,x8,x9]) (Dts fo H Hc (λn y=>dom ps n y/\n<i) (f0 ps) (λ_ _=>1) kvs) (kvs.length<=20*i)) ?_ ?_ ?_ ?_
  .exact⟨none,none,none,none,none,none,none,none,[],rfl,⟨d0.sm,d0.nf,d0.e,λn y z=>by
    have:=z.1.1;have:=z.2
    lia,λn y _=>d0.no n y id,d0.i,d0.fr⟩,zA3 _⟩
  .rintro i σ Hc hi ⟨x2,x3,x4,x5,x6,x7,x8,x9,kvs,rfl,dt,lk⟩;exact SqT.of (dt.sm _ _ rp.e)
  .rintro i x σ Hc T0 hx ⟨x2,x3,x4,x5,x6,x7,x8,x9,kvs,rfl,dt,lk⟩ nT
   have hi:i<ps.length:=by
    have:=(zAa.mp hx).1;rw[rp.l]at this;exact this
   obtain⟨tr,fz,eW⟩:=rp.g i ps[i] (zA0 hi)
   have:x=.ref tr:=by
    rw[hx]at fz;exact zAl fz
   subst this;have op:=okp ps[i] (zAh hi)
   have ep:ps.getD ((i:Int)).toNat []=ps[i]:=by
    rw[zAi];exact getD_get hi
   have dT:=dt.new (o:=.tup [V.int i,V.ref tr]) nT;generalize Xd:ps[i]=p at eW op ep;have CU:=dT.sm _ _ eW;rw[dZ op.1]at CU;obtain⟨_,⟨a1,a2⟩,_,⟨c1,c2,c3⟩,⟨e1,e2⟩,_⟩:=op;refine⟨T0,_,rfl,SqT.of aj,rfl,_,_,rfl,_,_,rfl,?_⟩;refine⟨tr,_,rfl,SqT.of CU,rfl,_,_,rfl,_,_,rfl,_,_,rfl,_,_,rfl,_,_,rfl,_,_,rfl,rfl,rfl,?_⟩;refine⟨_,rfl,_,rfl,_,_,rfl,rfl,fl p 2,fl p 3+1,rfl,⟨Zz,Zz,Zz,Zz⟩,?_⟩;generalize upd Hc T0 (.tup [V.int i,V.ref tr])=H2 at dT⊢;refine cj (lo:=fl p 2) (n:=(fl p 3+1-fl p 2).toNat) (λj σ Hj=>∃x9 kvs,σ=[some (.ref ap),some (.ref fo),some (.int i),some (.int (fl p 0)),some (.int (fl p 1)),some (.int (fl p 2)),some (.int (fl p 3)),some (.int (fl p 4)),some (.int (fl p 5)),x9]/\Dts fo H Hj (λn y=>dom ps n y/\(n<i\/(n=i/\y<fl p 2+j))) (f0 ps) (λ_ _=>1) kvs/\kvs.length<=20*i+j) ?_ ?_ ?_
   .exact⟨x9,kvs,rfl,⟨dT.sm,dT.nf,dT.e,λn y z=>dT.g n y ⟨z.1,by
     rcases z.2 with z2|⟨z2,z3⟩
     .exact z2
     .obtain⟨_,_,w1,_⟩:=z.1;rw[z2,ep]at w1
      lia⟩,λn y z=>dT.no n y λz'=>z ⟨z'.1,.inl z'.2⟩,dT.i,dT.fr⟩,lk⟩
   .rintro j σ Hj hj ⟨x9,kvs,rfl,dj,lj⟩;refine aD ?_;refine λp1 AH=>?_;refine⟨_,rfl,_,rfl,aj,[(.inl (fl p 0),.int (fl p 4))],rfl,(by show 1<=15;decide),?_⟩
    have hD:∀b o,Hj b=some o->upd (upd Hj p1 (.dK [])) p1 (.dK (iJ [] [(.inl (fl p 0),.int (fl p 4))])) b=some o:=λb o e=>by
     rw[az (aA e AH),az (aA e AH)];exact e
    have zi:upd (upd Hj p1 (.dK [])) p1 (.dK (iJ [] [(.inl (fl p 0),.int (fl p 4))])) p1=some (.dK [(.inl (fl p 0),.int (fl p 4))]):=aj;generalize upd (upd Hj p1 (.dK [])) p1 (.dK (iJ [] [(.inl (fl p 0),.int (fl p 4))]))=HD at hD zi⊢
    have OH:p1≠fo:=λz=>by
     rw[z,dj.e]at AH;cases AH
    refine⟨_,rfl,_,rfl,_,rfl,zL,λt ht=>⟨fo,_,rfl,DPut.t (k:=ky i (fl p 2+j)) (Same.upd ht _ _ (hD _ _ dj.e)) aj Zu,?_⟩⟩
    have kp:∀b o,Hj b=some o->b≠fo->upd (upd HD t (.tup [V.int i,V.int (fl p 2+j)])) fo (.dT (putK kvs (ky i (fl p 2+j)) (.ref p1))) b=some o:=λb o e ne=>by
     rw[az ne];exact Same.upd ht _ _ (hD _ _ e)
    have CY:upd (upd HD t (.tup [V.int i,V.int (fl p 2+j)])) fo (.dT (putK kvs (ky i (fl p 2+j)) (.ref p1))) p1=some (.dK [(.inl (fl p 0),.int (fl p 4))]):=by
     rw[az OH];exact Same.upd ht _ _ zi
    have Ro:H p1=none:=dj.sm.free AH;refine⟨_,_,rfl,⟨λb o e=>kp b o (dj.sm _ _ e) (aA e dj.nf),dj.nf,aj,λn y z=>?_,λn y z=>?_,λn y n' y' d z z'=>?_,λn y d z=>?_⟩,?_⟩
    .by_cases hk:ky n y=ky i (fl p 2+j)
     .obtain⟨rfl,rfl⟩:=xJ hk;refine⟨p1,_,by rw[fD,zAx rfl],CY,⟨zA3 _,λp hp=>⟨fl _ 0,by rw[Zae.mp hp],a1,Zz⟩⟩,λh h0 h8=>?_⟩;unfold f0;rw[ep];by_cases hh:h=fl p 0
      .rw[zAx hh,cT (show(Sum.inl (fl p 0):Key)=.inl h by rw[hh])];rfl
      .rw[zAw hh,cU (λz=>hh (by injection z with z;exact z.symm))];rfl
     .have hd:dom ps n y/\(n<i\/(n=i/\y<fl p 2+j)):=⟨z.1,by
       rcases z.2 with z2|⟨z2,z3⟩
       .exact .inl z2
       .refine .inr ⟨z2,?_⟩;have:y≠fl p 2+j:=λw=>hk (by rw[z2,w])
        lia⟩
      obtain⟨d,kv,q1,q2,q3⟩:=dj.g n y hd;exact⟨d,kv,by rw[fD,zAw hk];exact q1,kp _ _ q2 (dj.fr n y d q1).2.1,q3⟩
    .have hk:¬ky n y=ky i (fl p 2+j):=λw=>by
      obtain⟨rfl,rfl⟩:=xJ w;exact z ⟨⟨Zz,Zz,by rw[ep];lia,by rw[ep];lia⟩,.inr ⟨rfl,Zz⟩⟩
     rw[fD,zAw hk];exact dj.no n y λz'=>z ⟨z'.1,z'.2.elim .inl λw=>.inr ⟨w.1,Zz⟩⟩
    .rw[fD]at z z'
     have old:∀n y,cD kvs (ky n y)=some (.ref p1)->False:=λn y w=>by
      obtain⟨_,_,o,w3⟩:=dj.fr n y p1 w;rw[AH]at w3;cases w3
     by_cases h1:ky n y=ky i (fl p 2+j)
     .rw[zAx h1]at z;by_cases h2:ky n' y'=ky i (fl p 2+j)
      .exact xJ (h1.trans h2.symm)
      .rw[zAw h2]at z';injection z with z;injection z with z;rw[<-z]at z';exact(old _ _ z').elim
     .rw[zAw h1]at z;by_cases h2:ky n' y'=ky i (fl p 2+j)
      .rw[zAx h2]at z';injection z' with z';injection z' with z';rw[<-z']at z;exact(old _ _ z).elim
      .rw[zAw h2]at z';exact dj.i _ _ _ _ _ z z'
    .rw[fD]at z;by_cases h1:ky n y=ky i (fl p 2+j)
     .rw[zAx h1]at z;injection z with z;injection z with z;rw[<-z];exact⟨Ro,OH,_,CY⟩
     .rw[zAw h1]at z;obtain⟨w1,w2,o,w3⟩:=dj.fr n y d z;exact⟨w1,w2,o,kp _ _ w3 w2⟩
    .have:=cV kvs (ky i (fl p 2+j)) (V.ref p1);lia
   .rintro σ Hj ⟨x9,kvs,rfl,dj,lj⟩;refine⟨_,_,_,_,_,_,_,_,kvs,rfl,⟨dj.sm,dj.nf,dj.e,λn y z=>dj.g n y ⟨z.1,?_⟩,λn y z=>dj.no n y λz'=>z ⟨z'.1,z'.2.elim (λw=>by lia) λw=>by lia⟩,dj.i,dj.fr⟩,Zz⟩;by_cases hn:n<i
    .exact .inl hn
    .have e9:n=i:=by
      have:=z.2;lia
     refine .inr ⟨e9,?_⟩;obtain⟨_,_,_,w1⟩:=z.1;rw[e9,ep]at w1;lia
  .rintro σ Hc ⟨x2,x3,x4,x5,x6,x7,x8,x9,kvs,rfl,dt,lk⟩;refine⟨_,rfl,q fo Hc kvs ⟨dt.sm,dt.nf,dt.e,λn y z=>dt.g n y ⟨z,?_⟩,λn y z=>dt.no n y λz'=>z z'.1,dt.i,dt.fr⟩⟩;rw[rp.l];exact z.2.1
def pP(ps:PK)(f:Int->Int->Int->Int)(s:PP):Bool:=qu ps s&&(years (fl s 4) (fl (pF ps s) 3)).all λy=>decide (fl s 3<=f (fl s 0) y (fl s 1))
inductive SpLHoldsI(vs:List V)(H:Hp)(Q:VK):Prop
 |mk:∀ap xp ps fo H0 f b kvs t s,(vs=[.ref ap,.ref fo,.ref t])->(RowsAt H ap xp ps)->((∀r∈ps,okP r))->(Dts fo H0 H (dom ps) f b kvs)->(H t=some (.tup (s.map V.int)))->(s.length=5)->(∀H',Same H H'->Q (.bl (pP ps f s)) H')->SpLHoldsI  vs H Q
def vG:Sp:=λvs H Q _=>SpLHoldsI  vs H Q
theorem GF{ns:PP}{M k:Int}(h1:M∈ns)(h2:∀a∈ns,M<=a):decide (k<=M)=ns.all λa=>decide (k<=a):=by
 rw[Bool.eq_iff_iff,Zq,Zaf];exact⟨λh a ha=>zAt (Int.le_trans h (h2 a ha)),λh=>zB6 (h M h1)⟩
theorem Lq{σ:St}{ta tb:TE}{i j:Int}(a:Ev σ H ta (.int i))(b:Ev σ H tb (.int j)):Ev σ H (tOp rEq ta tb) (.bl (decide (i=j))):=λQ q=>a _ (b _ ⟨rfl,by
 have ed:decide (V.int i=V.int j)=decide (i=j):=decide_eq_decide.mpr ⟨λz=>by injection z,λz=>by rw[z]⟩;rw[ed]
 exact q⟩)
theorem sc35s:FnScope [Yq,Yv,Y8,Y7,Zm,"_law_buyer",Y0,Yt,Y5,"_law_last"] [Yq,Yv,Y8] (aJ (top 69)):=fQS
theorem Nb:([Y6,Yv,Y7,Zm]:List Str).Nodup:=by decide +kernel
theorem Bd(F:Fun K "_law_holds" "_law_holds" (top 69) f fd)(T:Mg mg)(Tr:mg "range"=none)(Tm:mg "min"=none):FnOk P w K mg base CX0 1 f fd [Yq,Yv,Y8] vG:=by
 refine F.ok sc35s (λvs H Q E h=>?_) (λay A outer s H vs Q E hr h=>?_)
 .obtain⟨ap,xp,ps,fo,H0,g,b,kvs,t,r,rfl,_⟩:=h;rfl
 .obtain⟨ap,xp,ps,fo,H0,g,b,kvs,t,r,rfl,rp,okp,dt,et,h5,q⟩:=h
  refine⟨_,aC (cH (pv 2) (bG rfl (aq (bC (i:=3) sc35s.nd rfl (Or.inr rfl)) (aq (bC (i:=4) sc35s.nd rfl (Or.inr rfl)) (aq (pgn 5 sc35s.nd) (aq (pgn 6 sc35s.nd) (aq (pgn 7 sc35s.nd) bf)))))))
   (aC (dh (PW.pt (uw (cW (fY bV nQ aB (pv 3) (aM bY rfl T.len PySem.boot_len (au (pv 0) ao)))) (uw (cW (fY bV bV aB (pv 4) aB)) (uw (cW (fY bV bV aB (pv 5) aB)) (vY (bT jH (pv 4) (pv 5) (bQ _))))))) (aG (aW lV)) bN)
   (aC (vZ (i:=8) (j:=9) rfl sc35s.nd rfl rfl Zx rfl rfl (au (pX bR (pX bR (pv 0) (pv 3)) aB) (au (pX bR (pX bR (pv 0) (pv 3)) aB) ao)) rfl)
   (aC (dh (PW.pt (uw (cW (fY bV bV aB (pv 6) aB)) (vY (cW (fY bV bV (pv 8) (pv 7) (pv 9)))))) (aG (aW lV)) bN)
   (aG (aW (j9 BL (aM (ql rfl) rfl Tm boot_min (au (bB [Y6,Yv,Y7,Zm] [none,some 1,some 3,some 4] rfl (j8 rfl Tr (au (pv 7) (au (aU bw (pv 9) aB) ao)))
    (λC fp Zt s₂ H₂=>⟨pgn 0 Nb,bx,oK (eO hr) (fQ (eO hr) (pv 1) (bO (au (pv 2) (au (pv 0) ao))) (λ_ _=>rfl)) (pv 3) aB (by constructor<;>rfl)⟩)
    (λC=>cI (cI (cI trivial))) ⟨rfl,rfl,rfl,rfl⟩) ao)) (pv 6) (bQ _))))))),?_⟩
  have fin:=q;unfold pP qu at fin;rw[iY h5]at et;refine aQ ?_;refine⟨_,rfl,t,_,rfl,SqT.of et,rfl,_,_,rfl,_,_,rfl,_,_,rfl,_,_,rfl,_,_,rfl,rfl,?_⟩;dsimp only;refine aQ ?_;refine cz (p:=λi j=>decide (i<=j)) (q:=λi j=>decide (i<j)) (i:=0) (j:=fl r 0) (k:=(xp.length:Int)) fU (dX rfl) (λQ h=>⟨_,rfl,ap,xp,rfl,.inr (SqT.of rp.e),h⟩) _ ⟨_,rfl,?_⟩;rw[rp.l]
  cases e1:(decide (0<=fl r 0)&&decide (fl r 0<ps.length))with
  |false=>
   rw[e1]at fin;exact cC (cC (fin H (Same.refl H)))
  |true=>
  rw[e1]at fin;refine bZ ?_;refine cz (p:=λi j=>decide (i<=j)) (q:=λi j=>decide (i<=j)) (i:=0) (j:=fl r 1) (k:=7) fU (dX rfl) fU _ ⟨_,rfl,?_⟩;dsimp only;rw[show decide (fl r 1<=7)=decide (fl r 1<8)from decide_eq_decide.mpr Zz]
  cases e2:(decide (0<=fl r 1)&&decide (fl r 1<8))with
  |false=>
   rw[e2]at fin;exact cC (cC (fin H (Same.refl H)))
  |true=>
  rw[e2]at fin;refine bZ ?_;refine cz (p:=λi j=>decide (i<=j)) (q:=λi j=>decide (i<=j)) (i:=0) (j:=fl r 2) (k:=7) fU (dX rfl) fU _ ⟨_,rfl,?_⟩;dsimp only;rw[show decide (fl r 2<=7)=decide (fl r 2<8)from decide_eq_decide.mpr Zz]
  cases e3:(decide (0<=fl r 2)&&decide (fl r 2<8))with
  |false=>
   rw[e3]at fin;exact cC (cC (fin H (Same.refl H)))
  |true=>
  rw[e3]at fin;refine bZ ?_;refine Lq (i:=fl r 1) (j:=fl r 2) (dX rfl) (dX rfl) _ ⟨_,rfl,?_⟩
  cases e4:decide (fl r 1=fl r 2)with
  |true=>
   rw[e4]at fin;exact cC (fin H (Same.refl H))
  |false=>
  rw[e4]at fin;refine bZ (dJ ?_);dsimp only;refine aQ ?_;rw[zAc,Zq,Zq]at e1 e2;obtain⟨p,hp,ep,op⟩:=fV okp e1.1 e1.2;have wx:pF ps r=p:=ep;rw[wx]at fin;obtain⟨tp,eJ,fe⟩:=gG rp e1.1 hp;rw[dZ op.1]at fe;obtain⟨_,_,_,⟨g1,g2,g3⟩,_⟩:=id op;refine⟨_,rfl,_,rfl,ap,xp,_,.ref tp,rfl,rfl,SqT.of rp.e,eJ,tp,_,2,.int (fl p 2),rfl,rfl,SqT.of fe,rfl,?_⟩;refine⟨_,rfl,_,rfl,ap,xp,_,.ref tp,rfl,rfl,SqT.of rp.e,eJ,tp,_,3,.int (fl p 3),rfl,rfl,SqT.of fe,rfl,?_⟩;refine⟨_,_,rfl,?_⟩;dsimp only;refine aQ ?_;refine cz (p:=λi j=>decide (i<=j)) (q:=λi j=>decide (i<=j)) (i:=1) (j:=fl r 3) (k:=99) fU (dX rfl) fU _ ⟨_,rfl,?_⟩;dsimp only
  cases e5:(decide (1<=fl r 3)&&decide (fl r 3<=99))with
  |false=>
   rw[e5]at fin;exact cC (cC (fin H (Same.refl H)))
  |true=>
  rw[e5]at fin;refine bZ ?_;refine cz (p:=λi j=>decide (i<=j)) (q:=λi j=>decide (i<=j)) (i:=fl p 2) (j:=fl r 4) (k:=fl p 3) (dX rfl) (dX rfl) (dX rfl) _ ⟨_,rfl,?_⟩;dsimp only
  cases e6:(decide (fl p 2<=fl r 4)&&decide (fl r 4<=fl p 3))with
  |false=>
   rw[e6]at fin;exact cC (fin H (Same.refl H))
  |true=>
  rw[e6]at fin;rw[zAc,Zq,Zq]at e6;refine bZ (dJ ?_);dsimp only;refine⟨_,rfl,_,rfl,_,_,rfl,rfl,fl r 4,fl p 3+1,rfl,⟨Zz,Zz,Zz,Zz⟩,?_⟩;refine vg (λys Hc=>Same H Hc/\ys=((years (fl r 4) (fl p 3)).take ys.length).map λy=>V.int (g (fl r 0) y (fl r 1))) ⟨Same.refl _,rfl⟩ Zu ?_ ?_
  .rintro i ys Hc Qc hi hy ⟨sc,ey⟩ qc;refine⟨_,rfl,_,rfl,_,rfl,zL,λk hk=>?_⟩;have sk:=sc.updR (o:=.tup [V.int (fl r 0),V.int (fl r 4+i)]) hk;have dk:=dt.same sk;obtain⟨d,kv,q1,q2,q3,q4⟩:=dk.g (fl r 0) (fl r 4+i) ⟨e1.1,e1.2,by rw[ep];lia,by rw[ep];lia⟩;refine⟨fo,.ref d,rfl,by rw[<-q1];exact DGet.t dk.e aj,?_⟩;refine⟨d,rfl,.inl ⟨kv,.inl q2⟩,_,rfl,_,DGet.k (k:=.inl (fl r 1)) q2,?_⟩;rw[q4 _ e2.1 e2.2];refine qc _ _ ⟨sk,?_⟩
   have hx:(years (fl r 4) (fl p 3))[ys.length]?=some (fl r 4+(i:Int)):=by
    rw[hy];exact lO hi
   exact rB ey hx
  .rintro ys Hc hy ⟨sc,ey⟩ D hD;rw[Zai (by rw[lN,hy];exact zA3 _)]at ey;refine⟨D,(years (fl r 4) (fl p 3)).map λy=>g (fl r 0) y (fl r 1),rfl,SqL.of (by rw[zAr];rw[ey];exact aj),?_,λM h1 h2=>⟨_,rfl,_,_,rfl,rfl,?_⟩⟩
   .intro z;have:=congrArg List.length z;rw[zA1,lN,List.length_nil]at this;lia
   .have em:=GF (k:=fl r 3) h1 h2;rw[List.all_map]at em;show Q (.bl (decide (fl r 3<=M))) _;rw[em];exact fin _ (sc.updR hD)
def dl(s:PP)(h:Int):Int:=(if h=fl s 2 then fl s 3 else 0)-(if h=fl s 1 then fl s 3 else 0)
def fS(f:Int->Int->Int->Int)(s:PP)(n y h:Int):Int:=if n=fl s 0/\fl s 4<=y then f n y h+dl s h else f n y h
theorem GJ{d:Addr}{a b:HO}:upd (upd H d a) d b=upd H d b:=by
 funext c;by_cases h:c=d
 .subst h;rw[aj,aj]
 .rw[az h,az h,az h]
theorem vH{i v:Int}(hl:L.length=8)(i0:0<=i)(i1:i<8)(h0:0<=h)(h1:h<8):(jB L i v).getD h.toNat 0=L.getD h.toNat 0+(if h=i then v else 0):=by
 unfold jB;rw[zA7,List.getElem?_set];by_cases hh:h=i
 .subst hh;rw[zAx rfl,zAx rfl,zAx Zz];rfl
 .rw[zAw Zz,zAw hh,<-zA7];lia
theorem Be{s:PP}{n y:Int}(hl:L.length=8)(ok:okS s)(h0:0<=h)(h1:h<8):(hstep n y L s).getD h.toNat 0=if n=fl s 0/\fl s 4<=y then L.getD h.toNat 0+dl s h else L.getD h.toNat 0:=by
 obtain⟨_,⟨a1,a2⟩,b1,b2⟩:=ok;unfold hstep dl;by_cases hc:fl s 0=n/\fl s 4<=y
 .rw[zAx hc,zAx ⟨hc.1.symm,hc.2⟩,vH (by rw[iW];exact hl) b1 b2 h0 h1,vH hl a1 a2 h0 h1];split<;>split<;>lia
 .rw[zAw hc,zAw λz=>hc ⟨z.1.symm,z.2⟩]
theorem Bf{p s:PP}{n y:Int}(js:fl p 2<=y/\y<=fl p 3)(ok:okS s)(h0:0<=h)(h1:h<8):
  (bL p (ss++[s]) n y).getD h.toNat 0=if n=fl s 0/\fl s 4<=y then(bL p ss n y).getD h.toNat 0+dl s h else(bL p ss n y).getD h.toNat 0:=by
 have hl:=eU p ss n y
 have e:bL p (ss++[s]) n y=hstep n y (bL p ss n y) s:=by
  unfold bL;rw[zAx js,zAx js,List.foldl_append];rfl
 rw[e,Be hl ok h0 h1]
inductive SpSellI(vs:List V)(H:Hp)(Q:VK):Prop
 |mk:∀ap xp ps fo H0 f b kvs t s,(vs=[.ref ap,.ref fo,.ref t])->(RowsAt H ap xp ps)->((∀r∈ps,okP r))->(Dts fo H0 H (dom ps) f (λ_ _=>b) kvs)->(b<=1000)->(H t=some (.tup (s.map V.int)))->(s.length=5)->(pP ps f s=true)->(∀H',Dts fo H0 H' (dom ps) (fS f s) (λ_ _=>b+2) kvs->Q .non H')->SpSellI  vs H Q
def Eb:Sp:=λvs H Q _=>SpSellI  vs H Q
theorem sc36s:FnScope [Yq,Yv,Y8,Y7,Zm,"_law_buyer",Y0,Yt,Y6,Zf] [Yq,Yv,Y8] (aJ (top 70)):=fQS
theorem GK(F:Fun K "_law_sell" "_law_sell" (top 70) f fd)(Tr:mg "range"=none):FnOk P w K mg base CX0 1 f fd [Yq,Yv,Y8] Eb:=by
 refine F.ok sc36s (λvs H Q E h=>?_) (λay A outer s H vs Q E hr h=>?_)
 .obtain⟨ap,xp,ps,fo,H0,g,b,kvs,t,r,rfl,_⟩:=h;rfl
 .obtain⟨ap,xp,ps,fo,H0,g,b,kvs,t,r,rfl,rp,okp,dt,hb,et,h5,hh,q⟩:=h
  refine⟨_,aC (cH (pv 2) (bG rfl (aq (pgn 3 sc36s.nd) (aq (pgn 4 sc36s.nd) (aq (pgn 5 sc36s.nd) (aq (pgn 6 sc36s.nd) (aq (pgn 7 sc36s.nd) bf)))))))
   (aG (bU zB3 rfl (j8 rfl Tr (au (pv 7) (au (aU bw (pX bR (pX bR (pv 0) (pv 3)) aB) aB) ao))) (pgn 8 sc36s.nd)
    (aC (pss 9 sc36s.nd (fQ (eO hr) (pv 1) (bO (au (pv 3) (au (pv 8) ao))) (λ_ _=>rfl)))
    (aC (ni (eO hr) (pv 9) (pv 4) (aU d8 (fQ (eO hr) (pv 9) (pv 4) (λ_ _=>rfl)) (pv 6)) rfl)
    (aG (ni (eO hr) (pv 9) (pv 5) (aU bw (oK (eO hr) (pv 9) (pv 5) aB (by constructor<;>rfl)) (pv 6)) rfl)))))),?_⟩
  rw[iY h5]at et;unfold pP qu at hh;simp only[Bool.and_eq_true,Zq,Bool.not_eq_true',decide_eq_false_iff_not]at hh;obtain⟨⟨⟨n0,n1⟩,⟨a1,a2⟩,⟨b1,b2⟩,HV,⟨k1,k2⟩,y0,y1⟩,hy⟩:=hh;obtain⟨p,hp,ep,op⟩:=fV okp n0 n1;have wx:pF ps r=p:=ep;rw[wx]at y0 y1 hy;obtain⟨tp,eJ,fe⟩:=gG rp n0 hp;rw[dZ op.1]at fe;obtain⟨_,_,_,⟨g1,g2,g3⟩,_⟩:=id op;refine aQ ?_;refine⟨_,rfl,t,_,rfl,SqT.of et,rfl,_,_,rfl,_,_,rfl,_,_,rfl,_,_,rfl,_,_,rfl,rfl,?_⟩;dsimp only;refine⟨_,rfl,_,rfl,_,rfl,ap,xp,_,.ref tp,rfl,rfl,SqT.of rp.e,eJ,tp,_,3,.int (fl p 3),rfl,rfl,SqT.of fe,rfl,_,_,rfl,rfl,fl r 4,fl p 3+1,rfl,⟨Zz,Zz,Zz,Zz⟩,?_⟩
  refine cj (lo:=fl r 4) (n:=(fl p 3+1-fl r 4).toNat) (λj σ Hj=>∃x8 x9,σ=[some (.ref ap),some (.ref fo),some (.ref t),some (.int (fl r 0)),some (.int (fl r 1)),some (.int (fl r 2)),some (.int (fl r 3)),some (.int (fl r 4)),x8,x9] /\
   Dts fo H0 Hj (dom ps) (λn y h=>if n=fl r 0/\fl r 4<=y/\y<fl r 4+j then g n y h+dl r h else g n y h) (λn y=>if n=fl r 0/\fl r 4<=y/\y<fl r 4+j then b+2 else b) kvs) ?_ ?_ ?_
  .refine⟨none,none,rfl,dt.cast λn y hd=>?_⟩;rw[zAw Zz];exact⟨zA3 _,λh _ _=>by rw[zAw Zz]⟩
  .rintro j σ Hj hj ⟨x8,x9,rfl,dj⟩;refine aD (aQ ?_);refine aY ?_;refine⟨_,rfl,_,rfl,_,rfl,zL,λk hk=>?_⟩;have dk:=dj.new (o:=.tup [V.int (fl r 0),V.int (fl r 4+j)]) hk;have ek:upd Hj k (.tup [V.int (fl r 0),V.int (fl r 4+j)]) k=some (.tup ((ky (fl r 0) (fl r 4+j)).map kV)):=aj;generalize upd Hj k (.tup [V.int (fl r 0),V.int (fl r 4+j)])=H1 at dk ek⊢
   have IE:dom ps (fl r 0) (fl r 4+j):=⟨n0,n1,by rw[ep];lia,by rw[ep];lia⟩
   obtain⟨d,kv,q1,q2,⟨q3,qk⟩,q4⟩:=dk.g _ _ IE;rw[zAw Zz]at q3;refine⟨fo,.ref d,rfl,by rw[<-q1];exact DGet.t dk.e ek,?_⟩;refine aD ?_;dsimp only;have kq:=q4 (fl r 1) a1 a2;rw[zAw Zz]at kq
   have rL:fl r 3<=g (fl r 0) (fl r 4+j) (fl r 1):=by
    have:=Zaf.mp hy (fl r 4+j) (zBg (lO hj));exact zB6 this
   have IF:cD kv (.inl (fl r 1))=some (.int (g (fl r 0) (fl r 4+j) (fl r 1))):=by
    cases ev:cD kv (.inl (fl r 1))with
    |none=>
     rw[ev]at kq;injection kq with kq;lia
    |some v=>
     rw[ev]at kq;exact congrArg some kq
   have C3:=q4 (fl r 2) b1 b2;rw[zAw Zz]at C3;refine aQ ?_;refine⟨_,rfl,_,rfl,d,_,rfl,by rw[<-IF];exact DGet.k (k:=.inl (fl r 1)) q2,_,rfl,_,_,rfl,rfl,_,rfl,_,rfl,d,_,rfl,DPut.k (k:=.inl (fl r 1)) q2 Zu,?_⟩;dsimp only;have Xe:=cV kv (.inl (fl r 1)) (V.int (g (fl r 0) (fl r 4+j) (fl r 1)-fl r 3))
   have vb:(cD (putK kv (.inl (fl r 1)) (V.int (g (fl r 0) (fl r 4+j) (fl r 1)-fl r 3))) (.inl (fl r 2))).getD (.int 0)=.int (g (fl r 0) (fl r 4+j) (fl r 2)):=by
    rw[fD,zAw (λz=>HV (by injection z with z;exact z.symm))];exact C3
   refine⟨_,rfl,d,rfl,.inl ⟨_,.inl aj⟩,_,rfl,_,DGet.k (k:=.inl (fl r 2)) aj,_,rfl,_,_,vb,rfl,_,rfl,_,rfl,d,_,rfl,DPut.k (k:=.inl (fl r 2)) aj Zu,?_⟩;have Xf:=cV (putK kv (.inl (fl r 1)) (V.int (g (fl r 0) (fl r 4+j) (fl r 1)-fl r 3))) (.inl (fl r 2)) (V.int (g (fl r 0) (fl r 4+j) (fl r 2)+fl r 3));refine⟨_,_,rfl,?_⟩;rw[GJ]
   refine dk.wr q1 ⟨⟨?_,(qk.put a1 a2 _).put b1 b2 _⟩,λh h0 h8=>?_⟩ λn y hd gz=>⟨?_,λh h0 h8=>?_⟩
   .rw[zAx ⟨rfl,Zz,Zz⟩];exact Zak (cV _ _ _) (Nat.succ_le_succ (Zak (cV _ _ _) (Nat.succ_le_succ q3)))
   .rw[zAx ⟨rfl,Zz,Zz⟩,fD];unfold dl;by_cases iq:h=fl r 2
    .rw[zAx (by rw[iq]),zAx iq,zAw (λz=>HV (z.symm.trans iq))];show V.int _=V.int _;rw[iq];congr 1;lia
    .rw[zAw (λz=>iq (by injection z)),zAw iq,fD];by_cases kz:h=fl r 1
     .rw[zAx (by rw[kz]),zAx kz];show V.int _=V.int _;rw[kz];congr 1;lia
     .rw[zAw (λz=>kz (by injection z)),zAw kz];have:=q4 h h0 h8;rw[zAw Zz]at this;rw[this];congr 1;lia
   .split<;>split<;>lia
   .by_cases hc:n=fl r 0/\fl r 4<=y/\y<fl r 4+j
    .rw[zAx hc,zAx ⟨hc.1,hc.2.1,Zz⟩]
    .rw[zAw hc,zAw λz=>hc ⟨z.1,z.2.1,by
      have:y≠fl r 4+j:=λw=>gz ⟨z.1,w⟩
      lia⟩]
  .rintro σ Hj ⟨x8,x9,rfl,dj⟩;refine q Hj (dj.cast λn y hd=>⟨by split<;>lia,λh h0 h8=>?_⟩);unfold fS;by_cases hc:n=fl r 0/\fl r 4<=y
   .have:y<=fl p 3:=by
     have:=hd.2.2.2;rw[hc.1,ep]at this;exact this
    rw[zAx hc,zAx ⟨hc.1,hc.2,Zz⟩]
   .rw[zAw hc,zAw λz=>hc ⟨z.1,z.2.1⟩]
inductive SpSoldRI(vs:List V)(H:Hp)(Q:VK):Prop
 |mk:∀ap xp ps ai xs ss,(vs=[.ref ap,.ref ai])->(RowsAt H ap xp ps)->(ps.length<=10)->((∀r∈ps,okP r))->(RowsAt H ai xs ss)->(ss.length<=100)->((∀s∈ss,s.length=5))->(∀t fo H',Same H H'->H' t=some (.tup [.ref fo,unV (un ps ss)])->(un ps ss=none->∃b kvs,Dts fo H H' (dom ps) (λn y h=>(bL (ps.getD n.toNat []) ss n y).getD h.toNat 0) b kvs)->Q (.ref t) H')->SpSoldRI  vs H Q
def nH:Sp:=λvs H Q _=>SpSoldRI  vs H Q
inductive SpSoldI(vs:List V)(H:Hp)(Q:VK):Prop
 |mk:∀ap xp ps ai xs ss,(vs=[.ref ap,.ref ai])->(RowsAt H ap xp ps)->(ps.length<=10)->((∀r∈ps,okP r))->(RowsAt H ai xs ss)->(ss.length<=100)->((∀s∈ss,s.length=5))->(∀t fo H',Same H H'->H' t=some (.tup [.ref fo,unV (un ps ss)])->Q (.ref t) H')->SpSoldI  vs H Q
def Ec:Sp:=λvs H Q _=>SpSoldI  vs H Q
theorem Ed{n y:Int}(ok:okP (ps.getD n.toNat []))(js:fl (ps.getD n.toNat []) 2<=y/\y<=fl (ps.getD n.toNat []) 3)(h0:0<=h)(h8:h<8):(bL (ps.getD n.toNat []) [] n y).getD h.toNat 0=f0 ps n y h:=by
 unfold bL f0;rw[zAx js];generalize ps.getD n.toNat []=p at ok;obtain⟨_,⟨a1,a2⟩,_⟩:=ok;show(base0 p).getD h.toNat 0=_;unfold base0;rw[zA7,List.getElem?_set];by_cases hh:h=fl p 0
 .rw[zAx (by rw[hh]),zAx (by rw[List.length_replicate];lia),zAx hh];rfl
 .rw[zAw Zz,zAw hh,List.getElem?_replicate,zAx Zz];rfl
theorem sc37s:FnScope [Yq,Yu,Yv,"_law_at",Y8] [Yq,Yu] (aJ (top 71)):=fQS
theorem vI(F:Fun K Zj Zj (top 71) f fd)(Te:mg "enumerate"=none)(c1:Cal P w K mg base 1 "_law_begun" [Yq] za)(c2:Cal P w K mg base 1 "_law_holds" [Yq,Yv,Y8] vG)(c3:Cal P w K mg base 1 "_law_sell" [Yq,Yv,Y8] Eb):
  FnOk P w K mg base CX0 2 f fd [Yq,Yu] nH:=by
 refine F.ok sc37s (λvs H Q E h=>?_) (λay A outer s H vs Q E hr h=>?_)
 .obtain⟨ap,xp,ps,ai,xs,ss,rfl,_⟩:=h;rfl
 .obtain⟨ap,xp,ps,ai,xs,ss,rfl,rp,lp,okp,rs,ls,de,q⟩:=h
  refine⟨_,aC (pss 2 sc37s.nd (aK c1 hr (au (pv 0) ao)))
   (aC (bU zB3 rfl (ZT.pi_enum true rfl Te (au (pv 1) ao)) (bG rfl (aq (pgn 3 sc37s.nd) (aq (pgn 4 sc37s.nd) bf)))
    (aC (dh (cW (fG (aK c2 hr (au (pv 0) (au (pv 2) (au (pv 4) ao)))))) (aG (aW (bO (au (pv 2) (au (pv 3) ao))))) bN)
    (aG (cA (aK c3 hr (au (pv 0) (au (pv 2) (au (pv 4) ao))))))))
   (aG (aW (bO (au (pv 2) (au lq ao)))))),?_⟩
  refine aQ (aY ?_);refine⟨_,rfl,ap,xp,ps,rfl,rp,lp,okp,λfo H1 kvs d1=>?_⟩;refine aD ?_;dsimp only;refine aQ ?_;refine⟨_,rfl,ai,xs,rfl,SqT.of (d1.sm _ _ rs.e),?_⟩
  have Rp:∀n y,dom ps n y->okP (ps.getD n.toNat []):=λn y hd=>by
   obtain⟨p,_,e2,e3⟩:=fV okp hd.1 hd.2.1;rw[e2];exact e3
  refine ZT.for_enum true (xs:=xs) (λi σ Hc=>∃x3 x4,σ=[some (.ref ap),some (.ref ai),some (.ref fo),x3,x4]/\Dts fo H Hc (dom ps) (λn y h=>(bL (ps.getD n.toNat []) (ss.take i) n y).getD h.toNat 0) (λ_ _=>1+2*i) kvs/\∀j,j<i->dN ps (ss.take j) (ss.getD j [])=true) ?_ ?_ ?_ ?_
  .exact⟨none,none,rfl,d1.cast λn y hd=>⟨zA3 _,λh h0 h8=>Ed (Rp n y hd) hd.2.2 h0 h8⟩,λj hj=>absurd hj (Nat.not_lt_zero _)⟩
  .rintro i σ Hc hi ⟨x3,x4,rfl,dt,hh⟩;exact SqT.of (dt.sm _ _ rs.e)
  .rintro i x σ Hc T0 hx ⟨x3,x4,rfl,dt,hh⟩ nT
   have hi:i<ss.length:=by
    have:=(zAa.mp hx).1;rw[rs.l]at this;exact this
   obtain⟨tr,fz,eW⟩:=rs.g i ss[i] (zA0 hi)
   have:x=.ref tr:=by
    rw[hx]at fz;exact zAl fz
   subst this;have h5:=de ss[i] (zAh hi);have dT:=dt.new (o:=.tup [V.int i,V.ref tr]) nT;have eT:upd Hc T0 (.tup [V.int i,V.ref tr]) T0=some (.tup [V.int i,V.ref tr]):=aj;generalize upd Hc T0 (.tup [V.int i,V.ref tr])=H2 at dT eT⊢;refine⟨T0,_,rfl,SqT.of eT,rfl,_,_,rfl,_,_,rfl,rfl,?_⟩;refine aQ ?_;refine⟨_,rfl,_,rfl,_,rfl,ap,xp,ps,fo,H,_,_,kvs,tr,ss[i],rfl,rp.same dT.sm,okp,dT,dT.sm _ _ eW,h5,λH3 s3=>⟨_,rfl,?_⟩⟩;have d3:=dT.same s3;have IG:pP ps (λn y h=>(bL (ps.getD n.toNat []) (ss.take i) n y).getD h.toNat 0) ss[i]=dN ps (ss.take i) ss[i]:=rfl
   cases eh:dN ps (ss.take i) ss[i]with
   |false=>
    rw[IG,eh];refine cC ⟨_,rfl,_,rfl,zL,λt ht=>q t fo _ (d3.sm.updR ht) ?_ λz=>?_⟩
    .rw[ue hh hi (by rw[getD_get hi];exact eh)];exact aj
    .rw[ue hh hi (by rw[getD_get hi];exact eh)]at z;cases z
   |true=>
    rw[IG,eh];refine bZ (dJ ?_);refine⟨_,rfl,_,rfl,_,rfl,ap,xp,ps,fo,H,_,1+2*i,kvs,tr,ss[i],rfl,rp.same d3.sm,okp,d3,Zz,d3.sm _ _ eW,h5,IG.trans eh,λH4 d4=>?_⟩;have cb:ss.take (i+1)=ss.take i++[ss[i]]:=by rw[zAj,zA0 hi];rfl
    refine⟨_,_,rfl,d4.cast λn y hd=>⟨Zz,λh h0 h8=>?_⟩,λj hj=>?_⟩
    .rw[cb,Bf hd.2.2 (kh h5 eh) h0 h8];rfl
    .rcases Nat.lt_succ_iff_lt_or_eq.mp hj with z|z
     .exact hh j z
     .rw[z,getD_get hi];exact eh
  .rintro σ Hc ⟨x3,x4,rfl,dt,hh⟩;refine⟨_,rfl,zL,λt ht=>q t fo _ (dt.sm.updR ht) ?_ λ_=>?_⟩
   .rw[yJ λj hj=>hh j (by rw[rs.l];exact hj)];exact aj
   .rw[show xs.length=ss.length from rs.l,zAm]at dt;exact⟨_,kvs,dt.new ht⟩
theorem GP{f:Addr}{fd:FuncData}(F:FnOk P w K mg base CX0 2 f fd [Yq,Yu] nH):FnOk P w K mg base CX0 2 f fd [Yq,Yu] Ec:=by
 refine F.imp λvs H Q E h=>?_;obtain⟨ap,xp,ps,ai,xs,ss,rfl,rp,lp,okp,rs,ls,de,q⟩:=h;exact⟨ap,xp,ps,ai,xs,ss,rfl,rp,lp,okp,rs,ls,de,λt fo H' s e _=>q t fo H' s e⟩
def Lr(st:Addr)(H:Hp)(n:Int)(v:V)(H':Hp):Prop:=∃ps:PK,But st H H'/\jY H' st/\IsTh (λ_=>False) H' v (cM ps)/\(ps.length:Int)<=n/\∀r∈ps,okP r
inductive SpProms2I(vs:List V)(H:Hp)(Q:VK):Prop
 |mk:∀st n y,(vs=[.ref st,.int n,.int y])->(jY H st)->(1<=n)->(n<=10)->(0<=y)->(y<=1000)->(∀v H',Lr st H n v H'->Q v H')->SpProms2I  vs H Q
def vJ:Sp:=λvs H Q _=>SpProms2I  vs H Q
theorem um(F:Fun K Zw Zw (top 67) f fd)(T:Mg mg)(Tr:mg "range"=none)(Tm:mg "min"=none)(c1:Cal P w K mg base 1 Zh [Ys,Ze] pq):FnOk P w K mg base CX0 2 f fd [Ys,Yy,Y9] vJ:=by
 refine F.ok sc22 (λvs H Q E h=>?_) (λay A outer s H vs Q E hr h=>?_)
 .obtain⟨st,n,y,rfl,_⟩:=h;rfl
 .obtain⟨st,n,y,rfl,hV,n1,n2,y1,y2,q⟩:=h
  refine⟨_,aC (vZ (i:=3) (j:=4) rfl sc22.nd rfl rfl Zx rfl rfl (au (cJ ao) (au (pX bA (cJ (jL (by repeat constructor))) (aK c1 hr (au (pv 0) (au aB ao)))) ao)) rfl)
   (aC (bU zB3 rfl (bu rfl Tr (au (aK c1 hr (au (pv 0) (au (aU bw (pv 1) aB) ao))) ao)) (pgn 5 sc22.nd)
    (aC (pss 6 sc22.nd (aK c1 hr (au (pv 0) (au (aM (fX rfl) rfl Tm boot_min (au aB (au (aU bw (pv 2) aB) ao))) ao))))
    (aC (pss 7 sc22.nd (aM (fX rfl) rfl Tm boot_min (au aB (au (aU bw (pv 6) (aK c1 hr (au (pv 0) (au (pX bA (cJ (jL (by repeat constructor))) (aK c1 hr (au (pv 0) (au aB ao)))) ao)))) ao))))
    (aC (pss 8 sc22.nd (pX bA (yf (tH aB (tH aB (tH (aK c1 hr (au (pv 0) (au aB ao))) (tH (aU wk aB aB) gM))))) (aK c1 hr (au (pv 0) (au aB ao)))))
    (aC (pss 9 sc22.nd (pX bA (yf (tH aB (tH aB (tH aB (tH (aK c1 hr (au (pv 0) (au aB ao))) gM))))) (aK c1 hr (au (pv 0) (au aB ao)))))
    (aG (cA (gC zB9 zBc zBb cN (pv 3) (au (HQ (tK (jl ⟨pv 9⟩ (jl ⟨aK c1 hr (au (pv 0) (au aB ao))⟩ (jl ⟨pv 6⟩ (jl ⟨pv 7⟩ (jl ⟨aU bw aB (aK c1 hr (au (pv 0) (au (pv 4) ao)))⟩ (jl ⟨pv 8⟩ gM)))))))) ao)))))))))
   (aG (aW (cZ cP rfl T.tuple boot_tuple (au (pv 3) ao))))),?_⟩
  obtain⟨a,b,es,h1,h2,h3⟩:=id hV;refine aP λc_ af=>?_;refine⟨zL,λp3 nK=>?_⟩
  have gX:p3≠st:=λz=>by
   rw[z,es]at nK;cases nK
  have g0:Mk3 st p3 [] [] H (upd H p3 (.lst [])):=⟨λb' o' e' _=>Same.upd nK _ _ e',⟨a,b,Same.upd nK _ _ es,h1,h2,h3⟩,aj,.nil⟩
  refine⟨zL,λp hp=>?_⟩;have g1:=g0.new (o:=.lst (([3,12,99]:PP).map V.int)) hp
  have np:p≠st:=λz=>by
   obtain⟨x,y,e7,_⟩:=g0.sa;rw[z,e7]at hp;cases hp
  refine⟨_,rfl,st,3,rfl,g1.sa,by decide,by decide,λr a1 b1 r0 r1 k1 k2 k3=>?_⟩
  obtain⟨wd,hw,w1,w2⟩:∃wd:Int,atI (([3,12,99]:PP).map V.int) r=some (.int wd)/\1<=wd/\wd<=99:=by
   have:r=0\/r=1\/r=2:=Zz
   rcases this with rfl|rfl|rfl
   .exact⟨3,rfl,by decide,by decide⟩
   .exact⟨12,rfl,by decide,by decide⟩
   .exact⟨99,rfl,by decide,by decide⟩
  refine⟨p,_,r,.int wd,rfl,rfl,SqL.of (by rw[az np];exact aj),hw,_,_,rfl,?_⟩;have g2:=g1.take gX k1 k2 k3;refine af _ _ ?_;clear af c_
  try dsimp only
  refine aQ ?_;refine⟨_,rfl,_,rfl,_,_,rfl,rfl,st,n+1,rfl,g2.sa,Zz,Zz,λr2 a2 b2 x0 x1 z1 z2 z3=>⟨r2,rfl,Zz,Zz,?_⟩⟩;have g3:=g2.take gX z1 z2 z3;refine cj (lo:=0) (n:=r2.toNat) (λi σ H'=>Xe7 λxs ds x5 x6 x7 x8 x9=>Xa4 (σ=[some (.ref st),some (.int n),some (.int y),some (.ref p3),some (.int wd),x5,x6,x7,x8,x9]) (Mk3 st p3 xs ds H H') ((∃rs:PK,ds=rs.map cX/\rs.length=i/\∀r∈rs,okP r)) (xs.length=i)) ?_ ?_ ?_
  .exact⟨[],[],none,none,none,none,none,rfl,g3,⟨[],rfl,rfl,λ_ h=>nomatch h⟩,rfl⟩
  .rintro i σ H' hi ⟨xs,ds,x5,x6,x7,x8,x9,rfl,g,⟨rs,IH,EH,II⟩,hl⟩
   have C4:∀{Hc:Hp} {c:Addr},Mk3 st p3 xs ds H Hc->Hc c=none->c≠st:=λ{Hc c} gc hc z=>by
    obtain⟨x,y,e7,_⟩:=gc.sa;rw[z,e7]at hc;cases hc
   refine aD ?_;refine aP λc_ af=>?_;refine aY ?_;refine⟨_,rfl,_,rfl,_,_,rfl,rfl,_,_,rfl,st,_,rfl,g.sa,by split<;>lia,by split<;>lia,λf1 a3 b3 o0 o1 o2 o3 o4=>?_⟩;have g4:=g.take gX o2 o3 o4;have f2:f1<20:=by split at o1<;>lia
   refine aD ?_;refine af _ _ ?_;clear af c_
   try dsimp only
   refine aP λc_ af=>?_;refine aY ?_;refine⟨_,rfl,_,rfl,zL,λp5 OI=>?_⟩;have n5:=C4 g4 OI;have g5:=g4.new (o:=.lst (([1,4,20]:PP).map V.int)) OI;refine⟨_,rfl,st,3,rfl,g5.sa,by decide,by decide,λr4 a4 b4 q0 q1 q2 q3 q4=>?_⟩
   obtain⟨w5,Rq,w6,w7⟩:∃w5:Int,atI (([1,4,20]:PP).map V.int) r4=some (.int w5)/\1<=w5/\w5<=20:=by
    have:r4=0\/r4=1\/r4=2:=Zz
    rcases this with rfl|rfl|rfl
    .exact⟨1,rfl,by decide,by decide⟩
    .exact⟨4,rfl,by decide,by decide⟩
    .exact⟨20,rfl,by decide,by decide⟩
   have g6:=g5.take gX q2 q3 q4;refine⟨p5,_,r4,.int w5,rfl,rfl,SqL.of (by rw[az n5];exact aj),Rq,st,w5,rfl,g6.sa,w6,Zz,λr5 a5 b5 s0 s1 s2 s3 s4=>⟨_,_,rfl,rfl,_,_,rfl,?_⟩⟩;have g7:=g6.take gX s2 s3 s4;refine aD ?_;refine af _ _ ?_;clear af c_
   try dsimp only
   refine aP λc_ af=>?_;refine aY ?_;refine⟨_,rfl,st,1000,rfl,g7.sa,by decide,by decide,λr6 a6 b6 t0 t1 t2 t3 t4=>⟨_,_,rfl,rfl,⟨by decide,by decide,by decide⟩,zL,λp6 OJ=>?_⟩⟩;have g8:=g7.take gX t2 t3 t4;have n6:=C4 g8 OJ;have g9:=g8.new (o:=.lst [V.int 0,V.int 1,V.int r6,V.int (10^(6:Int).toNat)]) OJ;refine⟨_,rfl,st,4,rfl,g9.sa,by decide,by decide,λr7 a7 b7 u0 u1 u2 u3 u4=>?_⟩
   obtain⟨pr,Rr,Rt,Ru⟩:∃pr:Int,atI [V.int 0,V.int 1,V.int r6,V.int (10^(6:Int).toNat)] r7=some (.int pr)/\0<=pr/\pr<=1000000:=by
    have:r7=0\/r7=1\/r7=2\/r7=3:=Zz
    rcases this with rfl|rfl|rfl|rfl
    .exact⟨0,rfl,by decide,by decide⟩
    .exact⟨1,rfl,by decide,by decide⟩
    .exact⟨r6,rfl,t0,Zz⟩
    .exact⟨_,rfl,by decide,by decide⟩
   have ga:=g9.take gX u2 u3 u4;refine⟨p6,_,r7,.int pr,rfl,rfl,SqL.of (by rw[az n6];exact aj),Rr,?_⟩;refine aD ?_;refine af _ _ ?_;clear af c_
   try dsimp only
   refine aP λc_ af=>?_;refine aY ?_;refine⟨_,rfl,st,8,rfl,ga.sa,by decide,by decide,λr8 a8 b8 v0 v1 v2 v3 v4=>⟨zL,λp7 OK=>?_⟩⟩;have gb:=ga.take gX v2 v3 v4;have n7:=C4 gb OK;have gc:=gb.new (o:=.lst [V.int 0,V.int 1,V.int 2,V.int r8]) OK;refine⟨_,rfl,st,4,rfl,gc.sa,by decide,by decide,λr9 a9 b9 y0 y3 y4 y5 y6=>?_⟩
   obtain⟨ho,Rv,Rw,oq⟩:∃ho:Int,atI [V.int 0,V.int 1,V.int 2,V.int r8] r9=some (.int ho)/\0<=ho/\ho<8:=by
    have:r9=0\/r9=1\/r9=2\/r9=3:=Zz
    rcases this with rfl|rfl|rfl|rfl
    .exact⟨0,rfl,by decide,by decide⟩
    .exact⟨1,rfl,by decide,by decide⟩
    .exact⟨2,rfl,by decide,by decide⟩
    .exact⟨r8,rfl,v0,v1⟩
   have gd:=gc.take gX y4 y5 y6;refine⟨p7,_,r9,.int ho,rfl,rfl,SqL.of (by rw[az n7];exact aj),Rv,?_⟩;refine aD ?_;refine af _ _ ?_;clear af c_
   try dsimp only
   refine⟨_,rfl,.inl ⟨rfl,_,SqL.of gd.e3⟩,?_⟩;refine⟨_,rfl,_,rfl,st,3,rfl,gd.sa,by decide,by decide,λra aa ba c0 c1 c2 c3 c4=>?_⟩;have ge:=gd.take gX c2 c3 c4;refine⟨_,rfl,_,rfl,_,rfl,_,rfl,st,wd,rfl,ge.sa,w1,Zz,λrb ab bb d0 d1 d2 d3 d4=>⟨_,_,rfl,rfl,_,rfl,zL,λl nL=>?_⟩⟩;have gf:=ge.take gX d2 d3 d4;have gg:=gf.new (o:=.tup [V.int ho,V.int ra,V.int f1,V.int (if f1+r5<19 then f1+r5 else 19),V.int (1+rb),V.int pr]) nL
   have Cf:l≠p3:=λz=>by
    rw[z,gf.e3]at nL;cases nL
   refine⟨p3,xs,.ref l,rfl,rfl,gg.e3,by rw[hl,sizeLine_eq];lia,?_⟩;refine⟨xs++[.ref l],ds++[.tuple [.int ho,.int ra,.int f1,.int (if f1+r5<19 then f1+r5 else 19),.int (1+rb),.int pr]],_,_,_,_,_,rfl,⟨λb' o' e' ne=>?_,?_,aj,?_⟩,?_,by rw[zA2,hl];rfl⟩
   .have:b'≠p3:=aA e' nK;rw[az this];exact gg.bt b' o' e' ne
   .obtain⟨x,y',e7,k⟩:=gg.sa;exact⟨x,y',by rw[az gX.symm];exact e7,k⟩
   .refine IsThs.append (gg.ts.keep (λc l' e'=>?_) (λ_ _ z _=>z.elim) λ_ _ z _=>z.elim) (.cons (.tup (by rw[az Cf];exact aj) (.cons (.int _) (.cons (.int _) (.cons (.int _) (.cons (.int _) (.cons (.int _) (.cons (.int _) .nil))))))) .nil)
    have:c≠p3:=λz=>by
     rw[z,gg.e3]at e';cases e'
    rw[az this];exact e'
   .refine⟨rs++[[ho,ra,f1,(if f1+r5<19 then f1+r5 else 19),1+rb,pr]],by rw[IH,zA4];rfl,by rw[zA2,EH];rfl,λr hr=>?_⟩;rcases zA6.mp hr with z|z
    .exact II r z
    .rw[Zae.mp z];have lb:f1<=(if f1+r5<19 then f1+r5 else 19)/\(if f1+r5<19 then f1+r5 else 19)<=19:=by split<;>lia
     exact⟨rfl,⟨Rw,oq⟩,⟨c0,c1⟩,⟨o0,lb.1,lb.2⟩,⟨(by show 1<=1+rb;lia),(by show 1+rb<=99;lia)⟩,Rt,Ru⟩
  .rintro σ H' ⟨xs,ds,x5,x6,x7,x8,x9,rfl,g,⟨rs,IH,EH,II⟩,hl⟩;refine⟨_,rfl,p3,xs,rfl,.inl ⟨SqL.of g.e3,λl nL=>?_⟩⟩;have g':=g.new (o:=.tup xs) nL;rw[IH]at g';exact q _ _ ⟨rs,g'.bt,g'.sa,.tup aj (g'.ts.keep (λ_ _ e=>e) (λ_ _ z _=>z.elim) λ_ _ z _=>z.elim),Zz,II⟩
theorem zc:OpR X (binaryOp .Add) (λx y H Q=>Xe4 λa b xs ys=>Xa7 (x=.ref a) (y=.ref b) (H a=some (.tup xs)) (H b=some (.tup ys)) (ys≠[]) (xs.length+ys.length<=sizeLine) (∀c H',Same H H'->H' c=some (.tup (xs++ys))->Q (.ref c) H')):=by
 intro Zt s σ H x y v u Q I rx ry h;obtain⟨a,b,xs,ys,rfl,rfl,ha,hb,hy,hz,q⟩:=h;refine Cu Zt s σ H _ _ v u Q I rx ry ⟨a,b,xs,ys,rfl,rfl,SqT.of ha,SqT.of hb,hy,hz,λe=>q b H (Same.refl H) (by rw[e];exact hb),λ_ p hp=>q p _ (Same.upd hp) aj⟩
theorem GQ:SlR X (λx lo hi H Q=>∃a xs,x=.ref a/\H a=some (.tup xs)/\∀c H',Same H H'->H' c=some (.tup (iH xs lo hi))->Q (.ref c) H'):=by
 intro Zt s σ H x v vl vu lo hi sl Q I rx hs pl pu h;obtain⟨a,xs,rfl,ha,q⟩:=h;refine yh Zt s σ H _ v vl vu lo hi sl Q I rx hs pl pu ⟨a,xs,rfl,SqT.of ha,λhw=>q a H (Same.refl H) ?_,λ_ p hp=>q p _ (Same.upd hp) aj⟩;rw[ha];unfold iH;rw[hw.1,hw.2,List.drop_zero,Nat.sub_zero,zAm]
theorem Dr.rows{st a:Addr}{rs:PK}(g:Dr st H H')(h0:jY H st)(r:RowsAt H a xs rs):RowsAt H' a xs rs:=by
 obtain⟨x,y,e,_⟩:=h0
 exact r.keep λb l e'=>g.bt _ _ e' λz=>by
  rw[z,e]at e';cases e'
theorem Bg:bootBuiltins "max"=some (.builtin "max"):=by decide +kernel
theorem rK{a b t:Addr}{rs:PK}{r:PP}(h:RowsAt H a xs rs)(et:H t=some (.tup (r.map V.int)))(eb:H b=some (.tup (xs++[V.ref t]))):RowsAt H b (xs++[V.ref t]) (rs++[r]):=by
 refine⟨eb,by rw[zA2,zA2,h.l];rfl,λi r' e=>?_⟩;by_cases hi:i<rs.length
 .rw[zB8 hi]at e;rw[zB8 (by rw[h.l];exact hi)];exact h.g i r' e
 .rw[zB7 Zz]at e;rw[zB7 (by rw[h.l];lia),h.l]
  cases hj:i-rs.length with
  |zero=>
   rw[hj]at e;injection e with e;subst e;exact⟨t,rfl,et⟩
  |succ k=>
   rw[hj]at e;simp at e
def smR(s:PP):Prop:=s.length=5/\∀i∈s,-10<=i/\i<=2000000
inductive SpAnyI(vs:List V)(H:Hp)(Q:VK):Prop
 |mk:∀st ap xp ps,(vs=[.ref st,.ref ap])->(jY H st)->(RowsAt H ap xp ps)->(ps.length<=10)->((∀r∈ps,okP r))->(∀t s H',Dr st H H'->H' t=some (.tup (s.map V.int))->smR s->Q (.ref t) H')->SpAnyI  vs H Q
def I9:Sp:=λvs H Q _=>SpAnyI  vs H Q
theorem sc38s:FnScope [Ys,Yq,Y7,Zg,Yz,Y5,"_law_last",Y0,"_law_price",Zm,"_law_buyer",Yt] [Ys,Yq] (aJ (top 72)):=fQS
theorem JG(F:Fun K Z0 Z0 (top 72) f fd)(T:Mg mg)(Tm:mg "max"=none)(c1:Cal P w K mg base 1 Zh [Ys,Ze] pq):FnOk P w K mg base CX0 2 f fd [Ys,Yq] I9:=by
 refine F.ok sc38s (λvs H Q E h=>?_) (λay A outer s H vs Q E hr h=>?_)
 .obtain⟨st,ap,xp,ps,rfl,_⟩:=h;rfl
 .obtain⟨st,ap,xp,ps,rfl,hV,rp,lp,okp,q⟩:=h
  refine⟨_,aC (pss 2 sc38s.nd (aK c1 hr (au (pv 0) (au (aM (qF rfl) rfl Tm Bg (au aB (au (aM bY rfl T.len PySem.boot_len (au (pv 1) ao)) ao))) ao))))
   (aC (cH (pX bR (aU zc (pv 1) (bO (au (bO (jL (by repeat constructor))) ao))) (pv 2)) (bG rfl (aq (pgn 3 sc38s.nd) (aq (pgn 4 sc38s.nd) (aq (pgn 5 sc38s.nd)
    (aq (pgn 6 sc38s.nd) (aq (pgn 7 sc38s.nd) (aq (pgn 8 sc38s.nd) bf))))))))
   (aC (pss 9 sc38s.nd (pX bA (cJ (au (pv 3) (au (pv 3) (au (aK c1 hr (au (pv 0) (au aB ao))) ao)))) (aK c1 hr (au (pv 0) (au aB ao)))))
   (aC (pss 10 sc38s.nd (aU gJ (aU bw (aU bw (pv 9) aB) (aK c1 hr (au (pv 0) (au aB ao)))) aB))
   (aC (pss 11 sc38s.nd (aU bw (pv 5) (aK c1 hr (au (pv 0) (au (aU bw (aU d8 (pv 6) (pv 5)) aB) ao)))))
   (aG (aW (HQ (tK (jl ⟨pv 2⟩ (jl ⟨pv 9⟩ (jl ⟨pv 10⟩ (jl ⟨aU bw aB (aK c1 hr (au (pv 0) (au (pv 7) ao)))⟩ (jl ⟨pv 11⟩ gM))))))))))))),?_⟩
  have g0:Dr st H H:=⟨But.refl,hV⟩
  have Xg:xp.length<=10:=by rw[rp.l];exact lp
  refine aP λc_ af=>?_;refine aY ?_;refine⟨_,rfl,_,rfl,ap,xp,rfl,.inr (SqT.of rp.e),_,_,rfl,st,_,rfl,hV,?_,?_,λr1 a1 b1 r0 rn k1 k2 k3=>?_⟩
  .split<;>lia
  .split<;>lia
  have g1:=g0.take k1 k2 k3;have AI:=g1.rows hV rp;have Xh:r1.toNat<xp.length+1:=by split at rn<;>lia
  generalize upd H st (.lst [.int a1,.int b1])=H1 at g1 AI⊢;refine aD ?_;refine af _ _ ?_;clear af c_
  try dsimp only
  refine aP λc_ af=>?_;refine⟨_,rfl,zL,λt0 OL=>⟨zL,λt1 nN=>?_⟩⟩;have g2:=(g1.new (o:=.tup (([0,0,0,3,9,0]:PP).map V.int)) OL).new (o:=.tup [V.ref t0]) nN;have m2:Same H1 (upd (upd H1 t0 (.tup (([0,0,0,3,9,0]:PP).map V.int))) t1 (.tup [V.ref t0])):=(Same.upd OL).updR nN;have EI:=Same.upd (o:=.tup [V.ref t0]) nN t0 (.tup (([0,0,0,3,9,0]:PP).map V.int)) aj;have C5:upd (upd H1 t0 (.tup (([0,0,0,3,9,0]:PP).map V.int))) t1 (.tup [V.ref t0]) t1=some (.tup [V.ref t0]):=aj;generalize upd (upd H1 t0 (.tup (([0,0,0,3,9,0]:PP).map V.int))) t1 (.tup [V.ref t0])=H2 at g2 m2 EI C5⊢;refine⟨ap,t1,xp,_,rfl,rfl,m2 _ _ AI.e,C5,by simp,by rw[sizeLine_eq];show xp.length+1<=_;lia,λc H3 s3 ec=>?_⟩;have g3:=g2.same s3;have Rx:=rK ((AI.same m2).same s3) (s3 _ _ EI) ec
  have IJ:∀r∈ps++[[0,0,0,3,9,0]],okP r:=λr hr=>by
   rcases zA6.mp hr with z|z
   .exact okp r z
   .rw[Zae.mp z];exact⟨rfl,by decide,by decide,by decide,by decide,by decide⟩
  obtain⟨p,hp,_,op⟩:=fV (n:=r1) IJ r0 (by rw[zA2,<-rp.l];show r1<((xp.length+1:Nat):Int);lia);obtain⟨tp,eJ,fe⟩:=gG Rx r0 hp;rw[dZ op.1]at fe;obtain⟨_,⟨p1,p2⟩,_,⟨p3,p4,p5⟩,⟨p6,p7⟩,_⟩:=id op;refine⟨_,rfl,c,_,r1,.ref tp,rfl,rfl,SqT.of ec,eJ,?_⟩;refine⟨tp,_,rfl,SqT.of fe,rfl,_,_,rfl,_,_,rfl,_,_,rfl,_,_,rfl,_,_,rfl,_,_,rfl,rfl,?_⟩;refine af _ _ ?_;clear af c_
  try dsimp only
  refine aP λc_ af=>?_;refine aY ?_;refine⟨_,rfl,_,rfl,_,rfl,st,8,rfl,g3.sa,by decide,by decide,λr2 a2 b2 i0 i1 k4 k5 k6=>⟨zL,λl1 dE=>?_⟩⟩;have g4:=(g3.take k4 k5 k6).new (o:=.lst [V.int (fl p 0),V.int (fl p 0),V.int r2]) dE;have n4:=(g3.take k4 k5 k6).ne dE;refine⟨_,rfl,st,3,rfl,g4.sa,by decide,by decide,λr3 a3 b3 i2 i3 k7 k8 k9=>?_⟩
  obtain⟨sl,Ry,Xi,uu⟩:∃sl:Int,atI [V.int (fl p 0),V.int (fl p 0),V.int r2] r3=some (.int sl)/\0<=sl/\sl<8:=by
   have:r3=0\/r3=1\/r3=2:=Zz
   rcases this with rfl|rfl|rfl
   .exact⟨_,rfl,p1,p2⟩
   .exact⟨_,rfl,p1,p2⟩
   .exact⟨_,rfl,i0,i1⟩
  have g5:=g4.take k7 k8 k9;refine⟨l1,_,r3,.int sl,rfl,rfl,SqL.of (by rw[az n4];exact aj),Ry,?_⟩;refine aD ?_;refine af _ _ ?_;clear af c_
  try dsimp only
  refine aP λc_ af=>?_;refine aY ?_;refine⟨_,rfl,_,_,rfl,rfl,_,rfl,st,7,rfl,g5.sa,by decide,by decide,λr4 a4 b4 i4 i5 m1 Rz m3=>⟨_,_,rfl,rfl,_,_,rfl,rfl,(by show(0:Int)<8;decide),?_⟩⟩;have g6:=g5.take m1 Rz m3;refine aD ?_;refine af _ _ ?_;clear af c_
  try dsimp only
  refine aP λc_ af=>?_;refine aY ?_;refine⟨_,rfl,_,rfl,_,rfl,_,rfl,_,_,rfl,rfl,_,_,rfl,rfl,st,_,rfl,g6.sa,Zz,Zz,λr5 a5 b5 i6 i7 m4 m5 m6=>⟨_,_,rfl,rfl,?_⟩⟩;have g7:=g6.take m4 m5 m6;refine aD ?_;refine af _ _ ?_;clear af c_
  try dsimp only
  refine⟨_,rfl,_,rfl,_,rfl,_,rfl,_,rfl,st,_,rfl,g7.sa,p6,Zz,λr6 a6 b6 i8 i9 m7 m8 m9=>⟨_,_,rfl,rfl,_,rfl,zL,λt ht=>?_⟩⟩;have g8:=g7.take m7 m8 m9;refine q t [r1,sl,(sl+1+r4) % 8,1+r6,fl p 2+r5] _ (g8.new ht) aj ⟨rfl,λi hi=>?_⟩;simp only[List.mem_cons,List.not_mem_nil,or_false]at hi
  have e8:0<=(sl+1+r4) % 8/\(sl+1+r4) % 8<8:=⟨Int.emod_nonneg _ Zx,Int.emod_lt_of_pos _ Zx⟩
  lia
theorem sc39s:FnScope [Ys,Yq,Yy,Y4,"_law_turn","_law_more"] [Ys,Yq,Yy] (aJ (top 73)):=fQS
theorem sc40s:FnScope [Ys,Y9,Yy,Yu,Zb,Yq] [Ys,Y9,Yy,Yu] (aJ (top 74)):=fQS
theorem pQ:∀{a b:PP},a.Pairwise (· < ·)->b.Pairwise (· < ·)->(∀x,x∈a↔x∈b)->a=b
 |[],[],_,_,_=>rfl
 |[],y::b,_,_,h=>absurd ((h y).mpr (.head _)) Zy
 |x::a,[],_,_,h=>absurd ((h x).mp (.head _)) Zy
 |x::a,y::b,ha,hb,h=>by
  obtain⟨OM,RA⟩:=List.pairwise_cons.mp ha;obtain⟨AB,iq⟩:=List.pairwise_cons.mp hb
  have e:x=y:=by
   rcases zAo.mp ((h x).mp (.head _))with z|z
   .exact z
   .rcases zAo.mp ((h y).mpr (.head _))with z'|z'
    .exact z'.symm
    .have:=OM y z';have:=AB x z;lia
  subst e;rw[pQ RA iq λz=>⟨λhz=>?_,λhz=>?_⟩]
  .rcases zAo.mp ((h z).mp (.tail _ hz))with w|w
   .have:=OM z hz;lia
   .exact w
  .rcases zAo.mp ((h z).mpr (.tail _ hz))with w|w
   .have:=AB z hz;lia
   .exact w
def gB(p:Key×V):Int:=match p.1 with
 |.inl h=>h
 |.inr _=>0
theorem kJ:∀{kv:List (Key×V)},KsOk kv->(kv.map λp=>kV p.1)=(kv.map gB).map V.int/\kv.map (·.1)=(kv.map gB).map Sum.inl
 |[],_=>⟨rfl,rfl⟩
 |p::kv,g=>by
  obtain⟨h,e,_⟩:=g p (.head _);obtain⟨i1,i2⟩:=kJ λq hq=>g q (.tail _ hq);have ei:gB p=h:=by unfold gB;rw[e]
  refine⟨?_,?_⟩
  .rw[zAk,zAk,zAk,i1,ei,e];rfl
  .rw[zAk,zAk,zAk,i2,ei,e]
theorem Ef(hm:h∈kv.map gB)(g:KsOk kv):(cD kv (.inl h)).isSome=true:=by
 rw[<-fB,List.any_eq_true];obtain⟨p,hp,e⟩:=zA5.mp hm;obtain⟨h',e',_⟩:=g p hp;refine⟨p,hp,zAt ?_⟩;rw[e',<-e];unfold gB;rw[e']
theorem GR(hs:(cD kv (.inl h)).isSome=true):h∈kv.map gB:=by
 rw[<-fB,List.any_eq_true]at hs;obtain⟨p,hp,e⟩:=hs;have e:=zB6 e;refine zA5.mpr ⟨p,hp,?_⟩;unfold gB;rw[e]
theorem Eg{ns:PP}(hL:L.length=8)(g:KsOk kv)(nd:(kv.map (·.1)).Nodup)(hv:∀h,0<=h->h<8->(cD kv (.inl h)).getD (.int 0)=.int (L.getD h.toNat 0))(pm:ns.Perm (kv.map gB))(so:ns.Pairwise (·<=·)):
  (ns.filter λh=>decide (0<L.getD h.toNat 0)).map (λh=>[h,L.getD h.toNat 0])=dO L 8:=by
 have IL:(kv.map gB).Nodup:=by
  rw[(kJ g).2]at nd;exact(Zan.mp nd).imp λ{a b} h e=>h (by rw[e])
 have IM:ns.Nodup:=pm.nodup_iff.mpr IL
 have lt:ns.Pairwise (· < ·):=(so.and IM).imp λ{a b} h=>by have h1:a<=b:=h.1;have h2:a≠b:=h.2;lia
 have eq:(ns.filter λh=>decide (0<L.getD h.toNat 0))=(((List.range 8).filter λh=>decide (0<L.getD h 0)).map λ(h:Nat)=>(h:Int)):=by
  refine pQ (lt.filter _) ?_ λx=>?_
  .rw[Zan]
   exact(List.pairwise_lt_range.filter _).imp λ{a b} h=>by lia
  .rw[zAq,zA5,pm.mem_iff];constructor
   .rintro⟨h1,h2⟩;obtain⟨p,hp,e⟩:=zA5.mp h1;obtain⟨h,e',h0,h8⟩:=g p hp;have ex:x=h:=by rw[<-e];unfold gB;rw[e']
    refine⟨x.toNat,zAq.mpr ⟨Za5.mpr Zz,h2⟩,Zz⟩
   .rintro⟨k,hk,rfl⟩;obtain⟨h1,h2⟩:=zAq.mp hk;have h1:=Za5.mp h1;have h2:=zB6 h2;refine⟨GR ?_,zAt (by rw[zAi];exact h2)⟩;have:=hv (k:Int) Zz Zz;rw[zAi]at this
    cases z:cD kv (.inl (k:Int))with
    |some v=>rfl
    |none=>
     rw[z]at this;injection this with this;lia
 rw[eq,zAr];unfold dO;refine List.map_congr_left λk _=>?_;show[(k:Int),L.getD ((k:Int)).toNat 0]=_;rw[zAi]
theorem Eh:∀{l:PP} {a:Int} {k:Nat},l.Pairwise (· < ·)->(∀x∈l,a<=x/\x<a+k)->l.length<=k
 |[],_,_,_,_=>zAp _
 |x::l,a,0,h,g=>by
  have:=g x (.head _);lia
 |x::l,a,k+1,h,g=>by
  obtain⟨h1,h2⟩:=List.pairwise_cons.mp h;have gx:=g x (.head _)
  have:=Eh (a:=a+1) (k:=k) h2 λy hy=>by
   have:=g y (.tail _ hy);have:=h1 y hy;lia
  rw[zAe];lia
theorem zf{ns:PP}(g:KsOk kv)(nd:(kv.map (·.1)).Nodup)(pm:ns.Perm (kv.map gB))(so:ns.Pairwise (·<=·)):ns.length<=8:=by
 have IL:(kv.map gB).Nodup:=by
  rw[(kJ g).2]at nd;exact(Zan.mp nd).imp λ{a b} h e=>h (by rw[e])
 have IM:ns.Nodup:=pm.nodup_iff.mpr IL
 have lt:ns.Pairwise (· < ·):=(so.and IM).imp λ{a b} h=>by have h1:a<=b:=h.1;have h2:a≠b:=h.2;lia
 refine Eh (a:=0) (k:=8) lt λx hx=>?_;obtain⟨p,hp,e⟩:=zA5.mp (pm.mem_iff.mp hx);obtain⟨h,e',h0,h8⟩:=g p hp;have ex:x=h:=by rw[<-e];unfold gB;rw[e']
 lia
theorem Ei(g:KsOk kv)(nd:(kv.map (·.1)).Nodup):(kv.map gB).length<=8:=by
 have pm:=List.mergeSort_perm (kv.map gB) (λa b=>decide (a<=b))
 have so:((kv.map gB).mergeSort λa b=>decide (a<=b)).Pairwise (·<=·):=(List.pairwise_mergeSort (le:=λa b=>decide (a<=b)) (λa b c h1 h2=>by simp only[Zq]at *;lia) (λa b=>by simp only[Bool.or_eq_true,Zq];lia) _).imp λ{a b} h=>by simpa using h
 rw[<-pm.length_eq];exact zf g nd pm so
def pR(L ns:PP):PK:=(ns.filter λh=>decide (0<L.getD h.toNat 0)).map λh=>[h,L.getD h.toNat 0]
theorem mJ(L ns:PP)(x:Int):pR L (ns++[x])=pR L ns++(if 0<L.getD x.toNat 0 then[[x,L.getD x.toNat 0]]else[]):=by
 unfold pR;rw[Zao,zA4];congr 1;by_cases h:0<L.getD x.toNat 0
 .rw[zAx h,zBe (p:=λ(h:Int)=>decide (0<L.getD h.toNat 0)) (zAt h)];rfl
 .rw[zAw h,zBa (p:=λ(h:Int)=>decide (0<L.getD h.toNat 0)) (by rw[Zq];exact h)];rfl
def pU(ps ss:PK)(n y h:Int):Int:=(bL (ps.getD n.toNat []) ss n y).getD h.toNat 0
inductive SpLClaimsI(vs:List V)(H:Hp)(Q:VK):Prop
 |mk:∀ap xp ps fo H0 b kvs ss sort year,(vs=[.ref ap,.ref fo,.int sort,.int year])->(RowsAt H ap xp ps)->(ps.length<=10)->((∀r∈ps,okP r))->(Dts fo H0 H (dom ps) (pU ps ss) b kvs)->(∀l xl H',Same H H'->H l=none->H' l=some (.lst xl)->Els H' xl ((aF ps ss sort year).map List.tail)->Q (.ref l) H')->SpLClaimsI  vs H Q
def lQ:Sp:=λvs H Q _=>SpLClaimsI  vs H Q
theorem Bh(ps ss:PK)(sort year:Int)(i:Nat):((iz ps ss sort year i).map List.tail).length<=8*i:=by
 rw[zA1];exact kE ps ss sort year i
theorem xK:bootBuiltins "list"=some (.type "list"):=by decide +kernel
theorem Nf:([Zg,Y7,Zf]:List Str).Nodup:=by decide +kernel
theorem scLD:FnScope [Yq,Yv,Yz,Yt,Y4,Y7,"_law_promise",Zf] [Yq,Yv,Yz,Yt] (aJ (top 76)):=fQS
theorem xM(F:Fun K Zn Zn (top 76) f fd)(Te:mg "enumerate"=none)(Tl:mg "list"=none)(Ts:mg "sorted"=none):FnOk P w K mg base CX0 1 f fd [Yq,Yv,Yz,Yt] lQ:=by
 refine F.ok scLD (λvs H Q E h=>?_) (λay A outer s H vs Q E hr h=>?_)
 .obtain⟨ap,xp,ps,fo,H0,b,kvs,ss,sort,year,rfl,_⟩:=h;rfl
 .obtain⟨ap,xp,ps,fo,H0,b,kvs,ss,sort,year,rfl,rp,lp,okp,dt,q⟩:=h
  refine⟨_,aC (pss 4 scLD.nd (cJ ao))
   (aC (bU zB3 rfl (ZT.pi_enum true rfl Te (au (pv 0) ao)) (bG rfl (aq (bC (i:=5) scLD.nd rfl (Or.inr rfl)) (aq (pgn 6 scLD.nd) bf)))
    (aC (gY (i:=7) scLD.nd rfl (Or.inr rfl) (oK (eO hr) (pv 1) (bO (au (pv 5) (au (pv 3) ao))) Cm (by constructor<;>rfl)))
    (aG (dh (bT jH (pX bR (pv 6) aB) (pv 2) (bQ _))
     (aG (cA (gC zB9 PySem.F.slot_list_extend PySem.F.type_list_extend zU (pv 4) (au (bB [Zg,Y7,Zf] [none,some 5,some 7] rfl (di (aM tX rfl Ts boot_sorted (au (cZ (oZ rfl) rfl Tl xK (au (pv 7) ao)) ao)))
      (λC fp Zt s₂ H₂=>⟨pgn 0 Nf,fP (bT lZ (fQ (eO hr) (pv 2) (pv 0) (λ_ _=>rfl)) aB (bQ _)),bO (au (pv 1) (au (pv 0) (au (fQ (eO hr) (pv 2) (pv 0) (λ_ _=>rfl)) ao)))⟩)
      (λC=>cI (cI trivial)) ⟨rfl,rfl,rfl,rfl⟩) ao)))) bN))))
   (aG (aW (pv 4)))),?_⟩
  refine aP λc_ af=>?_;refine aY ?_;refine⟨zL,λl hl=>?_⟩;refine aD ?_;refine af _ _ ?_;clear af c_
  try dsimp only
  refine aQ ?_;have s0:=Same.upd (o:=.lst []) hl;refine⟨_,rfl,ap,xp,rfl,SqT.of (s0 _ _ rp.e),?_⟩;refine ZT.for_enum true (xs:=xp) (λi σ Hc=>Xe4 λx5 x6 x7 xl=>Xa4 (σ=[some (.ref ap),some (.ref fo),some (.int sort),some (.int year),some (.ref l),x5,x6,x7]) ((∀b o,H b=some o->Hc b=some o)) (Hc l=some (.lst xl)) (Els Hc xl ((iz ps ss sort year i).map List.tail))) ?_ ?_ ?_ ?_
  .exact⟨none,none,none,[],rfl,λb o e=>s0 _ _ e,aj,Els.nil⟩
  .rintro i σ Hc hi ⟨x5,x6,x7,xl,rfl,k,el,ht⟩;exact SqT.of (k _ _ rp.e)
  .rintro i x σ Hc T0 hx ⟨x5,x6,x7,xl,rfl,k,el,ht⟩ nT
   have hi:i<ps.length:=by
    have:=(zAa.mp hx).1;rw[rp.l]at this;exact this
   obtain⟨tr,fz,eW⟩:=rp.g i ps[i] (zA0 hi)
   have:x=.ref tr:=by
    rw[hx]at fz;exact zAl fz
   subst this;have op:=okp ps[i] (zAh hi);have ep:ps.getD i []=ps[i]:=getD_get hi;rw[dZ op.1]at eW;have sT:=Same.upd (o:=.tup [V.int i,V.ref tr]) nT;have kT:Same H (upd Hc T0 (.tup [V.int i,V.ref tr])):=λb o e=>sT _ _ (k _ _ e);have As:=sT _ _ el;have Au:=ht.same sT;have eT:=aj (H:=Hc) (a:=T0) (o:=.tup [V.int i,V.ref tr]);generalize upd Hc T0 (.tup [V.int i,V.ref tr])=H1 at kT As Au eT⊢;refine⟨T0,_,rfl,SqT.of eT,rfl,_,_,rfl,_,_,rfl,rfl,?_⟩;dsimp only;have nS:=dt.same kT;refine aP λc_ af=>?_;refine aY ?_;refine⟨_,rfl,fo,rfl,.inr ⟨kvs,.inl nS.e⟩,_,rfl,_,rfl,zL,λkk hk=>?_⟩;have s8:=Same.upd (o:=.tup [.int i,.int year]) hk;refine λz ON nz=>?_;have s9:=s8.updR (o:=.dK []) ON;have OO:=Same.upd (o:=.dK []) ON _ _ (aj (H:=H1) (a:=kk) (o:=.tup [.int i,.int year]));refine⟨_,DGet.t (k:=ky i year) (s9 _ _ nS.e) OO,?_⟩
   have row:∃dr kv,(cD kvs (ky i year)).getD (.ref z)=.ref dr/\upd (upd H1 kk (.tup [.int i,.int year])) z (.dK []) dr=some (.dK kv)/\KsOk kv/\∀h,0<=h->h<8->(cD kv (.inl h)).getD (.int 0)=.int ((bL ps[i] ss i year).getD h.toNat 0):=by
    by_cases hd:dom ps i year
    .obtain⟨dr,kv,q1,q2,q3,q4⟩:=nS.g i year hd;refine⟨dr,kv,by rw[q1];rfl,s9 _ _ q2,q3.2,λh h0 h8=>?_⟩;have:=q4 h h0 h8;unfold pU at this;rw[zAi,ep]at this;exact this
    .refine⟨z,[],by rw[nS.no i year hd];rfl,aj,λp hp=>absurd hp Zy,λh h0 h8=>?_⟩;have:¬(fl ps[i] 2<=year/\year<=fl ps[i] 3):=λw=>hd ⟨Zz,Zz,by rw[zAi,ep];exact w.1,by rw[zAi,ep];exact w.2⟩;unfold bL;rw[zAw this,zA7,List.getElem?_replicate,zAx Zz];rfl
   obtain⟨dr,kv,er,sC,ks,hv⟩:=row;have OP:(cD kvs (ky i year)).getD (.ref z)=.ref dr:=er;rw[OP];refine aD ?_;refine af _ _ ?_;clear af c_
   try dsimp only
   refine j7 (λH9=>Same H1 H9/\H9 dr=some (.dK kv)) ⟨s9,sC⟩ λH9=>?_;rintro⟨s9,sC⟩;clear nS OO er OP s8;have k9:=kT.trans s9;have IP:=s9 _ _ As;have OQ:=Au.same s9;have ED:=eU ps[i] ss i year
   have ki:(iC ps ss sort year i).map List.tail=if fl ps[i] 1=sort then(dO (bL ps[i] ss i year) 8).map (λr=>(i:Int)::r)else[]:=by
    unfold iC;rw[ep];split
    .rw[zAr];rfl
    .rfl
   have OR:(iz ps ss sort year (i+1)).map List.tail=(iz ps ss sort year i).map List.tail++(iC ps ss sort year i).map List.tail:=by
    show(iz ps ss sort year i++iC ps ss sort year i).map List.tail=_;rw[zA4]
   rw[OR,ki];clear OR ki;generalize bL ps[i] ss i year=L at hv ED⊢;refine⟨_,rfl,tr,_,1,.int (fl ps[i] 1),rfl,rfl,SqT.of (k9 _ _ eW),rfl,_,rfl,rfl,_,rfl,?_⟩;by_cases hs:fl ps[i] 1=sort
   .rw[zAt (by rw[hs])];refine cC ?_;rw[zAx hs];refine⟨_,rfl,.inl ⟨rfl,_,SqL.of IP⟩,?_⟩;refine⟨_,rfl,dr,kv,rfl,sC,λnd l2 iX=>?_⟩;rw[(kJ ks).1];refine⟨l2,kv.map gB,rfl,SqL.of aj,(by have:=Ei ks nd;lia),λq' ns RB pm so=>?_⟩;have C6:=(Same.upd (o:=.lst ((kv.map gB).map V.int)) iX).updR (o:=.lst (ns.map V.int)) RB;have C7:=C6 _ _ sC;have qh:=aj (H:=upd H9 l2 (.lst ((kv.map gB).map V.int))) (a:=q') (o:=.lst (ns.map V.int));generalize upd (upd H9 l2 (.lst ((kv.map gB).map V.int))) q' (.lst (ns.map V.int))=HA at C6 C7 qh⊢;have ln:=zf ks nd pm so;have fin:pR L ns=dO L 8:=Eg ED ks nd hv pm so;rw[<-fin]
    have vh:∀h∈ns,cD kv (.inl h)=some (.int (L.getD h.toNat 0)):=λh hh=>by
     obtain⟨p,hp,e⟩:=zA5.mp (pm.mem_iff.mp hh);obtain⟨h',e',h0,h8⟩:=ks p hp;have ex:h=h':=by rw[<-e];unfold gB;rw[e']
     have vs:=Ef (pm.mem_iff.mp hh) ks;have:=hv h Zz Zz
     cases z:cD kv (.inl h)with
     |none=>rw[z]at vs;cases vs
     |some v=>
      rw[z]at this;exact congrArg some this
    have kA:=k9.trans C6;have OS:=C6 _ _ IP;have RC:=OQ.same C6;refine⟨q',rfl,⟨_,SqL.of qh⟩,eF ns.length (λj ys σ Hc=>Same HA Hc/\(∃o1,σ=[o1,some (.int i),some (.ref dr)])/\Els Hc ys ((pR L (ns.take j)).map (λr=>(i:Int)::r))) ⟨Same.refl _,⟨_,rfl⟩,Els.nil⟩ Zu ?_ ?_⟩
    .rintro j ys σ Hj hj hy ⟨sc,⟨o1,rfl⟩,ko⟩;have gN:SqL K Hj q' (ns.map V.int):=SqL.of (sc _ _ qh)
     have hx:(ns.map V.int)[j]?=some (.int ns[j]):=by
      rw[zAb,zA0 hj];rfl
     have cb:ns.take (j+1)=ns.take j++[ns[j]]:=by rw[zAj,zA0 hj];rfl
     have vk:=vh ns[j] (zAh hj);have OT:=sc _ _ C7;refine⟨⟨_,_,gN,hx⟩,λx H' yv R hR=>?_⟩;obtain⟨rfl,yv⟩:=yv;have yv:=yv _ gN;rw[hx]at yv;cases yv;refine aD ?_;refine⟨_,rfl,_,rfl,dr,_,rfl,by rw[<-vk];exact DGet.k (k:=.inl ns[j]) OT,_,_,rfl,rfl,_,rfl,?_⟩;by_cases bp:0<L.getD (ns[j]).toNat 0
     .rw[zAt bp];refine cC ⟨_,rfl,_,rfl,_,rfl,_,rfl,dr,_,rfl,by rw[<-vk];exact DGet.k (k:=.inl ns[j]) OT,zL,λt fI=>hR _ _ _ (by rw[zA2];show ys.length+1<=j+1;lia) ⟨sc.updR fI,⟨_,rfl⟩,?_⟩⟩;rw[cb,mJ,zAx bp,zA4];exact(ko.same (Same.upd fI)).app (Els.one aj)
     .rw[zB2 bp];refine bZ (hR _ _ _ Zz ⟨sc,⟨_,rfl⟩,?_⟩);rw[cb,mJ,zAw bp,zAn];exact ko
    .rintro ys σ Hj hy ⟨sc,_,ko⟩;rw[zAm]at ko;refine⟨⟨_,SqL.of (sc _ _ qh),by rw[zA1];exact zA3 _⟩,λD hD=>?_⟩;have sD:=sc.updR (o:=.lst ys) hD;have ll:=Bh ps ss sort year i;have:=ht.1;refine⟨l,D,xl,ys,rfl,rfl,sD _ _ OS,aj,by rw[sizeLine_eq];lia,?_⟩;refine⟨_,_,_,xl++ys,rfl,λb o e=>?_,aj,?_⟩
     .rw[az (aA e hl)];exact sD _ _ (kA _ _ e)
     .refine((RC.same sD).app (ko.same (Same.upd (o:=.lst ys) hD))).keep λb z e=>?_;rw[az λw=>by rw[w,sD _ _ OS]at e;cases e];exact e
   .rw[zB2 (λz=>hs (by injection z))];refine bZ ?_;rw[zAw hs,zAn];exact⟨_,_,_,xl,rfl,λb o e=>k9 _ _ e,IP,OQ⟩
  .rintro σ Hc ⟨x5,x6,x7,xl,rfl,k,el,ht⟩;rw[show xp.length=ps.length from rp.l]at ht;exact⟨_,rfl,q l xl Hc (λb o e=>k b o e) hl el ht⟩
theorem LkAt.same{d:Addr}(h:LkAt H d M)(s:Same H H'):LkAt H' d M:=by
 obtain⟨Mo,e,pm⟩:=h;exact⟨Mo,s _ _ e,pm⟩
theorem LkAt.pm{H:Hp}{d:Addr}{M M':PK}(h:LkAt H d M)(p:M.Perm M'):LkAt H d M':=by
 obtain⟨Mo,e,pm⟩:=h;exact⟨Mo,e,pm.trans p⟩
theorem RowsAt.but{a:Addr}{rs:PK}{IQ:List (List Key×V)}(h:RowsAt H a xs rs)(k:∀b o,b≠lk->H b=some o->H' b=some o)(el:H lk=some (.dT IQ)):RowsAt H' a xs rs:=by
 have tp:∀b z,H b=some (.tup z)->H' b=some (.tup z):=λb z e=>k b _ (λw=>by rw[w,el]at e;cases e) e
 exact⟨tp _ _ h.e,h.l,λi r e=>by
  obtain⟨t,e1,e2⟩:=h.g i r e
  exact⟨t,e1,tp _ _ e2⟩⟩
structure Wd(H Hc:Hp)(lk lg ll:Addr)(xg:List V)(G:PK)(L:PP)(M:PK):Prop where
 k:∀b o,b≠lk->H b=some o->Hc b=some o
 eg:Hc lg=some (.lst xg)
 elg:Els Hc xg G
 el:Hc ll=some (.lst (L.map V.int))
 lka:LkAt Hc lk M
 nk:lg≠lk
 nl:ll≠lk
 ng:lg≠ll
 fg:H lg=none
 fl:H ll=none
section
variable{H Hc Hd:Hp}{lk lg ll:Addr}{xg:List V}{G M:PK}{L:PP}
theorem Wd.same(d:Wd H Hc lk lg ll xg G L M)(s:Same Hc Hd):Wd H Hd lk lg ll xg G L M:=
 ⟨λb o n e=>s _ _ (d.k b o n e),s _ _ d.eg,d.elg.same s,s _ _ d.el,d.lka.same s,d.nk,d.nl,d.ng,d.fg,d.fl⟩
theorem Wd.gone{t:Addr}{r:PP}(d:Wd H Hc lk lg ll xg G L M)(et:Hc t=some (.tup (r.map V.int))):Wd H (upd Hc lg (.lst (xg++[.ref t]))) lk lg ll (xg++[.ref t]) (G++[r]) L M:=by
 have tp:∀b z,Hc b=some (.tup z)->upd Hc lg (.lst (xg++[.ref t])) b=some (.tup z):=λb z e=>by
  rw[az λw=>by rw[w,d.eg]at e;cases e];exact e
 obtain⟨kvs,e,pm⟩:=d.lka;exact⟨λb o n e=>by rw[az (aA e d.fg)];exact d.k b o n e,aj,(d.elg.app (Els.one et)).keep tp,by rw[az d.ng.symm];exact d.el,⟨kvs,by rw[az d.nk.symm];exact e,pm⟩,d.nk,d.nl,d.ng,d.fg,d.fl⟩
theorem Wd.put{M' AE:PK}(d:Wd H Hc lk lg ll xg G L M)(pm:AE.Perm M'):Wd H (upd Hc lk (.dT (AE.map kvR))) lk lg ll xg G L M':=by
 obtain⟨kvs,e,_⟩:=d.lka;exact⟨λb o n e=>by rw[az n];exact d.k b o n e,by rw[az d.nk];exact d.eg,d.elg.keep λb z e'=>by rw[az λw=>by rw[w,e]at e';cases e'];exact e',by rw[az d.nl];exact d.el,⟨AE,aj,pm⟩,d.nk,d.nl,d.ng,d.fg,d.fl⟩
theorem Wd.down{x:Int}(d:Wd H Hc lk lg ll xg G L M):Wd H (upd Hc ll (.lst ((L++[x]).map V.int))) lk lg ll xg G (L++[x]) M:=by
 obtain⟨kvs,e,pm⟩:=d.lka;exact⟨λb o n e=>by rw[az (aA e d.fl)];exact d.k b o n e,by rw[az d.ng];exact d.eg,d.elg.keep λb z e'=>by rw[az λw=>by rw[w,d.el]at e';cases e'];exact e',aj,⟨kvs,by rw[az d.nl.symm];exact e,pm⟩,d.nk,d.nl,d.ng,d.fg,d.fl⟩
end
theorem Wd.oth{Hc:Hp}{lg ll a:Addr}{xg:List V}{G:PK}{kv:List (List Key×V)}{o:HO}(d:Wd H Hc lk lg ll xg G L M)(e:Hc a=some (.dT kv))(n1:a≠lg)(n2:a≠ll)(n3:a≠lk)(n0:H a=none):Wd H (upd Hc a o) lk lg ll xg G L M:=by
 obtain⟨kvs,e1,pm⟩:=d.lka;exact⟨λb o n e=>by rw[az (aA e n0)];exact d.k b o n e,by rw[az n1.symm];exact d.eg,d.elg.keep λb z e'=>by rw[az λw=>by rw[w,e]at e';cases e'];exact e',by rw[az n2.symm];exact d.el,⟨kvs,by rw[az n3.symm];exact e1,pm⟩,d.nk,d.nl,d.ng,d.fg,d.fl⟩
theorem Dts.but{H0:Hp}{f:Int->Int->Int->Int}{b:Int->Int->Nat}{IQ:List (List Key×V)}(g:Dts fo H0 H dm f b kvs)(k:∀b o,b≠lk->H b=some o->H' b=some o)(nf:fo≠lk)(n0:H0 lk=none)(el:H lk=some (.dT IQ)):Dts fo H0 H' dm f b kvs:=by
 have nd:∀n y d,cD kvs (ky n y)=some (.ref d)->d≠lk:=λn y d h z=>by
  by_cases hd:dm n y
  .obtain⟨d',kv,e1,e2,_⟩:=g.g n y hd;rw[h]at e1;cases e1;rw[z,el]at e2;cases e2
  .rw[g.no n y hd]at h;cases h
 exact⟨λb o e=>k _ _ (aA e n0) (g.sm _ _ e),g.nf,k _ _ nf g.e,λn y h=>by
  obtain⟨d,kv,e1,e2,r⟩:=g.g n y h
  exact⟨d,kv,e1,k _ _ (nd n y d e1) e2,r⟩,g.no,g.i,λn y d h=>by
  obtain⟨e1,e2,o',e3⟩:=g.fr n y d h
  exact⟨e1,e2,o',k _ _ (nd n y d h) e3⟩⟩
theorem kW(ps M:PK)(i:Nat):M.Perm (others ps M i++elder ps M i):=
 ((List.Perm.append_left _ (fM _)).trans (Za7.trans (List.filter_append_perm (λr=>decide (bh ps r=i)) M))).symm
theorem qw{S:PK}{w:Int}{j:Nat}(hj:j<S.length):(S.take (j+1)).zip (bj w (S.take (j+1)))=(S.take j).zip (bj w (S.take j))++[(S[j],if w-(bj w (S.take j)).sum<fl S[j] 3 then w-(bj w (S.take j)).sum else fl S[j] 3)]:=by
 rw[zAj,zA0 hj,show(some S[j]).toList=[S[j]]from rfl,gm,List.zip_append (by rw[d7])];rfl
theorem Ej(a b:Int):(if b<a then b else a)=if a<b then a else b:=by split<;>split<;>lia
inductive SpLYearI(vs:List V)(H:Hp)(Q:VK):Prop
 |mk:∀ap xp ps fo H0 b kvs lk M,∀y:Nat,∀tc c ss ow,(vs=[.ref ap,.ref fo,.ref lk,.int y,.ref tc])->(RowsAt H ap xp ps)->(ps.length<=10)->((∀r∈ps,okP r))->(Dts fo H0 H (dom ps) (pU ps ss) b kvs)->(fo≠lk)->(H0 lk=none)->(LkAt H lk M)->(Lk ps ow y M)->(y<20)->(ow.Pairwise (λa b=>HT.lexLt b a=false))->((∀r∈ow,okO ps r))->(ow.length<=10000)->(H tc=some (.tup (c.map V.int)))->(c.length=3)->((∀x∈c,0<=x))->(un ps ss=none)->((∀s∈ss,s.length=5))->(∀t g tl xg M' H',(∀b o,b≠lk->H b=some o->H' b=some o)->H' t=some (.tup [.ref g,.ref tl])->H g=none->g≠sysModules->H' g=some (.lst xg)->Els H' xg (srt (yTo c ps ss ow y 3).g)->H' tl=some (.tup ((yTo c ps ss ow y 3).l.map V.int))->LkAt H' lk M'->Lk ps (srt (yTo c ps ss ow y 3).k) (y+1) M'->Q (.ref t) H')->SpLYearI  vs H Q
def zg:Sp:=λvs H Q _=>SpLYearI  vs H Q
theorem Bj:bootBuiltins "min"=some (.builtin "min"):=by decide +kernel
theorem Ng:(["_law_claim"]:List Str).Nodup:=by decide +kernel
theorem Nh:([Zf]:List Str).Nodup:=by decide +kernel
theorem Ni:([Y6,Yq,Yz]:List Str).Nodup:=by decide +kernel
theorem scLE:FnScope [Yq,Yv,Zc,Yt,Zk,"_law_gone","_law_down","_law_have",Yz,"_law_some","_law_wanted","_law_shares","_law_fresh",Y7,Zg,Y0,"_law_share",Y6,"_law_made"] [Yq,Yv,Zc,Yt,Zk] (aJ (top 77)):=fQS
theorem Ek(F:Fun K "_law_year" "_law_year" (top 77) f fd)(T:Mg mg)(Tr:mg "range"=none)(Tz:mg "zip"=none)(To:mg "sorted"=none)(Tn:mg "min"=none)(Ts:mg "sum"=none)(c1:Cal P w K mg base 1 Zn [Yq,Yv,Yz,Yt] lQ)(c2:Cal P w K mg base 1 "_law_parted" [Y0,Zi] K41P.spLParts):
  FnOk P w K mg base CX0 2 f fd [Yq,Yv,Zc,Yt,Zk] zg:=by
 refine F.ok scLE (λvs H Q E h=>?_) (λay A outer s H vs Q E hr h=>?_)
 .obtain⟨ap,xp,ps,fo,H0,b,kvs,lk,M,y,tc,c,ss,ow,rfl,_⟩:=h;rfl
 .obtain⟨ap,xp,ps,fo,H0,b,kvs,lk,M,y,tc,c,ss,ow,rfl,rp,lp,okp,dt,nf,n0,la,C8,Xj,so,gT,IS,sv,lc,hc,hu,h5,q⟩:=h
  refine K41P.ok_b (aR ⟨G8 (i:=5) (j:=6) (k:=7) rfl scLE.nd rfl rfl rfl Zx Zx Zx rfl rfl rfl (au (cJ ao) (au (cJ ao) (au aB ao))) rfl⟩
   (aR ⟨bU zB3 rfl (bu rfl Tr (au aB ao)) (bC (i:=8) scLE.nd rfl (Or.inr rfl))
   (iT (aR (gR 7 scLE.nd (yg bw ⟨pv 7⟩ (Cp bR ⟨pv 4⟩ ⟨pv 8⟩ (λ_ _=>rfl))))
   (aR (gR 9 scLE.nd ⟨aK c1 hr (au (pv 0) (au (pv 1) (au (pv 8) (au (pv 3) ao))))⟩)
   (aR ⟨ig (i:=10) ["_law_claim"] [none] rfl scLE.nd rfl (Or.inl rfl) (di (pv 9)) (λC fp Zt s₂ H₂=>⟨pgn 0 Ng,bx,pX (K41P.ix_tupK (K:=K) rfl) (pv 0) aB⟩) (λC=>trivial) ⟨rfl,rfl,rfl,rfl⟩⟩
   (aR (gR 11 scLE.nd ⟨uA (bT bV (aM (cu rfl) rfl Ts boot_sum (au (pv 10) ao)) (pv 7) (bQ _)) (pv 10) (aK c2 hr (au (pv 7) (au (pv 10) ao)))⟩)
   (aR (gR 12 scLE.nd ⟨oH⟩)
   (aR ⟨bU zB3 rfl (ZT.pi_zip false false rfl Tz (au (pv 9) (au (pv 11) ao))) (bG rfl (aq (bG rfl (aq (pgn 13 scLE.nd) (aq (pgn 14 scLE.nd) (aq (pgn 15 scLE.nd) bf)))) (aq (pgn 16 scLE.nd) bf)))
   (iT (aR ⟨cA (gC zB9 zBc zBb cN (pv 5) (au (bO (au (pv 3) (au (pv 13) (au (pv 14) (au (pv 16) ao))))) ao))⟩
   (cO ⟨ni (eO hr) (pv 12) (bO (au (pv 3) (au (pv 13) (au (pv 14) ao)))) (aU d8 (pv 15) (pv 16)) rfl⟩)))⟩
   (aR (gR 7 scLE.nd (yg d8 ⟨pv 7⟩ ⟨aM (cu rfl) rfl Ts boot_sum (au (pv 11) ao)⟩))
   (aR ⟨bU zB3 rfl (di (aM iw rfl To boot_sorted (au (CQ (bB [Y6,Yq,Yz] [none,some 0,some 8] rfl (yC (pv 2)) (λC fp Zt s₂ H₂=>⟨pgn 0 Ni,fP (bT jH (pX (K41P.ix_tupK (K:=K) rfl) (pX (K41P.ix_tupK (K:=K) rfl) (pv 1) (pX (K41P.ix_tupK (K:=K) rfl) (pv 0) aB)) aB) (pv 2) (bQ _)),pv 0⟩) (λC=>cI (cI trivial)) ⟨rfl,rfl,rfl,rfl⟩)) ao))) (pgn 17 scLE.nd)
   (iT (aR (gR 18 scLE.nd ⟨aM (fX rfl) rfl Tn Bj (au (pv 7) (au (fQ (eO hr) (pv 2) (pv 17) (λ_ _=>rfl)) ao))⟩)
   (aR ⟨cA (gC zB9 zBc zBb cN (pv 5) (au (aU sy (pv 17) (bO (au (pv 18) ao))) ao))⟩
   (cO ⟨cH (bO (au (aU d8 (fQ (eO hr) (pv 2) (pv 17) (λ_ _=>rfl)) (pv 18)) (au (aU d8 (pv 7) (pv 18)) ao))) (bG rfl (aq (nO (pv 2) (pv 17) (set_dict (eO hr))) (aq (pgn 7 scLE.nd) bf)))⟩))))⟩
   (aR ⟨cA (gC PySem.F.plainAttrs_dict PySem.F.slot_dict_update PySem.F.type_dict_update (Jq (eO hr)) (pv 2) (au (pv 12) ao))⟩
   (cO ⟨cA (gC zB9 zBc zBb cN (pv 6) (au (pv 7) ao))⟩)))))))))))⟩
   (cO (lH (tK (jl ⟨aM dH rfl To boot_sorted (au (bB [Zf] [none] rfl (di (pv 5)) (λC fp Zt s₂ H₂=>⟨pgn 0 Nh,fP (bT lZ (pX (K41P.ix_tupK (K:=K) rfl) (pv 0) aB) aB (bQ _)),pv 0⟩) (λC=>trivial) ⟨rfl,rfl,rfl,rfl⟩) ao)⟩ (jl ⟨cZ cP rfl T.tuple boot_tuple (au (pv 6) ao)⟩ gM))))))) ?_
  obtain⟨Xk,AJ,Xl⟩:=id la
  have RD:tc≠lk:=λz=>by rw[z,AJ]at sv;cases sv
  refine aP λc_ af=>?_;refine⟨zL,λlg si=>⟨zL,λll eI=>⟨_,_,_,rfl,?_⟩⟩⟩;refine af _ _ ?_;clear af c_
  try dsimp only
  have W0:Wd H (upd (upd H lg (.lst [])) ll (.lst [])) lk lg ll [] [] [] M:=by
   have s1:=Same.upd (o:=.lst []) si;have s2:=Same.upd (o:=.lst []) eI;exact⟨λb o n e=>s2 _ _ (s1 _ _ e),s2 _ _ aj,Els.nil,aj,la.same (s1.trans s2),(aA AJ si).symm,(aA AJ (s1.free eI)).symm,(λz=>by rw[<-z,aj]at eI;cases eI),si,s1.free eI⟩
  refine j7 (λH1=>Wd H H1 lk lg ll [] [] [] M) W0 λH1 W0=>?_;clear si eI;refine aQ ?_;refine⟨3,rfl,by decide,by decide,?_⟩;refine cj (lo:=0) (λi σ Hc=>Xe14 λx8 x9 kG kC kg fw fx fy me mf mh xg G Mi=>Xa3 (σ=[some (.ref ap),some (.ref fo),some (.ref lk),some (.int y),some (.ref tc),some (.ref lg),some (.ref ll),some (.int (yTo c ps ss ow y i).d),x8,x9,kG,kC,kg,fw,fx,fy,me,mf,mh]) (Wd H Hc lk lg ll xg G (yTo c ps ss ow y i).l Mi) (Stg c ps ss ow y i Mi G)) ?_ ?_ ?_
  .exact⟨none,none,none,none,none,none,none,none,none,none,none,[],[],M,rfl,W0,C8.start c ss okp gT⟩
  .rintro i σ Hc hi ⟨x8,x9,kG,kC,kg,fw,fx,fy,me,mf,mh,xg,G,Mi,rfl,W,g⟩;have hi:i<3:=hi
   have Ic:(c.map V.int)[i]?=some (.int (c.getD i 0)):=by
    have df:i<c.length:=Zz
    rw[zAb,zA7,zA0 df];rfl
   have hU:=dU (sort:=i) (year:=y) hu h5 okp;have l9:=cQ (ss:=ss) (sort:=i) (year:=y) lp
   obtain⟨w1,ew⟩:∃w1,w1=c.getD i 0+(yTo c ps ss ow y i).d:=⟨_,rfl⟩
   obtain⟨cl,ki⟩:∃cl,cl=aF ps ss i y:=⟨_,rfl⟩
   obtain⟨sh,xh⟩:∃sh,sh=bz w1 cl:=⟨_,rfl⟩
   obtain⟨S,eS⟩:∃S,S=elder ps Mi i:=⟨_,rfl⟩
   obtain⟨md,EJ⟩:∃md,md=bj (w1-sh.sum) S:=⟨_,rfl⟩
   obtain⟨g',ed,fq⟩:=g.step (mg:=md) so hc hu h5 okp lp gT hi ew ki xh (by rw[EJ,eS]);rw[<-eS]at g';have nn:=DG (y:=y) hc hu h5 okp lp gT i
   have AK:0<=w1:=by
    have:=jh hc i;lia
   rw[<-ki]at hU l9;have xC:sh.length=cl.length:=by rw[xh];exact shares_len
   refine aD ?_;have z0:(0:Int)+(i:Int)=i:=Zz
   rw[z0];refine vm λDe sx=>?_;refine aP λc_ af=>?_;refine aY ?_;refine⟨_,rfl,_,rfl,_,rfl,tc,_,i,.int (c.getD i 0),rfl,rfl,SqT.of (W.k _ _ RD sv),cB Ic,_,_,rfl,rfl,?_⟩;refine aD ?_;refine af _ _ ?_;clear af c_
   try dsimp only
   rw[Int.add_comm,<-ew];refine aP λc_ af=>?_;refine aY ?_;refine⟨_,rfl,_,rfl,_,rfl,_,rfl,ap,xp,ps,fo,H0,b,kvs,ss,i,y,rfl,rp.but W.k AJ,lp,okp,dt.but W.k nf n0 AJ,λml AL H2 s2 EK AM mm=>?_⟩;refine aD ?_;refine af _ _ ?_;clear af c_
   try dsimp only
   rw[<-ki]at mm;have W2:=W.same s2
   have RE:ml≠lg/\ml≠ll/\ml≠lk:=⟨(aA W.eg EK).symm,(aA W.el EK).symm,by
    obtain⟨Mo,e,_⟩:=W.lka
    exact(aA e EK).symm⟩
   clear s2 EK;refine aP λc_ af=>?_;refine⟨_,rfl,ml,rfl,⟨_,SqL.of AM⟩,bM cl.length (λj ys σ Hj=>Same H2 Hj/\(∃o1,σ=[o1])/\ys=(wts (cl.take j)).map V.int) ⟨Same.refl _,⟨_,rfl⟩,rfl⟩ Zu ?_ ?_⟩
   .rintro j ys σ Hj hj hy ⟨sj,⟨o1,rfl⟩,rfl⟩;obtain⟨t,ex,et⟩:=mm.2 j cl[j].tail (by rw[zAb,zA0 hj];rfl);have e4:=(hU _ (zAh hj)).1
    have IT:cl[j].tail=[fl cl[j] 1,fl cl[j] 2,fl cl[j] 3]:=by
     conv=>lhs;rw[cY e4]
     rfl
    rw[IT]at et;refine⟨⟨_,_,SqL.of (sj _ _ AM),ex⟩,λv H' y' R hR=>?_⟩;obtain⟨rfl,y'⟩:=y';have hv:=y' _ (SqL.of (sj _ _ AM));rw[ex]at hv;cases hv;refine aD ?_;refine⟨_,rfl,t,_,2,.int (fl cl[j] 3),rfl,rfl,SqT.of (sj _ _ et),rfl,hR _ _ _ ⟨sj,⟨_,rfl⟩,?_⟩⟩;unfold wts;rw[zAj,zA0 hj,zA4,zA4];rfl
   rintro ys σ Hj hy ⟨sj,_,rfl⟩;rw[zAm];refine⟨⟨_,SqL.of (sj _ _ AM),by rw[mm.1,zA1];exact zA3 _⟩,λlw AN=>?_⟩;have W3:=(W2.same sj).same (Same.upd (o:=.lst ((wts cl).map V.int)) AN);have s3:=sj.updR (o:=.lst ((wts cl).map V.int)) AN;have EL:=aj (H:=Hj) (a:=lw) (o:=.lst ((wts cl).map V.int));have xE:=s3 _ _ AM;have mn:=mm.same s3
   have dlw:lw≠lg/\lw≠ll/\lw≠lk:=⟨(aA (sj _ _ W2.eg) AN).symm,(aA (sj _ _ W2.el) AN).symm,by
    obtain⟨Mo,e,_⟩:=W2.lka
    exact(aA (sj _ _ e) AN).symm⟩
   generalize upd Hj lw (.lst ((wts cl).map V.int))=H3 at W3 EL xE mn⊢;clear AN sj s3 AM mm W2 W;refine af _ _ ?_;clear af c_
   try dsimp only
   refine aP λcc DS=>?_
   have rest:∀mv H4,Wd H H4 lk lg ll xg G (yTo c ps ss ow y i).l Mi->H4 ml=some (.lst AL)->Els H4 AL (cl.map List.tail)->H4 mv=some (.lst (sh.map V.int))->(mv≠lg/\mv≠ll/\mv≠lk)->cc [some (.ref ap),some (.ref fo),some (.ref lk),some (.int y),some (.ref tc),some (.ref lg),some (.ref ll),some (.int w1),some (.int i),some (.ref ml),some (.ref lw),some (.ref mv),kg,fw,fx,fy,me,mf,mh] H4:=by
    intro lsa H4 W4 xI sF xS RF;refine DS _ _ ?_;refine aP λc_ af=>?_;refine aY ?_;refine λlf iA=>?_;refine aD ?_;refine af _ _ ?_;clear af c_
    try dsimp only
    have s5:=Same.upd (o:=.dT []) iA;have W5:=W4.same s5;have qo:=aj (H:=H4) (a:=lf) (o:=.dT []);have yb:=s5 _ _ xI;have mw:=sF.same s5;have mx:=s5 _ _ xS
    have kr:lf≠lg/\lf≠ll/\lf≠lk/\lf≠ml/\lf≠lsa:=⟨(aA W4.eg iA).symm,(aA W4.el iA).symm,(by
     obtain⟨Mo,e,_⟩:=W4.lka
     exact(aA e iA).symm),(aA xI iA).symm,(aA xS iA).symm⟩
    have Dx:H lf=none:=by
     cases z:H lf with
     |none=>rfl
     |some o=>rw[W4.k _ _ kr.2.2.1 z]at iA;cases iA
    generalize upd H4 lf (.dT [])=H5 at W5 qo yb mw mx⊢;clear s5 W4 iA xI sF xS;have gl:=g.glen;have RG:AL.length=cl.length:=by rw[mw.1,zA1]
    refine aP λc_ af=>?_;refine⟨_,rfl,_,rfl,ml,lsa,_,_,rfl,SqL.of yb,SqL.of mx,?_⟩;refine ZT.for_zip (t1:=false) (t2:=false) (xs:=AL) (ys:=sh.map V.int) (λj σ Hj=>Xe5 λfw fx fy me qr=>Xa6 (σ=[some (.ref ap),some (.ref fo),some (.ref lk),some (.int y),some (.ref tc),some (.ref lg),some (.ref ll),some (.int w1),some (.int i),some (.ref ml),some (.ref lw),some (.ref lsa),some (.ref lf),fw,fx,fy,me,mf,mh]) (Wd H Hj lk lg ll qr (G++((cl.zip sh).take j).map fW) (yTo c ps ss ow y i).l Mi) (Hj lf=some (.dT ((((cl.zip sh).take j).map dD).map kvR))) (Hj ml=some (.lst AL)) (Els Hj AL (cl.map List.tail)) (Hj lsa=some (.lst (sh.map V.int)))) (by rw[RG,zA1,xC]) ?_ ?_ ?_ ?_
    .exact⟨fw,fx,fy,me,xg,rfl,by rw[Zay,List.map_nil,zAn];exact W5,qo,yb,mw,mx⟩
    .rintro j σ Hj hj ⟨fw,fx,fy,me,qr,rfl,Wj,mB,mE,hG,fA⟩;exact⟨SqL.of mE,SqL.of fA⟩
    .rintro j x z σ Hj T0 hx hz ⟨fw,fx,fy,me,qr,rfl,Wj,mB,mE,hG,fA⟩ nT
     have hj:j<cl.length:=by
      have:=(zAa.mp hx).1;lia
     have ku:j<sh.length:=Zz
     obtain⟨t,ex,et⟩:=hG.2 j cl[j].tail (by rw[zAb,zA0 hj];rfl);rw[hx]at ex;cases ex;rw[zAb,zA0 ku]at hz;cases hz;have e4:=(hU _ (zAh hj)).1
     have IT:cl[j].tail=[fl cl[j] 1,fl cl[j] 2,fl cl[j] 3]:=by
      conv=>lhs;rw[cY e4]
      rfl
     rw[IT]at et;have OU:fl cl[j] 0=y:=(iB (by rw[<-ki];exact zAh hj)).1;have IU:(cl.zip sh)[j]?=some (cl[j],sh[j]):=by rw[List.getElem?_zip_eq_some];exact⟨zA0 hj,zA0 ku⟩
     have cb:(cl.zip sh).take (j+1)=(cl.zip sh).take j++[(cl[j],sh[j])]:=by rw[zAj,IU];rfl
     have sT:=Same.upd (o:=.tup [V.ref t,.int sh[j]]) nT;have W6:=Wj.same sT;have DA:=sT _ _ mB;have DB:=sT _ _ mE;have sL:=hG.same sT;have sM:=sT _ _ fA;have OV:=sT _ _ et;have eT:=aj (H:=Hj) (a:=T0) (o:=.tup [V.ref t,.int sh[j]]);generalize upd Hj T0 (.tup [V.ref t,.int sh[j]])=H6 at W6 DA DB sL sM OV eT⊢;clear sT Wj nT;refine⟨T0,_,rfl,SqT.of eT,rfl,_,_,rfl,t,_,rfl,SqT.of OV,rfl,_,_,rfl,_,_,rfl,_,_,rfl,rfl,_,_,rfl,rfl,?_⟩;refine vm λRH RI=>?_
     try dsimp only
     refine aP λc_ af=>?_;refine⟨_,rfl,.inl ⟨rfl,_,SqL.of W6.eg⟩,_,rfl,_,rfl,_,rfl,_,rfl,zL,λtt sQ=>⟨lg,_,_,rfl,rfl,Same.upd sQ _ _ W6.eg,?_,?_⟩⟩
     .rw[W6.elg.1,zA2,zA1,zAd,zAs,sizeLine_eq];have:i*(240*(y:Int).toNat+400)<=3*(240*(y:Int).toNat+400):=Zal _ Zz;lia
     refine af _ _ ?_;clear af c_
     try dsimp only
     have sU:=Same.upd (o:=.tup [V.int y,.int (fl cl[j] 1),.int (fl cl[j] 2),.int sh[j]]) sQ;have W7:=(W6.same sU).gone (t:=tt) (r:=fW (cl[j],sh[j])) (by rw[aj];show _=some (HO.tup [V.int (fl cl[j] 0),_,_,_]);rw[OU])
     have keep:∀{b:Addr} {o:HO},b≠lg->H6 b=some o->upd (upd H6 tt (.tup [V.int y,.int (fl cl[j] 1),.int (fl cl[j] 2),.int sh[j]])) lg (.lst (qr++[.ref tt])) b=some o:=λ{b o} n e=>by
      rw[az n];exact sU _ _ e
     have bE:∀b z,H6 b=some (.tup z)->upd (upd H6 tt (.tup [V.int y,.int (fl cl[j] 1),.int (fl cl[j] 2),.int sh[j]])) lg (.lst (qr++[.ref tt])) b=some (.tup z):=λb z e=>keep (λw=>by rw[w,W6.eg]at e;cases e) e;have ff:=keep kr.1 DA;have DC:=keep RE.1 DB;have sR:=sL.keep bE;have tf:=keep RF.1 sM;generalize upd (upd H6 tt (.tup [V.int y,.int (fl cl[j] 1),.int (fl cl[j] 2),.int sh[j]])) lg (.lst (qr++[.ref tt]))=H7 at W7 ff DC sR tf⊢;clear keep bE sU W6 sQ;refine⟨_,rfl,_,rfl,_,_,rfl,rfl,_,rfl,_,rfl,_,rfl,_,rfl,zL,λtk A0=>⟨lf,_,rfl,DPut.t (k:=(keyOf cl[j]).map Sum.inl) (Same.upd A0 _ _ ff) (by rw[aj];show some (HO.tup [V.int y,V.int (fl cl[j] 1),V.int (fl cl[j] 2)])=some (HO.tup [V.int (fl cl[j] 0),V.int (fl cl[j] 1),V.int (fl cl[j] 2)]);rw[OU]) ?_,?_⟩⟩
     .rw[zA1,zA1,zAd,zAs,sizeLine_eq];lia
     have sK:=Same.upd (o:=.tup [V.int y,.int (fl cl[j] 1),.int (fl cl[j] 2)]) A0;have W8:=W7.same sK;have kx:=sK _ _ ff
     have IX:putK ((((cl.zip sh).take j).map dD).map kvR) ((keyOf cl[j]).map Sum.inl) (.int (fl cl[j] 3-sh[j]))=((((cl.zip sh).take (j+1)).map dD).map kvR):=by
      rw[Ca,cb,zA4,zA4]
      .rfl
      .cases zv:cD ((((cl.zip sh).take j).map dD).map kvR) ((keyOf cl[j]).map Sum.inl)with
       |none=>rfl
       |some v=>
        have h1:(cD ((((cl.zip sh).take j).map dD).map kvR) ((keyOf cl[j]).map Sum.inl)).isSome=true:=by rw[zv];rfl
        rw[<-fB,List.any_eq_true]at h1;obtain⟨p,hp,e⟩:=h1;have e:=zB6 e;obtain⟨r,hr,rfl⟩:=zA5.mp hp;have e:=nG (show(keyOf r).map Sum.inl=_ from e)
        have nd:((cl.zip sh).map dD).map keyOf |>.Nodup:=by
         rw[dW (f:=dD) (λ_=>rfl) xC,ki];exact yV _
        have nB:(cl.zip sh).map dD=((cl.zip sh).take j).map dD++dD (cl[j],sh[j])::((cl.zip sh).drop (j+1)).map dD:=by
         have OW:j<(cl.zip sh).length:=by rw[zAs];lia
         have:(cl.zip sh)[j]=(cl[j],sh[j]):=by rw[zA0 OW]at IU;exact zAl IU
         rw[<-this,<-zAk,<-zA4,<-Zaw OW,zBf]
        rw[nB,zA4,List.nodup_append]at nd;exact absurd e (nd.2.2 _ (zA5.mpr ⟨r,hr,rfl⟩) _ (.head _))
     rw[IX];refine RI _ _ ⟨_,_,_,_,qr++[.ref tt],rfl,?_,aj,?_,?_,?_⟩
     .have eG:G++((cl.zip sh).take (j+1)).map fW=G++((cl.zip sh).take j).map fW++[fW (cl[j],sh[j])]:=by
       rw[cb,zA4,<-zAf];rfl
      rw[eG];exact W8.oth kx kr.1 kr.2.1 kr.2.2.1 Dx
     .rw[az kr.2.2.2.1.symm];exact sK _ _ DC
     .exact(sR.same sK).keep λb z e=>by
       rw[az λw=>by rw[w,kx]at e;cases e];exact e
     .rw[az kr.2.2.2.2.symm];exact sK _ _ tf
    rintro σ Hj ⟨fw,fx,fy,me,qr,rfl,Wj,mB,mE,hG,fA⟩;rw[Zai (by rw[zAs];lia)]at Wj mB;refine af _ _ ?_;clear af c_
    try dsimp only
    refine aP λc_ af=>?_;refine aY ?_;refine⟨_,rfl,_,rfl,lsa,sh,rfl,.inl (SqL.of fA),_,_,rfl,rfl,?_⟩;refine aD ?_;refine af _ _ ?_;clear af c_
    try dsimp only
    clear mE hG fA
    obtain⟨w2,RJ⟩:∃w2,w2=w1-sh.sum:=⟨_,rfl⟩
    rw[<-RJ]at EJ fq ed⊢;obtain⟨Mo,dQ,mI⟩:=id Wj.lka
    have RK:Mo.length<=10000:=by
     have:=g.len;have:=mI.length_eq;lia
    refine aQ ?_;refine⟨lk,_,dQ,λo=>?_⟩;have ez:=aj (H:=Hj) (a:=lk) (o:=.frz o (.dT (Mo.map kvR)))
    have sz:∀b u,b≠lk->Hj b=some u->upd Hj lk (.frz o (.dT (Mo.map kvR))) b=some u:=λb u n e=>by
     rw[az n];exact e
    have uz:∀b u,b≠lk->upd Hj lk (.frz o (.dT (Mo.map kvR))) b=some u->Hj b=some u:=λb u n e=>by
     rw[az n]at e;exact e
    generalize upd Hj lk (.frz o (.dT (Mo.map kvR)))=Hz at ez sz uz⊢
    have tz:∀{Hd:Hp},Same Hz Hd->∀b z,H b=some (.tup z)->Hd b=some (.tup z):=λ{Hd} sd b z e=>by
     have nb:b≠lk:=λw=>by rw[w,AJ]at e;cases e
     exact sd _ _ (sz _ _ nb (Wj.k _ _ nb e))
    refine⟨_,rfl,lk,o,_,rfl,ez,eF Mo.length (λj ys σ Hd=>Same Hz Hd/\(∃o1,σ=[o1,some (.ref ap),some (.int i)])/\Els Hd ys (((Mo.take j).filter λr=>decide (bh ps r=i)).map keyOf)) ⟨Same.refl _,⟨_,rfl⟩,Els.nil⟩ Zu ?_ ?_⟩
    .rintro j ys σ Hd hj hy ⟨sd,⟨o1,rfl⟩,fT⟩;have DD:=g.ok Mo[j] (mI.mem_iff.mp (zAh hj));obtain⟨p,hp,ep,op⟩:=fV okp DD.2.1 DD.2.2.1;obtain⟨tp,eJ,fe⟩:=gG rp DD.2.1 hp;rw[dZ op.1]at fe;have es:bh ps Mo[j]=fl p 1:=by unfold bh;rw[ep]
     have cb:((Mo.take (j+1)).filter λr=>decide (bh ps r=i)).map keyOf=((Mo.take j).filter λr=>decide (bh ps r=i)).map keyOf++(if fl p 1=i then[keyOf Mo[j]]else[]):=by
      rw[zAj,zA0 hj,show(some Mo[j]).toList=[Mo[j]]from rfl,Zao,zA4];congr 1;by_cases h:fl p 1=i
      .rw[zAx h,zBe (by rw[es];exact zAt h)];rfl
      .rw[zAw h,zBa (by rw[es,Zq];exact h)];rfl
     refine⟨⟨sd _ _ ez,by rw[zA1];exact hj⟩,λx H' yv R hR=>?_⟩;obtain⟨rfl,bb,kk,vv,rfl,DE,qv⟩:=yv;rw[zAb,zA0 hj]at DE;cases DE;have qv:H' bb=some (.tup [.int (fl Mo[j] 0),.int (fl Mo[j] 1),.int (fl Mo[j] 2)]):=qv;refine aD ?_;refine⟨_,rfl,_,rfl,bb,_,1,.int (fl Mo[j] 1),rfl,rfl,SqT.of qv,rfl,ap,xp,_,.ref tp,rfl,rfl,SqT.of (tz sd _ _ rp.e),eJ,tp,_,1,.int (fl p 1),rfl,rfl,SqT.of (tz sd _ _ fe),rfl,_,rfl,rfl,_,rfl,?_⟩;by_cases h:fl p 1=i
     .rw[zAt (by rw[h])];refine cC ⟨_,rfl,hR _ _ _ (by rw[zA2];show ys.length+1<=j+1;lia) ⟨sd,⟨_,rfl⟩,?_⟩⟩;rw[cb,zAx h];exact fT.app (Els.one qv)
     .rw[zB2 (λz=>h (by injection z))];refine bZ (hR _ _ _ Zz ⟨sd,⟨_,rfl⟩,?_⟩);rw[cb,zAw h,zAn];exact fT
    rintro ys σ Hd hy ⟨sd,_,fT⟩;rw[zAm]at fT;refine⟨⟨sd _ _ ez,by rw[zA1];exact zA3 _⟩,λD hD=>⟨Same.upd hD _ _ (sd _ _ ez),?_⟩⟩
    have nD:D≠lk:=λz=>by rw[z,sd _ _ ez]at hD;cases hD
    have S6:Same Hj (upd (upd Hd D (.lst ys)) lk (.dT (Mo.map kvR))):=λb u e=>by
     by_cases hb:b=lk
     .subst hb;rw[dQ]at e;cases e;exact aj
     .rw[az hb];exact Same.upd hD _ _ (sd _ _ (sz _ _ hb e))
    have eD:upd (upd Hd D (.lst ys)) lk (.dT (Mo.map kvR)) D=some (.lst ys):=by rw[az nD];exact aj
    have mM:upd Hd D (.lst ys) lk=some (.frz o (.dT (Mo.map kvR))):=Same.upd hD _ _ (sd _ _ ez)
    have cx:Els (upd (upd Hd D (.lst ys)) lk (.dT (Mo.map kvR))) ys ((Mo.filter λr=>decide (bh ps r=i)).map keyOf):=(fT.same (Same.upd hD)).keep λb z e=>by
     rw[az λw=>by rw[w,mM]at e;cases e];exact e
    generalize upd (upd Hd D (.lst ys)) lk (.dT (Mo.map kvR))=H6 at S6 eD cx⊢;clear fT sd sz uz tz ez hD mM;obtain⟨ads,ey,kP,nV⟩:=ji cx;subst ey;refine⟨D,ads,gA H6,rfl,SqL.of eD,λa ha=>⟨SqT.of (nV a ha),λz=>?_⟩,λq' l' hq pm pS=>?_⟩
    .have:gA H6 a∈(Mo.filter λr=>decide (bh ps r=i)).map keyOf:=by rw[kP];exact List.mem_map_of_mem ha
     obtain⟨r,_,e⟩:=zA5.mp this;rw[z]at e;cases e
    have OX:l'.map (gA H6)=S.map keyOf:=by
     rw[gO (rs:=(Mo.filter λr=>decide (bh ps r=i)).map keyOf) (by rw[kP];exact pm.map _) (Zan.mpr pS),eS];unfold elder;rw[<-Ay (mI.filter λr=>decide (bh ps r=i)),DQ λr hr=>(g.ok r (mI.mem_iff.mp (zAq.mp hr).1)).1]
    have S7:=S6.updR (o:=.lst (l'.map V.ref)) hq;have AO:=aj (H:=H6) (a:=q') (o:=.lst (l'.map V.ref))
    have qA:Els (upd H6 q' (.lst (l'.map V.ref))) (l'.map V.ref) (S.map keyOf):=by
     rw[<-OX];exact pM λa ha=>Same.upd hq _ _ (nV a (pm.mem_iff.mp ha))
    have nq:Hj q'=none:=S6.free hq;generalize upd H6 q' (.lst (l'.map V.ref))=H7 at S7 AO qA⊢;clear nV kP cx eD S6 hq pm pS OX;have W7:=Wj.same S7;have ff:=S7 _ _ mB
    have dq:q'≠lg/\q'≠ll/\q'≠lk:=⟨(aA Wj.eg nq).symm,(aA Wj.el nq).symm,(aA dQ nq).symm⟩
    have lS:S.length<=10000:=by
     have:=(kW ps Mi i).length_eq;have:=g.len;rw[zA2,<-eS]at *;lia
    generalize l'.map V.ref=xq at AO qA⊢;have IY:xq.length=S.length:=by rw[qA.1,zA1]
    have RL:∀j,(others ps Mi i++((S.take j).zip (bj w2 (S.take j))).map dD++S.drop j).map keyOf |>.Nodup:=λj=>by
     rw[zA4,zA4,dW (f:=dD) (λ_=>rfl) (d7 _ _),zAf,<-zA4,zBf,<-zA4];rw[eS];exact((kW ps Mi i).map _).nodup_iff.mp g.kd
    refine⟨q',rfl,⟨_,SqL.of AO⟩,?_⟩;refine jG (xs:=xq) (λj σ Hk=>Xe3 λmf mh mN=>Xa5 (σ=[some (.ref ap),some (.ref fo),some (.ref lk),some (.int y),some (.ref tc),some (.ref lg),some (.ref ll),some (.int (w2-(bj w2 (S.take j)).sum)),some (.int i),some (.ref ml),some (.ref lw),some (.ref lsa),some (.ref lf),fw,fx,fy,me,mf,mh]) (Wd H Hk lk lg ll mN (G++(cl.zip sh).map fW++((S.take j).zip (bj w2 (S.take j))).map fW) (yTo c ps ss ow y i).l (others ps Mi i++((S.take j).zip (bj w2 (S.take j))).map dD++S.drop j)) (Hk lf=some (.dT (((cl.zip sh).map dD).map kvR))) (Hk q'=some (.lst xq)) (Els Hk xq (S.map keyOf))) ?_ ?_ ?_ ?_
    .refine⟨mf,mh,qr,?_,?_,ff,AO,qA⟩
     .rw[Zay];show[_,_,_,_,_,_,_,some (V.int w2),_,_,_,_,_,_,_,_,_,_,_]=[_,_,_,_,_,_,_,some (V.int (w2-0)),_,_,_,_,_,_,_,_,_,_,_];rw[Int.sub_zero]
     .have e:others ps Mi i++((S.take 0).zip (bj w2 (S.take 0))).map dD++S.drop 0=others ps Mi i++S:=by
       rw[Zay,List.drop_zero];show others ps Mi i++[]++S=_;rw[zAn]
      have e2:G++(cl.zip sh).map fW++((S.take 0).zip (bj w2 (S.take 0))).map fW=G++(cl.zip sh).map fW:=by
       rw[Zay];exact zAn _
      rw[e,e2,eS];exact⟨W7.k,W7.eg,W7.elg,W7.el,W7.lka.pm (kW ps Mi i),W7.nk,W7.nl,W7.ng,W7.fg,W7.fl⟩
    .rintro j σ Hk hj ⟨mf,mh,mN,rfl,Wk,qB,EM,qE⟩;exact SqL.of EM
    .rintro j x σ Hk hx ⟨mf,mh,mN,rfl,Wk,qB,EM,qE⟩
     have hj:j<S.length:=by
      have:=(zAa.mp hx).1;lia
     obtain⟨t,ex,et⟩:=qE.2 j (keyOf S[j]) (by rw[zAb,zA0 hj];rfl);rw[hx]at ex;cases ex;have sC:S.drop j=S[j]::S.drop (j+1):=Zaw hj;have kd:=RL j;have DF:S[j]∈others ps Mi i++((S.take j).zip (bj w2 (S.take j))).map dD++S.drop j:=zA6.mpr (.inr (by rw[sC];exact .head _));have eZ:=qw (w:=w2) hj
     have eM:bj w2 (S.take (j+1))=bj w2 (S.take j)++[if w2-(bj w2 (S.take j)).sum<fl S[j] 3 then w2-(bj w2 (S.take j)).sum else fl S[j] 3]:=by
      rw[zAj,zA0 hj,show(some S[j]).toList=[S[j]]from rfl,gm]
     have em:=Ej (w2-(bj w2 (S.take j)).sum) (fl S[j] 3);generalize hm:(if w2-(bj w2 (S.take j)).sum<fl S[j] 3 then w2-(bj w2 (S.take j)).sum else fl S[j] 3)=m at eZ eM em;refine aD ?_;refine vm λXm RM=>?_;refine aP λc_ af=>?_;refine aY ?_;refine⟨_,rfl,_,rfl,_,rfl,lk,.int (fl S[j] 3),rfl,Wk.lka.get kd DF et,_,_,rfl,?_⟩;rw[em];refine aD ?_;refine af _ _ ?_;clear af c_
     try dsimp only
     refine aP λc_ af=>?_;refine⟨_,rfl,.inl ⟨rfl,_,SqL.of Wk.eg⟩,_,rfl,_,rfl,zL,λt1 nN=>?_⟩;have s1:=Same.upd (o:=.tup [V.int m]) nN;refine⟨t,t1,_,_,rfl,rfl,SqT.of (s1 _ _ et),SqT.of aj,by unfold keyOf;simp,(by show 3+1<=sizeLine;decide),λz=>absurd z Zy,λ_ t2 nI=>⟨lg,mN,.ref t2,rfl,rfl,Same.upd nI _ _ (s1 _ _ Wk.eg),?_,?_⟩⟩
     .rw[Wk.elg.1,zA2,zA2,zA1,zA1,zAs,zAs,zAd,sizeLine_eq];have:i*(240*(y:Int).toNat+400)<=3*(240*(y:Int).toNat+400):=Zal _ Zz;lia
     have s2:=Same.upd (o:=.tup ((keyOf S[j]).map V.int++[V.int m])) nI;have W8:=((Wk.same s1).same s2).gone (t:=t2) (r:=fW (S[j],m)) aj
     have keep:∀{b:Addr} {u:HO},b≠lg->Hk b=some u->upd (upd (upd Hk t1 (.tup [V.int m])) t2 (.tup ((keyOf S[j]).map V.int++[V.int m]))) lg (.lst (mN++[.ref t2])) b=some u:=λ{b u} n e=>by
      rw[az n];exact s2 _ _ (s1 _ _ e)
     have bE:∀b z,Hk b=some (.tup z)->upd (upd (upd Hk t1 (.tup [V.int m])) t2 (.tup ((keyOf S[j]).map V.int++[V.int m]))) lg (.lst (mN++[.ref t2])) b=some (.tup z):=λb z e=>keep (λw=>by rw[w,Wk.eg]at e;cases e) e;have kx:=keep kr.1 qB;have IZ:=keep dq.1 EM;have yi:=qE.keep bE;have EN:=bE _ _ et;refine af _ _ ?_;clear af c_
     try dsimp only
     refine j7 (λH8=>Wd H H8 lk lg ll (mN++[.ref t2]) (G++(cl.zip sh).map fW++((S.take j).zip (bj w2 (S.take j))).map fW++[fW (S[j],m)]) (yTo c ps ss ow y i).l (others ps Mi i++((S.take j).zip (bj w2 (S.take j))).map dD++S.drop j)/\H8 lf=some (.dT (((cl.zip sh).map dD).map kvR))/\H8 q'=some (.lst xq)/\Els H8 xq (S.map keyOf)/\H8 t=some (.tup ((keyOf S[j]).map V.int))) ⟨W8,kx,IZ,yi,EN⟩ λH8=>?_;rintro⟨W8,kx,IZ,yi,EN⟩;clear keep bE s1 s2 nN nI;obtain⟨Mk,DH,yk⟩:=id W8.lka;rw[sC]at yk kd;obtain⟨Mn,RN,RO⟩:=Bb (x:=fl S[j] 3-m) yk kd;refine⟨_,rfl,_,rfl,lk,.int (fl S[j] 3),rfl,W8.lka.get (by rw[sC];exact kd) DF EN,_,rfl,_,_,rfl,rfl,_,rfl,_,rfl,_,_,rfl,rfl,zL,λtp RP=>?_⟩;have sP:=Same.upd (o:=.tup [V.int (fl S[j] 3-m),V.int (w2-(bj w2 (S.take j)).sum-m)]) RP;have eP:=aj (H:=H8) (a:=tp) (o:=.tup [V.int (fl S[j] 3-m),V.int (w2-(bj w2 (S.take j)).sum-m)]);refine⟨tp,_,rfl,SqT.of eP,rfl,_,_,rfl,_,rfl,_,rfl,lk,_,rfl,DPut.t (k:=(keyOf S[j]).map Sum.inl) (sP _ _ DH) (by rw[sP _ _ EN,zAr];rfl) ?_,_,_,rfl,rfl,?_⟩
     .have:=yk.length_eq;have:=(kW ps Mi i).length_eq;have:=g.len;rw[zA1,sizeLine_eq];rw[zA2,zA2,zAe,zA1,zAs,zAd,Zam,d7,zAd]at *;rw[<-eS]at *;lia
     rw[RN];have W9:=(W8.same sP).put RO;have pT:∀b,b≠lk->upd (upd H8 tp (.tup [V.int (fl S[j] 3-m),V.int (w2-(bj w2 (S.take j)).sum-m)])) lk (.dT (Mn.map kvR)) b=upd H8 tp (.tup [V.int (fl S[j] 3-m),V.int (w2-(bj w2 (S.take j)).sum-m)]) b:=λb n=>az n;refine RM _ _ ⟨some (.ref t),some (.int m),mN++[.ref t2],?_,?_,?_,?_,?_⟩
     .rw[eM,List.sum_append,Zag,List.sum_nil,Int.add_zero,<-Int.sub_sub];rfl
     .have e1:G++(cl.zip sh).map fW++((S.take (j+1)).zip (bj w2 (S.take (j+1)))).map fW=G++(cl.zip sh).map fW++((S.take j).zip (bj w2 (S.take j))).map fW++[fW (S[j],m)]:=by
       rw[eZ,zA4,<-zAf];rfl
      have e2:others ps Mi i++((S.take (j+1)).zip (bj w2 (S.take (j+1)))).map dD++S.drop (j+1)=others ps Mi i++((S.take j).zip (bj w2 (S.take j))).map dD++[fl S[j] 0,fl S[j] 1,fl S[j] 2,fl S[j] 3-m]::S.drop (j+1):=by
       rw[eZ,zA4,<-zAf,zAf _ _ (S.drop (j+1))];rfl
      rw[e1,e2];exact W9
     .rw[pT _ kr.2.2.1];exact sP _ _ kx
     .rw[pT _ dq.2.2];exact sP _ _ IZ
     .exact(yi.same sP).keep λb z e=>by
       rw[pT _ λw=>by rw[w,sP _ _ DH]at e;cases e];exact e
    rintro σ Hk ⟨mf,mh,mN,rfl,Wk,qB,EM,qE⟩;rw[IY,zAm,List.drop_length,zAn,<-EJ]at Wk;rw[IY,zAm,<-EJ,ed];dsimp only;obtain⟨Mk,DI,yk⟩:=id Wk.lka;have Xn:=yk.length_eq;have glen:=g'.len
    have lF:((cl.zip sh).map dD).length<=80:=by
     rw[zA1,zAs];lia
    refine aP λc_ af=>?_;refine⟨_,rfl,.inr (.inr (.inl ⟨rfl,.inr ⟨_,DI⟩⟩)),_,rfl,lk,lf,Mk.map kvR,((cl.zip sh).map dD).map kvR,rfl,rfl,kr.2.2.1.symm,DI,qB,?_,?_,λ_=>?_,?_⟩
    .rw[zA2]at glen;rw[zA1,zA1,sizeLine_eq];lia
    .rw[<-zA4];exact xx (((yk.append_right _).map _).nodup_iff.mpr g'.kd)
    .intro w;refine JF (y:=y) Zz Zz (λr hr=>?_) ?_ w
     .obtain⟨p,hp,rfl⟩:=zA5.mp hr;have hm:=(Zaz (show(p.1,p.2)∈_ from hp)).1;rw[ki]at hm;obtain⟨a1,a2,a3,a4,a5,a6⟩:=iB hm;exact⟨a1,a3,by show fl p.1 1<10;lia,a5,a6⟩
     .rw[dW (f:=dD) (λ_=>rfl) xC,ki];exact yV _
    rw[<-zA4];have WA:=Wk.put (yk.append_right ((cl.zip sh).map dD));refine af _ _ ?_;clear af c_
    try dsimp only
    refine j7 (λHA=>Wd H HA lk lg ll mN (G++(cl.zip sh).map fW++(S.zip md).map fW) (yTo c ps ss ow y i).l (others ps Mi i++(S.zip md).map dD++(cl.zip sh).map dD)) WA λHA WA=>?_;refine⟨_,rfl,.inl ⟨rfl,_,SqL.of WA.el⟩,_,rfl,ll,_,_,rfl,rfl,WA.el,?_,?_⟩
    .rw[zA1,(DK (c:=c) (ss:=ss) (ow:=ow) (y:=y) lp i).2.2,sizeLine_eq];lia
    refine sx _ _ ⟨_,_,_,_,_,_,_,_,_,_,_,mN,_,_,rfl,?_,g'⟩;have WB:=WA.down (x:=(yTo c ps ss ow y (i+1)).d);rw[zA4]at WB;exact WB
   refine aY ?_;refine⟨_,rfl,lw,wts cl,rfl,.inl (SqL.of EL),_,rfl,_,_,rfl,rfl,_,rfl,?_⟩;by_cases hs:(wts cl).sum<=w1
   .rw[zAt hs];refine cC ⟨_,rfl,?_⟩;have:sh=wts cl:=by rw[xh];unfold bz;rw[zAx hs]
    exact aD (rest lw H3 W3 xE mn (by rw[this];exact EL) dlw)
   .rw[zB2 hs];refine bZ ?_
    have hok:K41P.OkW (wts cl):=by
     refine⟨?_,by unfold wts;rw[zA1];exact l9,λx hx=>?_⟩
     .cases hz:wts cl with
      |nil=>rw[hz]at hs;exact absurd AK (by simpa using hs)
      |cons a l=>rw[zAe];lia
     .obtain⟨r,hr,rfl⟩:=zA5.mp hx;exact(hU r hr).2
    refine⟨_,rfl,_,rfl,w1,lw,wts cl,rfl,EL,hok,AK,Zz,λH4 q4 s4 nq eq4=>?_⟩;have:sh=K41P.res w1 (wts cl):=by rw[xh];unfold bz;rw[zAw hs]
    refine aD (rest q4 H4 (W3.same s4) (s4 _ _ xE) (mn.same s4) (by rw[this];exact eq4) ⟨(aA W3.eg nq).symm,(aA W3.el nq).symm,?_⟩);obtain⟨Mo,e,_⟩:=W3.lka;exact(aA e nq).symm
  .rintro σ Hc ⟨x8,x9,kG,kC,kg,fw,fx,fy,me,mf,mh,xg,G,Mi,rfl,W,g⟩;have W:Wd H Hc lk lg ll xg G (yTo c ps ss ow y 3).l Mi:=W;have g:Stg c ps ss ow y 3 Mi G:=g;dsimp only;have gn:=g.gn;have g4:=g.g4;have gl:=g.glen;refine⟨_,rfl,lg,rfl,⟨_,SqL.of W.eg⟩,eF G.length (λj ys σ Hd=>Same Hc Hd/\(∃o1,σ=[o1])/\Els Hd ys (d9 (G.take j))) ⟨Same.refl _,⟨_,rfl⟩,Els.nil⟩ Zu ?_ ?_⟩
   .rintro j ys σ Hd hj hy ⟨sd,⟨o1,rfl⟩,fT⟩;obtain⟨t,ex,et⟩:=W.elg.2 j G[j] (zA0 hj);have e4:=g4 _ (zAh hj);have EI:=et;rw[cY e4]at et
    have cb:d9 (G.take (j+1))=d9 (G.take j)++(if 0<fl G[j] 3 then[G[j]]else[]):=by
     rw[zAj,zA0 hj,show(some G[j]).toList=[G[j]]from rfl,jj];congr 1;unfold d9;by_cases h:0<fl G[j] 3
     .rw[zAx h,zBe (p:=λ(r:PP)=>decide (0<fl r 3)) (zAt h)];rfl
     .rw[zAw h,zBa (p:=λ(r:PP)=>decide (0<fl r 3)) (by rw[Zq];exact h)];rfl
    refine⟨⟨_,_,SqL.of (sd _ _ W.eg),ex⟩,λv H' y' R hR=>?_⟩;obtain⟨rfl,y'⟩:=y';have hv:=y' _ (SqL.of (sd _ _ W.eg));rw[ex]at hv;cases hv;refine aD ?_;refine⟨_,rfl,t,_,3,.int (fl G[j] 3),rfl,rfl,SqT.of (sd _ _ et),rfl,_,_,rfl,rfl,_,rfl,?_⟩;by_cases h:0<fl G[j] 3
    .rw[zAt h];refine cC ⟨_,rfl,hR _ _ _ (by rw[zA2];show ys.length+1<=j+1;lia) ⟨sd,⟨_,rfl⟩,?_⟩⟩;rw[cb,zAx h];exact fT.app (Els.one (sd _ _ EI))
    .rw[zB2 h];refine bZ (hR _ _ _ Zz ⟨sd,⟨_,rfl⟩,?_⟩);rw[cb,zAw h,zAn];exact fT
   rintro ys σ Hd hy ⟨sd,_,fT⟩;rw[zAm,gn]at fT;refine⟨⟨_,SqL.of (sd _ _ W.eg),by rw[W.elg.1];exact zA3 _⟩,λD hD=>?_⟩;have s6:=sd.updR (o:=.lst ys) hD;have cx:=fT.same (Same.upd (o:=.lst ys) hD);have eD:=aj (H:=Hd) (a:=D) (o:=.lst ys);generalize upd Hd D (.lst ys)=H6 at s6 cx eD⊢;obtain⟨ads,ey,kP,nV⟩:=ji cx;subst ey;have r4:=(y_row (c:=c) (ps:=ps) (ss:=ss) (ow:=ow) (y:=y) 3).1;refine⟨D,ads,gA H6,rfl,SqL.of eD,λa ha=>⟨SqT.of (nV a ha),λz=>?_⟩,λg1 l' Jn xB pm pS=>?_⟩
   .have:=r4 (gA H6 a) (by rw[kP];exact List.mem_map_of_mem ha);rw[z]at this;cases this
   have W7:=(W.same s6).same (Same.upd (o:=.lst (l'.map V.ref)) Jn);refine⟨_,rfl,ll,_,rfl,.inl ⟨SqL.of W7.el,λtl EG=>⟨zL,λt ht=>?_⟩⟩⟩;have u2:=Same.upd (o:=.tup ((yTo c ps ss ow y 3).l.map V.int)) EG;have u3:=Same.upd (o:=.tup [.ref g1,.ref tl]) ht;have W8:=(W7.same u2).same u3;have AD:l'.map (gA H6)=srt (yTo c ps ss ow y 3).g:=gO (by rw[kP];exact pm.map _) (Zan.mpr pS)
   have RQ:H g1=none:=by
    have n6:=s6.free Jn
    cases z:H g1 with
    |none=>rfl
    |some o=>
     by_cases hb:g1=lk
     .obtain⟨Mo,e,_⟩:=W.lka;rw[hb,e]at n6;cases n6
     .rw[W.k _ _ hb z]at n6;cases n6
   refine q t g1 tl _ Mi _ W8.k aj RQ xB (u3 _ _ (u2 _ _ aj)) ?_ (u3 _ _ aj) W8.lka (g.next okp gT);rw[<-AD];exact pM λa ha=>u3 _ _ (u2 _ _ (Same.upd Jn _ _ (nV a (pm.mem_iff.mp ha))))
def vK(cs ps ss:PK)(j:Nat):Yr:=yTo (cs.getD j []) ps ss (dz cs ps ss j) j 3
def YAt(H0:Hp)(l:Addr)(cs ps ss:PK)(H:Hp)(a:Addr)(j:Nat):Prop:=∃g k tl xg xk,H a=some (.tup [.ref g,.ref k,.ref tl])/\H0 g=none/\H0 k=none/\g≠l/\k≠l/\H g=some (.lst xg)/\Els H xg (srt (vK cs ps ss j).g)/\H k=some (.lst xk)/\Els H xk (dz cs ps ss (j+1))/\H tl=some (.tup ((vK cs ps ss j).l.map V.int))/\(g≠sysModules/\k≠sysModules)
theorem YAt.keep{H0:Hp}{l a:Addr}{j:Nat}(h:YAt H0 l cs ps ss H a j)(k:∀b o,b≠l->H b=some o->H' b=some o)(hl:∃xs,H l=some (.lst xs)):YAt H0 l cs ps ss H' a j:=by
 obtain⟨xs,hl⟩:=hl;obtain⟨g,kk,tl,xg,xk,e1,n1,n2,d1,d2,e2,e3,e4,e5,e6,e7⟩:=h
 have nt:∀b z,H b=some (.tup z)->b≠l:=λb z e w=>by rw[w,hl]at e;cases e
 exact⟨g,kk,tl,xg,xk,k _ _ (nt _ _ e1) e1,n1,n2,d1,d2,k _ _ d1 e2,e3.keep λb z e=>k _ _ (nt _ _ e) e,k _ _ d2 e4,e5.keep λb z e=>k _ _ (nt _ _ e) e,k _ _ (nt _ _ e6) e6,e7⟩
inductive SpYearsI(vs:List V)(H:Hp)(Q:VK):Prop
 |mk:∀bk y ac xc cs ap xp ps ai xs ss,(vs=[.ref bk,.int y])->(H bk=some (.tup [.ref ac,.ref ap,.ref ai]))->(RowsAt H ac xc cs)->((∀r∈cs,r.length=3/\∀x∈r,0<=x))->(cs.length<=20)->(0<=y)->(y<cs.length)->(RowsAt H ap xp ps)->(ps.length<=10)->((∀r∈ps,okP r))->(RowsAt H ai xs ss)->(ss.length<=12)->((∀s∈ss,s.length=5))->(un ps ss=none)->(∀l (ts:List Addr) H',Same H H'->H l=none->H' l=some (.lst (ts.map V.ref))->(ts.length:Int)=y+1->(∀j a,ts[j]?=some a->YAt H l cs ps ss H' a j)->Q (.ref l) H')->SpYearsI  vs H Q
def zj:Sp:=λvs H Q _=>SpYearsI  vs H Q
theorem scYB:FnScope ["book","year","years","owed","at","gifts","left"] ["book","year"] (aJ (top 49)):=fQS
theorem El(F:Fun K "years_given" "years_given" (top 49) f fd)(Tr:mg "range"=none)(c1:Cal P w K mg base 9 "year_given" ["book","year","owed"] DN):FnOk P w K mg base CX0 10 f fd ["book","year"] zj:=by
 refine F.ok scYB (λvs H Q E h=>?_) (λay A outer s H vs Q E hr h=>?_)
 .obtain⟨bk,y,ac,xc,cs,ap,xp,ps,ai,xs,ss,rfl,_⟩:=h;rfl
 .obtain⟨bk,y,ac,xc,cs,ap,xp,ps,ai,xs,ss,rfl,eb,rc,okc,lc,y0,y1,rp,lp,okp,rs,ls,h5,hu,q⟩:=h
  refine⟨_,aC (pss 2 scYB.nd (cJ ao))
   (aC (pss 3 scYB.nd (cJ ao))
   (aC (bU zB3 rfl (bu rfl Tr (au (aU bw (pv 1) aB) ao)) (pgn 4 scYB.nd)
    (aC (cH (aK c1 hr (au (pv 0) (au (pv 4) (au (pv 3) ao)))) (bG rfl (aq (pgn 5 scYB.nd) (aq (pgn 3 scYB.nd) (aq (pgn 6 scYB.nd) bf)))))
    (aG (cA (gC zB9 zBc zBb cN (pv 2) (au (bO (au (pv 5) (au (pv 3) (au (pv 6) ao)))) ao))))))
   (aG (aW (pv 2))))),?_⟩
  refine aQ (aY ?_);refine⟨zL,λl hl=>?_⟩;refine aD ?_;dsimp only;refine aQ (aY ?_);refine⟨zL,λJA fh=>?_⟩;refine aD ?_;dsimp only;have s1:=Same.upd (o:=.lst []) hl;have s2:=Same.upd (o:=.lst []) fh
  have RS:JA≠l:=λz=>by rw[z,aj]at fh;cases fh
  refine j7 (λH1=>Same H H1/\H1 l=some (.lst [])/\H1 JA=some (.lst [])) ⟨s1.trans s2,s2 _ _ aj,aj⟩ λH1=>?_;rintro⟨k1,el1,RT⟩;refine aQ ?_;refine⟨_,rfl,_,_,rfl,rfl,y+1,rfl,Zz,Zz,?_⟩;refine cj (lo:=0) (λi σ Hc=>Xe6 λx4 x5 x6 lo xo (ts:List Addr)=>Xa8 (σ=[some (.ref bk),some (.int y),some (.ref l),some (.ref lo),x4,x5,x6]) (Same H Hc) (Hc l=some (.lst (ts.map V.ref))) (ts.length=i) ((∀j a,ts[j]?=some a->YAt H l cs ps ss Hc a j)) (lo≠l) (Hc lo=some (.lst xo)) (Els Hc xo (dz cs ps ss i))) ?_ ?_ ?_
  .exact⟨none,none,none,JA,[],[],rfl,k1,el1,rfl,λj a e=>(by simp at e),RS,RT,Els.nil⟩
  .rintro i σ Hc hi ⟨x4,x5,x6,lo,xo,ts,rfl,k,el,lt,hy,dl,eo,pd⟩;obtain⟨gT,IS⟩:=rJ (cs:=cs) lp hu h5 okp i;refine aD ?_;have z0:(0:Int)+(i:Int)=i:=Zz
   rw[z0];refine aQ ?_;refine⟨_,rfl,_,rfl,_,rfl,bk,i,lo,ac,xc,cs,ap,xp,ps,ai,xs,ss,xo,dz cs ps ss i,rfl,k _ _ eb,rc.same k,okc,Zz,Zz,rp.same k,lp,okp,rs.same k,ls,h5,hu,eo,pd,gT,Zz,λt g kk tl xg xk H2 s2 et ng nk xB eg elg ek dQ EO=>?_⟩;rw[zAi]at elg dQ EO;refine⟨t,_,rfl,SqT.of et,rfl,_,_,rfl,_,_,rfl,_,_,rfl,rfl,?_⟩;dsimp only;have k2:=k.trans s2;have el2:=s2 _ _ el;have dg:g≠l:=(aA el ng).symm;have dk:kk≠l:=(aA el nk).symm;refine⟨_,rfl,.inl ⟨rfl,_,SqL.of el2⟩,_,rfl,_,rfl,_,rfl,zL,λtt sQ=>⟨l,_,_,rfl,rfl,Same.upd sQ _ _ el2,by rw[zA1,lt,sizeLine_eq];lia,?_⟩⟩;have s3:=Same.upd (o:=.tup [.ref g,.ref kk,.ref tl]) sQ
   have nt:tt≠l:=λz=>by rw[z,el2]at sQ;cases sQ
   have kp:∀{o:HO} b u,b≠l->H2 b=some u->upd (upd H2 tt (.tup [.ref g,.ref kk,.ref tl])) l o b=some u:=λb u n e=>by
    rw[az n];exact s3 _ _ e
   have ke:∀{o:HO} b z,H2 b=some (.tup z)->upd (upd H2 tt (.tup [.ref g,.ref kk,.ref tl])) l o b=some (.tup z):=λb z e=>kp b _ (λw=>by rw[w,el2]at e;cases e) e;refine⟨_,_,_,kk,xk,ts++[tt],rfl,λb o e=>?_,?_,by rw[zA2,lt];rfl,λj a e=>?_,dk,kp _ _ dk ek,dQ.keep ke⟩
   .exact kp _ _ (aA e hl) (k2 _ _ e)
   .rw[aj,zA4];rfl
   .by_cases hj:j<ts.length
    .rw[zB8 hj]at e;exact(hy j a e).keep (λb o n z=>kp _ _ n (s2 _ _ z)) ⟨_,el⟩
    .have nE:j=i:=by
      have:=(zAa.mp e).1;rw[zA2]at this;simp at this;lia
     subst nE;rw[zB7 Zz,lt,Nat.sub_self]at e;cases e;exact⟨g,kk,tl,xg,xk,by rw[az nt];exact aj,k.free ng,k.free nk,dg,dk,kp _ _ dg eg,elg.keep ke,kp _ _ dk ek,dQ.keep ke,ke _ _ EO,xB⟩
  .rintro σ Hc ⟨x4,x5,x6,lo,xo,ts,rfl,k,el,lt,hy,dl,eo,pd⟩;exact⟨_,rfl,q l ts Hc k hl el (by rw[lt];lia) hy⟩
theorem Em{K:Frag}(hK:X.K=K):OpR X (binaryOp .Add) (HB K):=by
 subst hK;exact sy
structure WAt(lk lf:Addr)(cs ps ss:PK)(H:Hp)(a:Addr)(j:Nat)(g tl q:Addr)(xg xq:List V):Prop where
 e:H a=some (.tup [.ref g,.ref tl,.ref q])
 gk:g≠lk
 gf:g≠lf
 eg:H g=some (.lst xg)
 elg:Els H xg (srt (vK cs ps ss j).g)
 gs:g≠sysModules
 qk:q≠lk
 qf:q≠lf
 eq:H q=some (.lst xq)
 elq:Els H xq (dz cs ps ss (j+1))
 qs:q≠sysModules
 el:H tl=some (.tup ((vK cs ps ss j).l.map V.int))
theorem WAt.keep{lf:Addr}{a:Addr}{j:Nat}{g tl q:Addr}{xg xq:List V}{kv:List (List Key×V)}(h:WAt lk lf cs ps ss H a j g tl q xg xq)(k:∀b o,b≠lk->b≠lf->H b=some o->H' b=some o)(e1:H lk=some (.dT kv))(e2:H lf=some (.lst xl)):WAt lk lf cs ps ss H' a j g tl q xg xq:=by
 have tp:∀b z,H b=some (.tup z)->H' b=some (.tup z):=λb z e=>k b _ (λw=>by rw[w,e1]at e;cases e) (λw=>by rw[w,e2]at e;cases e) e;exact⟨tp _ _ h.e,h.gk,h.gf,k _ _ h.gk h.gf h.eg,h.elg.keep tp,h.gs,h.qk,h.qf,k _ _ h.qk h.qf h.eq,h.elq.keep tp,h.qs,tp _ _ h.el⟩
def WA(lk lf:Addr)(cs ps ss:PK)(H:Hp)(a:Addr)(j:Nat):Prop:=∃g tl q xg xq,WAt lk lf cs ps ss H a j g tl q xg xq
theorem WA.keep{lf:Addr}{a:Addr}{j:Nat}{kv:List (List Key×V)}(h:WA lk lf cs ps ss H a j)(k:∀b o,b≠lk->b≠lf->H b=some o->H' b=some o)(e1:H lk=some (.dT kv))(e2:H lf=some (.lst xl)):WA lk lf cs ps ss H' a j:=by
 obtain⟨g,tl,q,xg,xq,h⟩:=h;exact⟨g,tl,q,xg,xq,h.keep k e1 e2⟩
theorem Dts.butL{lf:Addr}{H0:Hp}{f:Int->Int->Int->Int}{b:Int->Int->Nat}(g:Dts fo H0 H dm f b kvs)(k:∀b o,b≠lf->H b=some o->H' b=some o)(n0:H0 lf=none)(el:H lf=some (.lst xl)):Dts fo H0 H' dm f b kvs:=by
 have nd:∀n y d,cD kvs (ky n y)=some (.ref d)->d≠lf:=λn y d h z=>by
  by_cases hd:dm n y
  .obtain⟨d',kv,e1,e2,_⟩:=g.g n y hd;rw[h]at e1;cases e1;rw[z,el]at e2;cases e2
  .rw[g.no n y hd]at h;cases h
 have nf:fo≠lf:=λz=>by
  have:=g.e;rw[z,el]at this;cases this
 exact⟨λb o e=>k _ _ (aA e n0) (g.sm _ _ e),g.nf,k _ _ nf g.e,λn y h=>by
  obtain⟨d,kv,e1,e2,r⟩:=g.g n y h
  exact⟨d,kv,e1,k _ _ (nd n y d e1) e2,r⟩,g.no,g.i,λn y d h=>by
  obtain⟨e1,e2,o',e3⟩:=g.fr n y d h
  exact⟨e1,e2,o',k _ _ (nd n y d h) e3⟩⟩
theorem Ia(cs ps ss:PK):∀n,(dz cs ps ss n).Pairwise (λa b=>HT.lexLt b a=false)
 |0=>List.Pairwise.nil
 |n+1=>uh _
theorem GX{d b:Addr}{o:Obj}{r:PP}(e:H d=some (.frz o (.dT (M.map kvR))))(nd:(M.map keyOf).Nodup)(hr:r∈M)(eb:H b=some (.tup ((keyOf r).map V.int))):DGet H d (.ref b) (some (.int (fl r 3))):=by
 have:=pN (xx nd) (zA5.mpr ⟨r,hr,rfl⟩);rw[<-this];exact .inr ⟨_,_,b,.inr ⟨o,e⟩,rfl,by rw[eb,zAr];rfl,rfl⟩
inductive SpWalkI(vs:List V)(H:Hp)(Q:VK):Prop
 |mk:∀ac xc cs ap xp ps ai xs ss,(vs=[.ref ac,.ref ap,.ref ai])->(RowsAt H ac xc cs)->((∀r∈cs,r.length=3/\∀x∈r,0<=x))->(cs.length<=20)->(RowsAt H ap xp ps)->(ps.length<=10)->((∀r∈ps,okP r))->(RowsAt H ai xs ss)->(ss.length<=12)->((∀s∈ss,s.length=5))->(un ps ss=none)->(∀l lk (ts:List Addr) H',Same H H'->H l=none->H' l=some (.lst (ts.map V.ref))->ts.length=cs.length->(∀j a,ts[j]?=some a->WA lk l cs ps ss H' a j)->Q (.ref l) H')->SpWalkI  vs H Q
def En:Sp:=λvs H Q _=>SpWalkI  vs H Q
theorem Nj:([Y6,Zc]:List Str).Nodup:=by decide +kernel
theorem scLF:FnScope [Zb,Yq,Yu,Yv,Zc,Y4,Yt,Zk,"_law_gone","_law_down","_law_owing"] [Zb,Yq,Yu] (aJ (top 78)):=fQS
theorem GZ(F:Fun K "_law_walk" "_law_walk" (top 78) f fd)(Te:mg "enumerate"=none)(To:mg "sorted"=none)(c1:Cal P w K mg base 2 Zj [Yq,Yu] nH)(c2:Cal P w K mg base 2 "_law_year" [Yq,Yv,Zc,Yt,Zk] zg):FnOk P w K mg base CX0 3 f fd [Zb,Yq,Yu] En:=by
 refine F.ok scLF (λvs H Q E h=>?_) (λay A outer s H vs Q E hr h=>?_)
 .obtain⟨ac,xc,cs,ap,xp,ps,ai,xs,ss,rfl,_⟩:=h;rfl
 .obtain⟨ac,xc,cs,ap,xp,ps,ai,xs,ss,rfl,rc,okc,lc,rp,lp,okp,rs,ls,h5,hu,q⟩:=h
  refine K41P.ok_b (aR ⟨cH (bO (au (pX bR (aK c1 hr (au (pv 1) (au (pv 2) ao))) aB) (au oH (au (cJ ao) ao)))) (bG rfl (aq (pgn 3 scLF.nd) (aq (bC (i:=4) scLF.nd rfl (Or.inr rfl)) (aq (pgn 5 scLF.nd) bf))))⟩
   (aR ⟨bU zB3 rfl (ZT.pi_enum true rfl Te (au (pv 0) ao)) (bG rfl (aq (pgn 6 scLF.nd) (aq (pgn 7 scLF.nd) bf)))
   (iT (aR ⟨cH (aK c2 hr (au (pv 1) (au (pv 3) (au (pv 4) (au (pv 6) (au (pv 7) ao)))))) (bG rfl (aq (pgn 8 scLF.nd) (aq (pgn 9 scLF.nd) bf)))⟩
   (aR (gR 10 scLF.nd ⟨aM dH rfl To boot_sorted (au (CQ (bB [Y6,Zc] [none,some 4] rfl (yC (pv 4)) (λC fp Zt s₂ H₂=>⟨pgn 0 Nj,fP (bT lZ (fQ (eO hr) (pv 1) (pv 0) (λ_ _=>rfl)) aB (bQ _)),aU (Em (K:=K) rfl) (pv 0) (bO (au (fQ (eO hr) (pv 1) (pv 0) (λ_ _=>rfl)) ao))⟩) (λC=>cI trivial) ⟨rfl,rfl,rfl,rfl⟩)) ao)⟩)
   (cO ⟨cA (gC zB9 zBc zBb cN (pv 5) (au (bO (au (pv 8) (au (pv 9) (au (pv 10) ao)))) ao))⟩))))⟩
   (cO (lH ⟨pv 5⟩)))) ?_
  refine aP λc_ af=>?_;refine⟨_,rfl,_,rfl,ap,xp,ps,ai,xs,ss,rfl,rp,lp,okp,rs,Zz,h5,λtt fo H1 s1 ER OY=>⟨tt,_,0,.ref fo,rfl,rfl,SqT.of ER,rfl,λlk jS=>⟨zL,λlf iA=>⟨zL,λt3 OZ=>⟨t3,_,rfl,SqT.of aj,rfl,_,_,rfl,_,_,rfl,_,_,rfl,rfl,?_⟩⟩⟩⟩⟩;obtain⟨b,kvs,dt⟩:=OY hu;have dt:Dts fo H H1 (dom ps) (pU ps ss) b kvs:=dt;have u2:=Same.upd (o:=.dT []) jS;have u3:=Same.upd (o:=.lst []) iA;have u4:=Same.upd (o:=.tup [.ref fo,.ref lk,.ref lf]) OZ;have pT:H lk=none:=s1.free jS;have Dx:H lf=none:=(s1.trans u2).free iA;have nf:fo≠lk:=aA dt.e jS
  have kr:lf≠lk:=λz=>by rw[z,aj]at iA;cases iA
  refine af _ _ ?_;clear af c_
  try dsimp only
  refine j7 (λH4=>Same H H4/\H4 lk=some (.dT (([]:PK).map kvR))/\H4 lf=some (.lst (([]:List Addr).map V.ref))/\Dts fo H H4 (dom ps) (pU ps ss) b kvs) ⟨((s1.trans u2).trans u3).trans u4,u4 _ _ (u3 _ _ aj),u4 _ _ aj,((dt.same u2).same u3).same u4⟩ λH4=>?_;rintro⟨S4,JE,JI,RU⟩;clear dt u2 u3 u4 jS iA OZ ER OY s1;refine aQ ?_;refine⟨_,rfl,ac,xc,rfl,SqT.of (S4 _ _ rc.e),?_⟩;refine ZT.for_enum true (xs:=xc) (λi σ Hc=>Xe7 λx6 x7 x8 x9 kG M (ts:List Addr)=>Xa8 (σ=[some (.ref ac),some (.ref ap),some (.ref ai),some (.ref fo),some (.ref lk),some (.ref lf),x6,x7,x8,x9,kG]) (Same H Hc) (LkAt Hc lk M) (Lk ps (dz cs ps ss i) i M) (Dts fo H Hc (dom ps) (pU ps ss) b kvs) (Hc lf=some (.lst (ts.map V.ref))) (ts.length=i) (∀j a,ts[j]?=some a->WA lk lf cs ps ss Hc a j)) ?_ ?_ ?_ ?_
  .exact⟨none,none,none,none,none,[],[],rfl,S4,⟨[],JE,List.Perm.refl _⟩,⟨List.nodup_nil,λr hr=>(by cases hr),λr hr=>(by cases hr),List.Perm.refl _,zA3 _⟩,RU,JI,rfl,λj a e=>(by simp at e)⟩
  .rintro i σ Hc hi ⟨x6,x7,x8,x9,kG,M,ts,rfl,k,la,C8,dt,qo,lt,hw⟩;exact SqT.of (k _ _ rc.e)
  .rintro i x σ Hc T0 hx ⟨x6,x7,x8,x9,kG,M,ts,rfl,k,la,C8,dt,qo,lt,hw⟩ nT
   have hi:i<cs.length:=by
    have:=(zAa.mp hx).1;rw[rc.l]at this;exact this
   obtain⟨tc,fz,sv⟩:=rc.g i cs[i] (zA0 hi)
   have:x=.ref tc:=by
    rw[hx]at fz;exact zAl fz
   subst this;have ec:cs.getD i []=cs[i]:=getD_get hi;obtain⟨gT,IS⟩:=rJ (cs:=cs) lp hu h5 okp i;have sT:=Same.upd (o:=.tup [V.int i,V.ref tc]) nT;have k1:=k.trans sT;have nX:=la.same sT;have nS:=dt.same sT;have mP:=sT _ _ qo;obtain⟨Xo,mS,_⟩:=id nX
   have AK:∀j a,ts[j]?=some a->WA lk lf cs ps ss (upd Hc T0 (.tup [V.int i,V.ref tc])) a j:=λj a e=>by
    obtain⟨Mo,dQ,_⟩:=la;exact(hw j a e).keep (λb o _ _ e=>sT _ _ e) dQ qo
   have eT:=aj (H:=Hc) (a:=T0) (o:=.tup [V.int i,V.ref tc]);generalize upd Hc T0 (.tup [V.int i,V.ref tc])=H1 at k1 nX nS mP mS AK eT⊢;clear hw dt la qo sT k nT;refine⟨T0,_,rfl,SqT.of eT,rfl,_,_,rfl,_,_,rfl,rfl,?_⟩;refine vm λDe sx=>?_
   try dsimp only
   refine aP λc_ af=>?_;refine⟨_,rfl,_,rfl,_,rfl,_,rfl,_,rfl,ap,xp,ps,fo,H,b,kvs,lk,M,i,tc,cs[i],ss,dz cs ps ss i,rfl,rp.same k1,lp,okp,nS,nf,pT,nX,C8,Zz,Ia cs ps ss i,gT,Zz,k1 _ _ sv,(okc _ (zAh hi)).1,(okc _ (zAh hi)).2,hu,h5,λt g tl xg M' H2 kb et ng xB eg elg EO yn O0=>⟨t,_,rfl,SqT.of et,rfl,_,_,rfl,_,_,rfl,rfl,?_⟩⟩;have k2:Same H H2:=λb o e=>kb _ _ (aA e pT) (k1 _ _ e);have RV:=nS.but kb nf pT mS;have qS:=kb _ _ kr mP;have RW:g≠lk:=(aA mS ng).symm;have O3:g≠lf:=(aA mP ng).symm;have RX:∀j a,ts[j]?=some a->WA lk lf cs ps ss H2 a j:=λj a e=>(AK j a e).keep (λb o n _ e=>kb _ _ n e) mS mP
   have JJ:Els H2 xg (srt (vK cs ps ss i).g):=by
    unfold vK;rw[ec];exact elg
   have AQ:Lk ps (dz cs ps ss (i+1)) (i+1) M':=by
    show Lk ps (srt (yTo (cs.getD i []) ps ss (dz cs ps ss i) i 3).k) (i+1) M';rw[ec];exact O0
   clear O0 elg AK mP mS nS nX kb k1 ng;refine af _ _ ?_;clear af c_
   try dsimp only
   obtain⟨Mo,dQ,mI⟩:=id yn;have kd:(Mo.map keyOf).Nodup:=(mI.map _).nodup_iff.mpr AQ.kd
   have RK:Mo.length<=10000:=by
    have:=AQ.len;have:=mI.length_eq;lia
   refine aP λc_ af=>?_;refine aY ?_;refine⟨lk,_,dQ,λo=>?_⟩;have ez:=aj (H:=H2) (a:=lk) (o:=.frz o (.dT (Mo.map kvR)))
   have sz:∀b u,b≠lk->H2 b=some u->upd H2 lk (.frz o (.dT (Mo.map kvR))) b=some u:=λb u n e=>by
    rw[az n];exact e
   generalize upd H2 lk (.frz o (.dT (Mo.map kvR)))=Hz at ez sz⊢;refine⟨_,rfl,lk,o,_,rfl,ez,eF Mo.length (λj ys σ Hd=>Same Hz Hd/\(∃o1,σ=[o1,some (.ref lk)])/\Els Hd ys (d9 (Mo.take j))) ⟨Same.refl _,⟨_,rfl⟩,Els.nil⟩ Zu ?_ ?_⟩
   .rintro j ys σ Hd hj hy ⟨sd,⟨o1,rfl⟩,fT⟩;have DD:=AQ.ok Mo[j] (mI.mem_iff.mp (zAh hj))
    have cb:d9 (Mo.take (j+1))=d9 (Mo.take j)++(if 0<fl Mo[j] 3 then[Mo[j]]else[]):=by
     rw[zAj,zA0 hj,show(some Mo[j]).toList=[Mo[j]]from rfl,jj];congr 1;unfold d9;by_cases h:0<fl Mo[j] 3
     .rw[zAx h,zBe (p:=λ(r:PP)=>decide (0<fl r 3)) (zAt h)];rfl
     .rw[zAw h,zBa (p:=λ(r:PP)=>decide (0<fl r 3)) (by rw[Zq];exact h)];rfl
    refine⟨⟨sd _ _ ez,by rw[zA1];exact hj⟩,λx H' yv R hR=>?_⟩;obtain⟨rfl,bb,kk,vv,rfl,DE,qv⟩:=yv;rw[zAb,zA0 hj]at DE;cases DE;have qv:H' bb=some (.tup ((keyOf Mo[j]).map V.int)):=qv;have gt:=GX (sd _ _ ez) kd (zAh hj) qv;refine aD ?_;refine⟨_,rfl,_,rfl,lk,_,rfl,gt,_,_,rfl,rfl,_,rfl,?_⟩;by_cases h:0<fl Mo[j] 3
    .rw[zAt h];refine cC ⟨_,rfl,_,rfl,_,rfl,lk,_,rfl,gt,zL,λt1 nN=>?_⟩;have s1:=Same.upd (o:=.tup [V.int (fl Mo[j] 3)]) nN;refine⟨bb,t1,_,_,rfl,rfl,SqT.of (s1 _ _ qv),SqT.of aj,by unfold keyOf;simp,(by show 3+1<=sizeLine;decide),λz=>absurd z Zy,λ_ t2 nI=>hR _ _ _ (by rw[zA2];show ys.length+1<=j+1;lia) ⟨(sd.trans s1).updR nI,⟨_,rfl⟩,?_⟩⟩;rw[cb,zAx h];refine((fT.same s1).same (Same.upd nI)).app (Els.one ?_);rw[aj]
     conv=>rhs;rw[cY DD.1]
     rfl
    .rw[zB2 h];refine bZ (hR _ _ _ Zz ⟨sd,⟨_,rfl⟩,?_⟩);rw[cb,zAw h,zAn];exact fT
   rintro ys σ Hd hy ⟨sd,_,fT⟩;rw[zAm]at fT;refine⟨⟨sd _ _ ez,by rw[zA1];exact zA3 _⟩,λD hD=>⟨Same.upd hD _ _ (sd _ _ ez),?_⟩⟩
   have nD:D≠lk:=λz=>by rw[z,sd _ _ ez]at hD;cases hD
   have S6:Same H2 (upd (upd Hd D (.lst ys)) lk (.dT (Mo.map kvR))):=λb u e=>by
    by_cases hb:b=lk
    .subst hb;rw[dQ]at e;cases e;exact aj
    .rw[az hb];exact Same.upd hD _ _ (sd _ _ (sz _ _ hb e))
   have eD:upd (upd Hd D (.lst ys)) lk (.dT (Mo.map kvR)) D=some (.lst ys):=by rw[az nD];exact aj
   have mM:upd Hd D (.lst ys) lk=some (.frz o (.dT (Mo.map kvR))):=Same.upd hD _ _ (sd _ _ ez)
   have cx:Els (upd (upd Hd D (.lst ys)) lk (.dT (Mo.map kvR))) ys (d9 Mo):=(fT.same (Same.upd hD)).keep λb z e=>by
    rw[az λw=>by rw[w,mM]at e;cases e];exact e
   generalize upd (upd Hd D (.lst ys)) lk (.dT (Mo.map kvR))=H6 at S6 eD cx⊢;clear fT sd sz ez hD mM;obtain⟨ads,ey,kP,nV⟩:=ji cx;subst ey;refine⟨D,ads,gA H6,rfl,SqL.of eD,λa ha=>⟨SqT.of (nV a ha),λz=>?_⟩,λq' l' hq RY pm pS=>?_⟩
   .have:gA H6 a∈d9 Mo:=by rw[kP];exact List.mem_map_of_mem ha
    have:=(AQ.ok _ (mI.mem_iff.mp (zAq.mp this).1)).1;rw[z]at this;cases this
   have S7:=S6.updR (o:=.lst (l'.map V.ref)) hq;refine aD ?_;refine af _ _ ?_;clear af c_
   try dsimp only
   have AD:l'.map (gA H6)=dz cs ps ss (i+1):=by
    refine(gO ?_ (Zan.mpr pS)).trans (gO (List.Perm.refl _) (Ia cs ps ss (i+1))).symm;refine(pm.map _).trans ?_;rw[<-kP];exact(mI.filter _).trans AQ.pm
   have elq:Els (upd H6 q' (.lst (l'.map V.ref))) (l'.map V.ref) (dz cs ps ss (i+1)):=by
    rw[<-AD];exact pM λa ha=>Same.upd hq _ _ (nV a (pm.mem_iff.mp ha))
   have O4:=S6.free hq;refine j7 (λH7=>Same H2 H7/\H7 q'=some (.lst (l'.map V.ref))/\Els H7 (l'.map V.ref) (dz cs ps ss (i+1))) ⟨S7,aj,elq⟩ λH7=>?_;rintro⟨S7,AO,JO⟩;clear nV kP cx eD S6 hq pm pS elq AD;have O5:q'≠lf:=(aA qS O4).symm;have RZ:q'≠lk:=(aA dQ O4).symm;have ff:=S7 _ _ qS;have R0:=S7 _ _ dQ;refine⟨_,rfl,.inl ⟨rfl,_,SqL.of ff⟩,_,rfl,_,rfl,_,rfl,zL,λt8 ES=>⟨lf,ts.map V.ref,.ref t8,rfl,rfl,Same.upd ES _ _ ff,by rw[zA1,lt,sizeLine_eq];lia,?_⟩⟩;have u8:=Same.upd (o:=.tup [.ref g,.ref tl,.ref q']) ES;have S8:=S7.trans u8
   have R1:t8≠lf:=λz=>by rw[z,ff]at ES;cases ES
   have keep:∀{o:HO} b u,b≠lf->H2 b=some u->upd (upd H7 t8 (.tup [.ref g,.ref tl,.ref q'])) lf o b=some u:=λ{o} b u n e=>by
    rw[az n];exact S8 _ _ e
   refine sx _ _ ⟨_,_,_,_,_,M',ts++[t8],rfl,λb o e=>keep _ _ (aA e Dx) (k2 _ _ e),⟨Mo,keep _ _ kr.symm dQ,mI⟩,AQ,?_,?_,by rw[zA2,lt];rfl,λj a e=>?_⟩
   .exact RV.butL (λb o n e=>keep _ _ n e) Dx qS
   .rw[aj,zA4];rfl
   .by_cases hj:j<ts.length
    .rw[zB8 hj]at e;exact(RX j a e).keep (λb o _ n e=>keep _ _ n e) dQ qS
    .have nE:j=i:=by
      have:=(zAa.mp e).1;rw[zA2]at this;simp at this;lia
     subst nE;rw[zB7 Zz,lt,Nat.sub_self]at e;cases e
     have kt:∀{o:HO} b z,H7 b=some (.tup z)->upd (upd H7 t8 (.tup [.ref g,.ref tl,.ref q'])) lf o b=some (.tup z):=λ{o} b z e=>by
      rw[az λw=>by rw[w,ff]at e;cases e];exact u8 _ _ e
     have JU:H2 tl=some (.tup ((vK cs ps ss j).l.map V.int)):=by
      unfold vK;rw[ec];exact EO
     refine⟨g,tl,q',xg,_,by rw[az R1];exact aj,RW,O3,keep _ _ O3 eg,JJ.keep λb z e=>kt _ _ (S7 _ _ e),xB,RZ,O5,?_,JO.keep kt,RY,kt _ _ (S7 _ _ JU)⟩;rw[az O5];exact u8 _ _ AO
  .rintro σ Hc ⟨x6,x7,x8,x9,kG,M,ts,rfl,k,la,C8,dt,qo,lt,hw⟩;rw[show xc.length=cs.length from rc.l]at lt;exact⟨_,rfl,q lf lk ts Hc k Dx qo lt hw⟩
def okC(r:PP):Prop:=r.length=3/\∀x∈r,0<=x/\x<1000
def Ls(st:Addr)(H:Hp)(n:Int)(v:V)(H':Hp):Prop:=∃cs:PK,But st H H'/\jY H' st/\IsTh (λ_=>False) H' v (cM cs)/\1<=cs.length/\(cs.length:Int)<=n/\∀r∈cs,okC r
inductive SpClipsRI(vs:List V)(H:Hp)(Q:VK):Prop
 |mk:∀st n,(vs=[.ref st,.int n])->(jY H st)->(1<=n)->(n<=20)->(∀v H',Ls st H n v H'->Q v H')->SpClipsRI  vs H Q
def vL:Sp:=λvs H Q _=>SpClipsRI  vs H Q
inductive SpSalesUI(vs:List V)(H:Hp)(Q:VK):Prop
 |mk:∀st ap xp ps n,(vs=[.ref st,.ref ap,.int n])->(jY H st)->(RowsAt H ap xp ps)->(ps.length<=10)->((∀r∈ps,okP r))->(0<=n)->(n<=12)->(∀a xs ss H',Dr st H H'->RowsAt H' a xs ss->(ss.length:Int)<=n->(∀s∈ss,smR s)->un ps ss=none->Q (.ref a) H')->SpSalesUI  vs H Q
def vM:Sp:=λvs H Q _=>SpSalesUI  vs H Q
inductive SpBookRI(vs:List V)(H:Hp)(Q:VK):Prop
 |mk:∀(st:Addr) (y m k:Int),(vs=[.ref st,.int y,.int m,.int k])->(jY H st)->(1<=y)->(y<=20)->(1<=m)->(m<=10)->(0<=k)->(k<=12)->(∀a ac xc cs ap xp ps ai xs ss H',Dr st H H'->H' a=some (.tup [.ref ac,.ref ap,.ref ai])->RowsAt H' ac xc cs->1<=cs.length->(cs.length:Int)<=y->(∀r∈cs,okC r)->RowsAt H' ap xp ps->ps.length<=10->(∀r∈ps,okP r)->RowsAt H' ai xs ss->ss.length<=12->(∀s∈ss,smR s)->un ps ss=none->Q (.ref a) H')->SpBookRI  vs H Q
def zm:Sp:=λvs H Q _=>SpBookRI  vs H Q
theorem Bk(F:Fun K "_law_clips" "_law_clips" (top 66) f fd)(T:Mg mg)(Tr:mg "range"=none)(c1:Cal P w K mg base 1 Zh [Ys,Ze] pq):FnOk P w K mg base CX0 2 f fd [Ys,Yy] vL:=by
 refine F.ok sc21 (λvs H Q E h=>?_) (λay A outer s H vs Q E hr h=>?_)
 .obtain⟨st,n,rfl,_⟩:=h;rfl
 .obtain⟨st,n,rfl,hV,n1,n2,q⟩:=h
  refine⟨_,aC (gY (i:=2) sc21.nd rfl (Or.inr rfl) (pX bA (cJ (jL (by repeat constructor))) (aK c1 hr (au (pv 0) (au aB ao)))))
   (aC (pss 3 sc21.nd (cJ ao))
   (aC (bU zB3 rfl (bu rfl Tr (au (aU bw aB (aK c1 hr (au (pv 0) (au (pv 1) ao)))) ao)) (pgn 4 sc21.nd)
    (aG (cA (gC zB9 zBc zBb cN (pv 3) (au (cZ cP rfl T.tuple boot_tuple (au
     (bB [Yz,Ys,"_law_wide"] [none,some 0,some 2] rfl (bu rfl Tr (au aB ao))
      (λC fp Zt s₂ H₂=>⟨pgn 0 MN,bx,aK c1 hr (au (pv 1) (au (pX (gj (K:=K) rfl) (cJ (au (pv 2) (au aB (au (pv 2) (au aB ao))))) (aK c1 hr (au (pv 1) (au aB ao)))) ao))⟩)
      (λC=>cI (cI trivial)) ⟨rfl,rfl,rfl,rfl⟩) ao)) ao)))))
   (aG (aW (cZ cP rfl T.tuple boot_tuple (au (pv 3) ao)))))),?_⟩
  obtain⟨a,b,es,h1,h2,h3⟩:=id hV;refine aP λc_ af=>?_;refine aY ?_;refine⟨zL,λp hp=>?_⟩
  have np:p≠st:=λz=>by
   rw[z,es]at hp;cases hp
  have oS:∀o,upd H p o st=some (.lst [.int a,.int b]):=λo=>by rw[az np.symm];exact es
  refine⟨_,rfl,st,4,rfl,⟨a,b,oS _,h1,h2,h3⟩,by decide,by decide,λr a1 b1 r0 r1 g1 g2 g3=>?_⟩
  obtain⟨wd,hw,w1,w2⟩:∃wd:Int,atI (([4,14,45,1000]:PP).map V.int) r=some (.int wd)/\1<=wd/\wd<=1000:=by
   have:r=0\/r=1\/r=2\/r=3:=Zz
   rcases this with rfl|rfl|rfl|rfl
   .exact⟨4,rfl,by decide,by decide⟩
   .exact⟨14,rfl,by decide,by decide⟩
   .exact⟨45,rfl,by decide,by decide⟩
   .exact⟨1000,rfl,by decide,by decide⟩
  refine⟨p,_,r,.int wd,rfl,rfl,SqL.of (by rw[az np];exact aj),hw,?_⟩;refine aD ?_;refine af _ _ ?_;clear af c_
  try dsimp only
  refine aP λc_ af=>?_;refine aY ?_;refine⟨zL,λp3 nK=>?_⟩;refine aD ?_;refine af _ _ ?_;clear af c_
  try dsimp only
  refine aQ ?_
  have gX:p3≠st:=λz=>by
   rw[z,aj]at nK;cases nK
  refine⟨_,rfl,_,rfl,st,n,rfl,⟨a1,b1,by rw[az gX.symm];exact aj,g1,g2,g3⟩,n1,Zz,λr2 a2 b2 x0 x1 y1 y2 y3=>⟨_,_,rfl,rfl,1+r2,rfl,Zz,Zz,?_⟩⟩
  have tj:∀b' o',H b'=some o'->b'≠st->b'≠p/\b'≠p3:=λb' o' e' ne=>by
   have z:b'≠p:=aA e' hp;refine⟨z,λz2=>?_⟩;rw[<-z2,az ne,az z,e']at nK;cases nK
  refine cj (lo:=0) (n:=(1+r2).toNat) (λi σ H'=>∃xs,∃ds:PK,∃x4,σ=[some (.ref st),some (.int n),some (.int wd),some (.ref p3),x4]/\But st H H'/\jY H' st/\H' p3=some (.lst xs)/\IsThs (λ_=>False) H' xs (ds.map cX)/\(∀r∈ds,okC r)/\ds.length=i/\xs.length=i) ?_ ?_ ?_
  .refine⟨[],[],none,rfl,λb' o' e' ne=>?_,⟨a2,b2,aj,y1,y2,y3⟩,?_,.nil,(λr hr=>by cases hr),rfl,rfl⟩
   .obtain⟨k1,k2⟩:=tj b' o' e' ne;rw[az ne,az k2,az ne,az k1];exact e'
   .rw[az gX];exact aj
  .rintro i σ H' hi ⟨xs,ds,x4,rfl,bt,sa,e3,ts,tm,hs,hl⟩;refine aD ?_;refine⟨_,rfl,.inl ⟨rfl,_,SqL.of e3⟩,3,rfl,by decide,by decide,?_⟩;refine⟨λj m ys O6 H2=>m=3-j/\j<=3/\∃is x0,ys=is.map V.int/\is.length=j/\(∀v∈is,0<=v/\v<1000)/\O6=[x0,some (.ref st),some (.int wd)]/\But st H' H2/\jY H2 st,⟨3,rfl,by decide,[],none,rfl,rfl,(λ_ h=>nomatch h),rfl,λ_ _ e _=>e,sa⟩,?_⟩;rintro j m ys O6 H2 ⟨rfl,hj,is,x0,rfl,JY,hv,rfl,ET,O7⟩;refine⟨by rw[zA1,JY,sizeLine_eq];lia,?_⟩;by_cases aI:j<3
   .refine .inr ⟨aI,λx H3 y=>?_⟩;obtain⟨e5,e6⟩:=y;subst e5;subst e6;refine aD ?_;obtain⟨a5,b5,e7,k1,k2,k3⟩:=O7;refine⟨_,rfl,_,rfl,_,rfl,zL,λp4 Kb=>?_⟩
    have O8:p4≠st:=λz=>by
     rw[z,e7]at Kb;cases Kb
    refine⟨_,rfl,st,4,rfl,⟨a5,b5,by rw[az O8.symm];exact e7,k1,k2,k3⟩,by decide,by decide,λr3 a6 b6 z0 z1 l1 l2 l3=>?_⟩
    obtain⟨wn,R3,u1,u2⟩:∃wn:Int,atI [V.int wd,V.int 1,V.int wd,V.int 3] r3=some (.int wn)/\1<=wn/\wn<=1000:=by
     have:r3=0\/r3=1\/r3=2\/r3=3:=Zz
     rcases this with rfl|rfl|rfl|rfl
     .exact⟨wd,rfl,w1,w2⟩
     .exact⟨1,rfl,by decide,by decide⟩
     .exact⟨wd,rfl,w1,w2⟩
     .exact⟨3,rfl,by decide,by decide⟩
    refine⟨p4,_,r3,.int wn,rfl,rfl,SqL.of (by rw[az O8];exact aj),R3,st,wn,rfl,⟨a6,b6,aj,l1,l2,l3⟩,u1,Zz,λr4 a7 b7 v0 v1 m1 m2 m3=>?_⟩;refine⟨3-(j+1),Zz,rfl,aI,is++[r4],_,by rw[zA4];rfl,by rw[zA2,JY];rfl,λv R4=>?_,rfl,λb' o' e' ne=>?_,⟨a7,b7,aj,m1,m2,m3⟩⟩
    .rcases zA6.mp R4 with z|z
     .exact hv v z
     .rw[Zae.mp z];lia
    .have e8:=ET b' o' e' ne;rw[az ne,az ne,az (aA e8 Kb)];exact e8
   .have e5:j=3:=Zz
    subst e5;have e9:=ET _ _ e3 gX;refine .inl ⟨zA3 _,λD hD=>⟨D,_,rfl,.inl ⟨SqL.of aj,λl gi=>?_⟩⟩⟩;have sm:Same H2 (upd (upd H2 D (.lst (is.map V.int))) l (.tup (is.map V.int))):=(Same.upd hD).updR gi;refine⟨p3,xs,.ref l,rfl,rfl,sm _ _ e9,by rw[hl,sizeLine_eq];lia,?_⟩
    have Cf:l≠p3:=λz=>by
     rw[z,Same.upd hD _ _ e9]at gi;cases gi
    have tk:∀c l',(upd (upd H2 D (.lst (is.map V.int))) l (.tup (is.map V.int))) c=some (.tup l')->(upd (upd (upd H2 D (.lst (is.map V.int))) l (.tup (is.map V.int))) p3 (.lst (xs++[.ref l]))) c=some (.tup l'):=λc l' e'=>by
     have:c≠p3:=λz=>by
      rw[z,sm _ _ e9]at e';cases e'
     rw[az this];exact e'
    refine⟨xs++[.ref l],ds++[is],_,rfl,λb' o' e' ne=>?_,?_,aj,?_,?_,?_,by rw[zA2,hl];rfl⟩
    .have k4:=(tj b' o' e' ne).2;rw[az k4];exact sm _ _ (ET _ _ (bt b' o' e' ne) ne)
    .obtain⟨a5,b5,e7,k1,k2,k3⟩:=O7;exact⟨a5,b5,by rw[az gX.symm];exact sm _ _ e7,k1,k2,k3⟩
    .rw[zA4];refine IsThs.append ?_ (.cons (.tup (by rw[az Cf];exact aj) (IsThs.ints is)) .nil)
     have R5:IsThs (λ_=>False) H2 xs (ds.map cX):=ts.keep (λc l' e'=>ET c _ e' (λz=>by
      obtain⟨a5,b5,e7,_⟩:=sa;rw[z,e7]at e'
      cases e')) (λ_ _ z _=>z.elim) λ_ _ z _=>z.elim
     exact(R5.same sm).keep tk (λ_ _ z _=>z.elim) λ_ _ z _=>z.elim
    .intro r hr;rcases zA6.mp hr with z|z
     .exact tm r z
     .rw[Zae.mp z];exact⟨JY,hv⟩
    .rw[zA2,hs];rfl
  .rintro σ H' ⟨xs,ds,x4,rfl,bt,sa,e3,ts,tm,hs,hl⟩;refine⟨_,rfl,p3,xs,rfl,.inl ⟨SqL.of e3,λl nL=>q _ _ ⟨ds,λb' o' e' ne=>?_,?_,.tup aj ?_,Zz,Zz,tm⟩⟩⟩
   .rw[az (aA (bt b' o' e' ne) nL)];exact bt b' o' e' ne
   .obtain⟨a',b',e',j1,j2,j3⟩:=sa;exact⟨a',b',by rw[az (aA e' nL)];exact e',j1,j2,j3⟩
   .exact(ts.same (Same.upd nL)).keep (λ_ _ e=>e) (λ_ _ z _=>z.elim) λ_ _ z _=>z.elim
theorem Eo{u:Option Nat}(h:decide (unV u=.non)=true):u=none:=by
 have:=zB6 h
 cases u with
 |none=>rfl
 |some n=>cases this
theorem Bl(F:Fun K "_law_sales" "_law_sales" (top 73) f fd)(T:Mg mg)(Tr:mg "range"=none)(c1:Cal P w K mg base 1 Zh [Ys,Ze] pq)(c2:Cal P w K mg base 2 Z0 [Ys,Yq] I9)(c3:Cal P w K mg base 2 Zj [Yq,Yu] Ec):
  FnOk P w K mg base CX0 3 f fd [Ys,Yq,Yy] vM:=by
 refine F.ok sc39s (λvs H Q E h=>?_) (λay A outer s H vs Q E hr h=>?_)
 .obtain⟨st,ap,xp,ps,n,rfl,_⟩:=h;rfl
 .obtain⟨st,ap,xp,ps,n,rfl,hV,rp,lp,okp,n0,n1,q⟩:=h
  refine⟨_,aC (pss 3 sc39s.nd (G7 gM))
   (aC (bU zB3 rfl (bu rfl Tr (au (aU gH (aK c1 hr (au (pv 0) (au (aU bw (pv 2) aB) ao))) (cZ zN rfl T.int boot_int (au (j9 lZ (aM bY rfl T.len PySem.boot_len (au (pv 1) ao)) aB (bQ _)) ao))) ao)) (pgn 4 sc39s.nd)
    (aC (pss 5 sc39s.nd (aU zc (pv 3) (bO (au (aK c2 hr (au (pv 0) (au (pv 1) ao))) ao))))
    (aG (dh (bT wy (pX bR (aK c3 hr (au (pv 1) (au (pv 5) ao))) aB) lq (bQ _)) (aG (pss 3 sc39s.nd (pv 5))) bN))))
   (aG (aW (pv 3)))),?_⟩
  have g0:Dr st H H:=⟨But.refl,hV⟩
  refine aP λc_ af=>?_;refine aY ?_;refine⟨zL,λe0 O9=>?_⟩;have g1:=g0.new (o:=.tup []) O9
  have r1:RowsAt (upd H e0 (.tup [])) e0 [] []:=⟨aj,rfl,λi r e=>by simp at e⟩
  have AI:=rp.same (Same.upd (o:=.tup []) O9);generalize upd H e0 (.tup [])=H1 at g1 r1 AI⊢;refine aD ?_;refine af _ _ ?_;clear af c_
  try dsimp only
  refine aQ ?_;refine⟨_,rfl,_,rfl,_,_,rfl,rfl,st,n+1,rfl,g1.sa,Zz,Zz,λr a1 b1 k0 kn k1 k2 k3=>?_⟩;have g2:=g1.take k1 k2 k3;have Ki:=(Dr.take ⟨But.refl,g1.sa⟩ k1 k2 k3:Dr st H1 _).rows g1.sa AI;have r2:=(Dr.take ⟨But.refl,g1.sa⟩ k1 k2 k3:Dr st H1 _).rows g1.sa r1;generalize upd H1 st (.lst [.int a1,.int b1])=H2 at g2 Ki r2⊢;refine⟨_,rfl,ap,xp,rfl,.inr (SqT.of Ki.e),_,_,rfl,rfl,.inr ⟨_,rfl,_,_,rfl,rfl,.inl ⟨Zz,Zz⟩,_,rfl,?_,?_,?_⟩⟩
  .split<;>lia
  .split<;>lia
  refine cj (lo:=0) (λi σ Hc=>Xe5 λa xs ss x4 x5=>Xa7 (σ=[some (.ref st),some (.ref ap),some (.int n),some (.ref a),x4,x5]) (Dr st H Hc) (RowsAt Hc ap xp ps) (RowsAt Hc a xs ss) (ss.length<=i) ((∀s∈ss,smR s)) (un ps ss=none)) ?_ ?_ ?_
  .exact⟨e0,[],[],none,none,rfl,g2,Ki,r2,zA3 _,(λ_ h=>nomatch h),rfl⟩
  .rintro i σ Hc hi ⟨a,xs,ss,x4,x5,rfl,g,Kj,EU,ls,de,yy⟩;have hi:i<12:=by split at hi<;>lia
   refine aD ?_;refine aP λc_ af=>?_;refine aY ?_;refine⟨_,rfl,_,rfl,_,rfl,st,ap,xp,ps,rfl,g.sa,Kj,lp,okp,λt s' H3 d3 et sm=>⟨zL,λt1 nN=>?_⟩⟩;have R6:=d3.rows g.sa Kj;have Kk:=d3.rows g.sa EU;have m4:=Same.upd (o:=.tup [V.ref t]) nN;refine⟨a,t1,xs,_,rfl,rfl,m4 _ _ Kk.e,aj,by simp,by rw[EU.l,sizeLine_eq];show _+1<=_;lia,λc H5 s5 ec=>?_⟩;have Pa:=rK ((Kk.same m4).same s5) (s5 _ _ (m4 _ _ et)) ec;have Kn:=(R6.same m4).same s5;have g5:=((g.trans d3).same m4).same s5
   have Pb:∀s∈ss++[s'],smR s:=λs hs=>by
    rcases zA6.mp hs with z|z
    .exact de s z
    .rw[Zae.mp z];exact sm
   have l5:(ss++[s']).length<=i+1:=by rw[zA2];show ss.length+1<=_;lia
   refine aD ?_;refine af _ _ ?_;clear af c_
   try dsimp only
   refine⟨_,rfl,_,rfl,ap,xp,ps,c,_,ss++[s'],rfl,Kn,lp,okp,Pa,Zz,λs hs=>(Pb s hs).1,λtt fo H6 s6 ER=>?_⟩;refine⟨tt,_,1,unV (un ps (ss++[s'])),rfl,rfl,SqT.of ER,rfl,rfl,_,rfl,BW (λhb=>?_) λ_=>?_⟩
   .exact⟨_,rfl,c,_,ss++[s'],_,_,rfl,g5.same s6,Kn.same s6,Pa.same s6,l5,Pb,Eo hb⟩
   .exact⟨a,xs,ss,_,_,rfl,g5.same s6,Kn.same s6,((Kk.same m4).same s5).same s6,Zz,de,yy⟩
  .rintro σ Hc ⟨a,xs,ss,x4,x5,rfl,g,Kj,EU,ls,de,yy⟩;refine⟨_,rfl,q a xs ss Hc g EU ?_ de yy⟩;split at ls<;>lia
theorem Bm(F:Fun K "_law_book" "_law_book" (top 74) f fd)(T:Mg mg)(c1:Cal P w K mg base 2 "_law_clips" [Ys,Yy] vL)(c2:Cal P w K mg base 2 Zw [Ys,Yy,Y9] vJ)(c3:Cal P w K mg base 3 "_law_sales" [Ys,Yq,Yy] vM):
  FnOk P w K mg base CX0 4 f fd [Ys,Y9,Yy,Yu] zm:=by
 refine F.ok sc40s (λvs H Q E h=>?_) (λay A outer s H vs Q E hr h=>?_)
 .obtain⟨st,y,m,k,rfl,_⟩:=h;rfl
 .obtain⟨st,y,m,k,rfl,hV,y1,y2,m1,m2,k1,k2,q⟩:=h
  refine⟨_,aC (pss 4 sc40s.nd (aK c1 hr (au (pv 0) (au (pv 1) ao))))
   (aC (pss 5 sc40s.nd (aK c2 hr (au (pv 0) (au (pv 2) (au (aM bY rfl T.len PySem.boot_len (au (pv 4) ao)) ao)))))
   (aG (aW (bO (au (pv 4) (au (pv 5) (au (aK c3 hr (au (pv 0) (au (pv 5) (au (pv 3) ao)))) ao))))))),?_⟩
  refine aP λc_ af=>?_;refine aY ?_;refine⟨_,rfl,_,rfl,st,y,rfl,hV,y1,y2,λvc H1 mc=>?_⟩;obtain⟨cs,R7,Kt,R8,lc1,Pc,okc⟩:=mc
  have d1:Dr st H H1:=⟨R7,Kt⟩
  obtain⟨ac,xc,rfl,rc⟩:=nA R8;refine aD ?_;refine af _ _ ?_;clear af c_
  try dsimp only
  refine aP λc_ af=>?_;refine aY ?_;have lc:=rc.l;refine⟨_,rfl,_,rfl,_,rfl,ac,xc,rfl,.inr (SqT.of rc.e),st,m,_,rfl,Kt,m1,m2,Zz,Zz,λvp H2 mp=>?_⟩;obtain⟨ps,R9,EV,EA,Xp,okp⟩:=mp
  have d2:Dr st H1 H2:=⟨R9,EV⟩
  obtain⟨ap,xp,rfl,rp⟩:=nA EA;have Sa:=d2.rows Kt rc;refine aD ?_;refine af _ _ ?_;clear af c_
  try dsimp only
  refine⟨_,rfl,_,rfl,_,rfl,_,rfl,_,rfl,st,ap,xp,ps,k,rfl,EV,rp,Zz,okp,k1,k2,λai xs ss H3 d3 rs ls de yy=>⟨zL,λa ha=>?_⟩⟩;have Kx:=(d1.trans d2).trans d3;have ma:=Same.upd (o:=.tup [V.ref ac,V.ref ap,V.ref ai]) ha;exact q a ac xc cs ap xp ps ai xs ss _ (Kx.new ha) aj ((d3.rows EV Sa).same ma) lc1 Pc okc ((d3.rows EV rp).same ma) Zz okp (rs.same ma) Zz de yy
inductive SpRefBI(vs:List V)(H:Hp)(Q:VK):Prop
 |mk:∀S v d,(vs=[v])->(IsTh S H v d)->(sz d<=4000)->(mG d=true)->(∀H',Same H H'->Q .non H')->SpRefBI  vs H Q
def Ep:Sp:=λvs H Q _=>SpRefBI  vs H Q
inductive SpRefYI(vs:List V)(H:Hp)(Q:VK):Prop
 |mk:∀ac xc cs y,(vs=[.ref ac,.int y])->(RowsAt H ac xc cs)->(0<=y)->(y<cs.length)->(∀H',Same H H'->Q .non H')->SpRefYI  vs H Q
def Er:Sp:=λvs H Q _=>SpRefYI  vs H Q
theorem Lw:FnScope ["thing","least","most"] ["thing","least","most"] (aJ (top 10)):=fQS
theorem qx(F:Fun K "is_whole_from" "is_whole_from" (top 10) f fd)(c1:Cal P w K mg base 1 "is_whole" ["thing"] (spT dF)):FnOk P w K mg base CX0 2 f fd ["thing","least","most"] (mQ qt):=by
 refine F.ok Lw (λvs H Q E h=>?_) (λay A outer s H vs Q E hr h=>?_)
 .obtain⟨S,v,d,n,m,rfl,_⟩:=h;rfl
 .obtain⟨S,v,d,n,m,rfl,th,hz,q⟩:=h;refine⟨_,aG (aW (cR (aK c1 hr (aX (pv 0) ao)) (fH (dB bV bV (pv 1) (pv 0) (pv 2))))),?_⟩;refine⟨_,rfl,S,v,d,rfl,th,hz,λH1 s1=>⟨_,rfl,?_⟩⟩;have fin:=q H1 s1;unfold qt at fin
  cases e:dF d with
  |false=>
   rw[e]at fin;exact bZ fin
  |true=>
   rw[e]at fin;obtain⟨i,rfl,rfl⟩:=lK th e;exact cC (cz (dX rfl) (dX rfl) (dX rfl) _ fin)
theorem Lx:FnScope ["thing"] ["thing"] (aJ (top 33)):=fQS
theorem Hf(F:Fun K "refuse_no_book" "refuse_no_book" (top 33) f fd)(c1:Cal P w K mg base 6 "is_book" ["thing"] (spT mG)):FnOk P w K mg base CX0 7 f fd ["thing"] Ep:=by
 refine F.ok Lx (λvs H Q E h=>?_) (λay A outer s H vs Q E hr h=>?_)
 .obtain⟨S,v,d,rfl,_⟩:=h;rfl
 .obtain⟨S,v,d,rfl,th,hz,hb,q⟩:=h;refine⟨_,aG (dh (cW (fG (aK c1 hr (aX (pv 0) ao)))) (aG jF) bN),?_⟩;refine⟨_,rfl,S,v,d,rfl,th,hz,λH1 s1=>⟨_,rfl,?_⟩⟩;rw[hb];exact bZ (q _ s1)
theorem Ly:FnScope ["clips","year"] ["clips","year"] (aJ (top 50)):=fQS
theorem Hg(F:Fun K "refuse_no_year_of" "refuse_no_year_of" (top 50) f fd)(T:Mg mg)(c1:Cal P w K mg base 2 "is_whole_from" ["thing","least","most"] (mQ qt)):FnOk P w K mg base CX0 3 f fd ["clips","year"] Er:=by
 refine F.ok Ly (λvs H Q E h=>?_) (λay A outer s H vs Q E hr h=>?_)
 .obtain⟨ac,xc,cs,y,rfl,_⟩:=h;rfl
 .obtain⟨ac,xc,cs,y,rfl,rc,y0,y1,q⟩:=h;refine⟨_,aG (dh (cW (fG (aK c1 hr (au (pv 1) (au aB (au (aU d8 (aM bY rfl T.len PySem.boot_len (au (pv 0) ao)) aB) ao)))))) (aG jF) bN),?_⟩;refine⟨_,rfl,_,rfl,ac,_,rfl,.inr (SqT.of rc.e),_,_,rfl,rfl,λ_=>False,.int y,.int y,0,_,rfl,.int _,(by show 1<=4000;decide),λH1 s1=>⟨_,rfl,?_⟩⟩
  have e:qt (.int y) 0 ((xc.length:Int)-1)=true:=by
   show(true&&(decide (0<=y)&&decide (y<=(xc.length:Int)-1)))=true;rw[zAt y0,zAt (by rw[rc.l];lia)];rfl
  rw[e];exact bZ (q _ s1)
structure BookAt(H:Hp)(bk ac:Addr)(xc:List V)(cs:PK)(ap:Addr)(xp:List V)(ps:PK)(ai:Addr)(xs:List V)(ss:PK):Prop where
 e:H bk=some (.tup [.ref ac,.ref ap,.ref ai])
 rc:RowsAt H ac xc cs
 okc:∀r∈cs,r.length=3/\∀x∈r,0<=x
 lc:cs.length<=20
 rp:RowsAt H ap xp ps
 lp:ps.length<=10
 okp:∀r∈ps,okP r
 rs:RowsAt H ai xs ss
 ls:ss.length<=12
 h5:∀s∈ss,s.length=5
 un:un ps ss=none
theorem BookAt.same{bk ac:Addr}{xc:List V}{ap:Addr}{xp:List V}{ai:Addr}(b:BookAt H bk ac xc cs ap xp ps ai xs ss)(s:Same H H'):BookAt H' bk ac xc cs ap xp ps ai xs ss:=
 ⟨s _ _ b.e,b.rc.same s,b.okc,b.lc,b.rp.same s,b.lp,b.okp,b.rs.same s,b.ls,b.h5,b.un⟩
def Hh(R:PK->PK->PK->Int->VK->Hp->Prop):Sp:=λvs H Q _=>∃S bk y d ac xc cs ap xp ps ai xs ss,vs=[.ref bk,.int y]/\IsTh S H (.ref bk) d/\sz d<=4000/\mG d=true/\BookAt H bk ac xc cs ap xp ps ai xs ss/\0<=y/\y<cs.length/\R cs ps ss y Q H
def Lz:PK->PK->PK->Int->VK->Hp->Prop:=λ_ _ _ _ Q H=>∀H',Same H H'->Q .non H'
theorem LC:FnScope ["book","year"] ["book","year"] (aJ (top 51)):=fQS
theorem Es(F:Fun K "refuse_no_year" "refuse_no_year" (top 51) f fd)(c1:Cal P w K mg base 7 "refuse_no_book" ["thing"] Ep)(c2:Cal P w K mg base 3 "refuse_no_year_of" ["clips","year"] Er):FnOk P w K mg base CX0 8 f fd ["book","year"] (Hh Lz):=by
 refine F.ok LC (λvs H Q E h=>?_) (λay A outer s H vs Q E hr h=>?_)
 .obtain⟨S,bk,y,d,ac,xc,cs,ap,xp,ps,ai,xs,ss,rfl,_⟩:=h;rfl
 .obtain⟨S,bk,y,d,ac,xc,cs,ap,xp,ps,ai,xs,ss,rfl,th,hz,hb,B,y0,y1,q⟩:=h;refine⟨_,aC (cA (aK c1 hr (au (pv 0) ao))) (aG (cA (aK c2 hr (au (pX bR (pv 0) aB) (au (pv 1) ao))))),?_⟩;refine aQ ?_;refine⟨_,rfl,S,_,d,rfl,th,hz,hb,λH1 s1=>?_⟩;dsimp only;have B1:=B.same s1;exact⟨_,rfl,bk,_,0,.ref ac,rfl,rfl,SqT.of B1.e,rfl,_,rfl,ac,xc,cs,y,rfl,B1.rc,y0,y1,λH2 s2=>q _ (s1.trans s2)⟩
theorem rM:∀{ds:List PyData},(∀d∈ds,tame d=true)->iK ds=true
 |[],_=>rfl
 |d::ds,h=>by
  show(tame d&&iK ds)=true;rw[h d (.head _),rM λe he=>h e (.tail _ he)];rfl
theorem Et{r:PP}(h:∀i∈r,-10<=i/\i<=2000000):tame (cX r)=true:=by
 refine rM λd hd=>?_;obtain⟨i,hi,rfl⟩:=zA5.mp hd;have:=h i hi;exact zAt Zz
theorem rN:∀(is:PP),szs (is.map PyData.int)=is.length
 |[]=>rfl
 |i::is=>by
  show 1+szs (is.map PyData.int)=is.length+1;rw[rN is];lia
theorem kY{k:Nat}:∀{rs:PK},(∀r∈rs,r.length=k)->szs (rs.map cX)=(k+1)*rs.length
 |[],_=>rfl
 |r::rs,h=>by
  show(1+szs (r.map PyData.int))+szs (rs.map cX)=(k+1)*(rs.length+1);rw[rN,h r (.head _),kY λq hq=>h q (.tail _ hq),Nat.mul_add];lia
theorem LK:∀{w:Int} {S:PK},∀p∈S.zip (bj w S),p.2<=fl p.1 3:=λ{w S}=>by
 induction S generalizing w with
 |nil=>intro p hp;cases hp
 |cons r S ih=>
  intro p hp;unfold bj at hp;rw[Za0]at hp;rcases zAo.mp hp with z|z
  .rw[z];show(if w<fl r 3 then w else fl r 3)<=fl r 3;split<;>lia
  .exact ih p z
theorem LQ(h:∀r∈cs,r.length=3/\∀x∈r,0<=x)(n:Nat):∀x∈cs.getD n [],0<=x:=λx hx=>by
 rw[zA7]at hx
 cases e:cs[n]? with
 |none=>rw[e]at hx;cases hx
 |some r=>rw[e]at hx;exact(h r (zBg e)).2 x hx
theorem rO(rs:PK):rowsOf (cM rs)=rs:=by
 show(rs.map cX).map (λx=>(items x).map intOf)=rs;rw[zAr];refine(List.map_congr_left λr _=>?_).trans (List.map_id rs);show((r.map PyData.int)).map intOf=r;rw[zAr];exact List.map_id r
theorem lR{r:PP}{n:Nat}(h:r.length=n):bI (cX r) n=true:=by
 show(bH (.tuple (r.map PyData.int)) n n&&(r.map PyData.int).all dF)=true;rw[zAc];refine⟨?_,Zaf.mpr λx hx=>?_⟩
 .show(true&&(decide ((n:Int)<=(r.map PyData.int).length)&&decide (((r.map PyData.int).length:Int)<=n)))=true;rw[zA1,h,zAt (Int.le_refl _)];rfl
 .obtain⟨i,_,rfl⟩:=zA5.mp hx;rfl
theorem xN{ds:List PyData}{a b:Int}(h1:a<=ds.length)(h2:(ds.length:Int)<=b):bH (.tuple ds) a b=true:=by
 show(true&&(decide (a<=(ds.length:Int))&&decide ((ds.length:Int)<=b)))=true;rw[zAt h1,zAt h2];rfl
theorem Hl(lc1:1<=cs.length)(lc:cs.length<=20)(okc:∀r∈cs,okC r)(lp:ps.length<=10)(okp:∀r∈ps,okP r)(ls:ss.length<=12)(h5:∀s∈ss,s.length=5)(hu:un ps ss=none):mG (.tuple [cM cs,cM ps,cM ss])=true:=by
 have b0:iV (cM cs)=true:=by
  show(bH (.tuple (cs.map cX)) 1 20&&(cs.map cX).all rm)=true;rw[xN (by rw[zA1];lia) (by rw[zA1];lia),Bool.true_and];refine Zaf.mpr λx hx=>?_;obtain⟨r,hr,rfl⟩:=zA5.mp hx;obtain⟨h3,hb⟩:=okc r hr;show(bI (cX r) 3&&(r.map PyData.int).all λx=>decide (0<=intOf x)&&decide (intOf x<=999))=true;rw[show bI (cX r) 3=true from lR h3,Bool.true_and];refine Zaf.mpr λx hx=>?_;obtain⟨i,hi,rfl⟩:=zA5.mp hx;have:=hb i hi;show(decide (0<=i)&&decide (i<=999))=true;rw[zAt Zz,zAt Zz];rfl
 have b1:fJ (cM ps)=true:=by
  show(bH (.tuple (ps.map cX)) 0 10&&(ps.map cX).all jV)=true;rw[xN Zz (by rw[zA1];lia),Bool.true_and];refine Zaf.mpr λx hx=>?_;obtain⟨r,hr,rfl⟩:=zA5.mp hx;obtain⟨h6,h1,h2,h3,h4,Sb⟩:=okp r hr;show(bI (cX r) 6&&tZ (at_ (cX r) 0) (at_ (cX r) 1) (at_ (cX r) 2) (at_ (cX r) 3) (at_ (cX r) 4) (at_ (cX r) 5))=true;rw[show bI (cX r) 6=true from lR h6,Bool.true_and]
  have ea:∀i,i<6->at_ (cX r) i=fl r i:=λi hi=>by
   unfold at_ fl;show intOf ((r.map PyData.int).getD i .none)=r.getD i 0;rw[zA7,zA7,zAb,zA0 Zz];rfl
  rw[ea 0 Zx,ea 1 Zx,ea 2 Zx,ea 3 Zx,ea 4 Zx,ea 5 Zx];unfold tZ;simp only[Bool.and_eq_true,Zq];exact⟨h1,h2,⟨h3.1,h3.2.1,h3.2.2⟩,h4,Sb⟩
 have b2:fK (cM ss)=true:=by
  show(bH (.tuple (ss.map cX)) 0 12&&(ss.map cX).all λx=>bI x 5)=true;rw[xN Zz (by rw[zA1];lia),Bool.true_and];refine Zaf.mpr λx hx=>?_;obtain⟨r,hr,rfl⟩:=zA5.mp hx;exact lR (h5 r hr)
 show(bH (.tuple [cM cs,cM ps,cM ss]) 3 3&&(iV (cM cs)&&(fJ (cM ps)&&(fK (cM ss)&&(un (rowsOf (cM ps)) (rowsOf (cM ss))).isNone))))=true;rw[b0,b1,b2,rO,rO,hu];rfl
def Ib:PK->PK->PK->Int->VK->Hp->Prop:=λcs ps ss y Q H=>∀k xk H',Same H H'->H k=none->k≠sysModules->H' k=some (.lst xk)->Els H' xk (dz cs ps ss (y.toNat+1))->Q (.ref k) H'
def Bo(R:PK->PK->PK->Int->VK->Hp->Prop):Sp:=λvs H Q _=>∃bk y ac xc cs ap xp ps ai xs ss,vs=[.ref bk,.int y]/\BookAt H bk ac xc cs ap xp ps ai xs ss/\0<=y/\y<cs.length/\R cs ps ss y Q H
theorem scYF1:FnScope ["book","year","gifts","owed","left"] ["book","year"] (aJ (top 53)):=fQS
theorem Eu(F:Fun K "owed_behind" "owed_behind" (top 53) f fd)(c2:Cal P w K mg base 10 "years_given" ["book","year"] zj):FnOk P w K mg base CX0 11 f fd ["book","year"] (Bo Ib):=by
 refine F.ok scYF1 (λvs H Q E h=>?_) (λay A outer s H vs Q E hr h=>?_)
 .obtain⟨bk,y,ac,xc,cs,ap,xp,ps,ai,xs,ss,rfl,_⟩:=h;rfl
 .obtain⟨bk,y,ac,xc,cs,ap,xp,ps,ai,xs,ss,rfl,B,y0,y1,q⟩:=h
  refine⟨_,aC (cH (pX bA (aK c2 hr (au (pv 0) (au (pv 1) ao))) (pv 1)) (bG rfl (aq (pgn 2 scYF1.nd) (aq (pgn 3 scYF1.nd) (aq (pgn 4 scYF1.nd) bf)))))
   (aG (aW (pv 3))),?_⟩
  refine aQ ?_;refine⟨_,rfl,_,rfl,bk,y,ac,xc,cs,ap,xp,ps,ai,xs,ss,rfl,B.e,B.rc,B.okc,B.lc,y0,y1,B.rp,B.lp,B.okp,B.rs,B.ls,B.h5,B.un,λl ts H2 s2 nl el lt hy=>?_⟩;have hl:y.toNat<ts.length:=Zz
  obtain⟨g,k,tl,xg,xk,e1,n1,n2,d1,d2,e2,e3,e4,e5,e6,e7⟩:=hy y.toNat ts[y.toNat] (zA0 hl)
  have eJ:atI (ts.map V.ref) y=some (.ref ts[y.toNat]):=by
   have:(ts.map V.ref)[y.toNat]?=some (.ref ts[y.toNat]):=by rw[zAb,zA0 hl];rfl
   have:=cB this;rw[show((y.toNat:Nat):Int)=y by lia]at this;exact this
  refine⟨_,rfl,l,_,y,.ref ts[y.toNat],rfl,rfl,SqL.of el,eJ,ts[y.toNat],_,rfl,SqT.of e1,rfl,_,_,rfl,_,_,rfl,_,_,rfl,rfl,?_⟩;dsimp only;exact⟨_,rfl,q k xk H2 s2 n2 e7.2 e4 e5⟩
theorem rP:∀{w:Int} {rs:PK},0<=w->(∀r∈rs,0<=fl r 3)->(bj w rs).sum=min w (aN rs)
 |w,[],hw,_=>by
  show(0:Int)=min w 0;lia
 |w,r::rs,hw,h=>by
  have h0:=h r (.head _);have ih:=rP (w:=w-(if w<fl r 3 then w else fl r 3)) (rs:=rs) (by split<;>lia) λq hq=>h q (.tail _ hq)
  have hn:0<=aN rs:=by
   unfold aN wts;refine(iy λx hx=>?_).1;obtain⟨q,hq,rfl⟩:=zA5.mp hx;exact h q (.tail _ hq)
  have es:aN (r::rs)=fl r 3+aN rs:=rfl;unfold bj;rw[Zag,ih,es];split<;>lia
theorem xO{w:Int}{cl:PK}(hw:0<=w)(hc:∀r∈cl,r.length=4/\1<=fl r 3/\fl r 3<=99)(hz:cl.length<=80):(bz w cl).sum=min w (aN cl):=by
 unfold bz;by_cases h:(wts cl).sum<=w
 .rw[zAx h];show(wts cl).sum=min w (wts cl).sum;lia
 .rw[zAw h]
  have ok:K41P.OkW (wts cl):=by
   refine⟨?_,by unfold wts;rw[zA1];exact hz,λx hx=>?_⟩
   .cases kF:cl with
    |nil=>
     rw[kF]at h;exact absurd hw h
    |cons r xb=>
     unfold wts;rw[zA1,zAe];lia
   .obtain⟨r,hr,rfl⟩:=zA5.mp hx;exact(hc r hr).2
  rw[K41P.res_sum ok];show w=min w (wts cl).sum;lia
theorem jk(a b:PK):aN (a++b)=aN a+aN b:=by
 unfold aN wts;rw[zA4,List.sum_append]
theorem vN{rs:PK}(h:∀r∈rs,0<=fl r 3):0<=aN rs:=by
 unfold aN wts;refine(iy λx hx=>?_).1;obtain⟨q,hq,rfl⟩:=zA5.mp hx;exact h q hq
theorem Hm{w:Int}{cl ow:PK}(hw:0<=w)(hc:∀r∈cl,r.length=4/\1<=fl r 3/\fl r 3<=99)(hz:cl.length<=80)(ho:∀r∈ow,0<=fl r 3):(shr w cl ow).sum=min w (aN cl+aN ow):=by
 unfold shr;have h1:=xO hw hc hz;have h2:=rP (w:=w-(bz w cl).sum) (rs:=ow) Zz ho
 have h3:=vN (rs:=cl) λr hr=>by have:=(hc r hr).2.1;lia
 have h4:=vN ho;rw[List.sum_append,h2,h1];lia
theorem vO:∀{rs:PK} {sh:PP},sh.length=rs.length->(∀p∈rs.zip sh,p.2<=fl p.1 3)->aN (bW (rs.zip sh))=aN rs-sh.sum
 |[],[],_,_=>rfl
 |[],_::_,h,_=>by simp at h
 |_::_,[],h,_=>by simp at h
 |r::rs,x::sh,h,hn=>by
  have ih:=vO (rs:=rs) (sh:=sh) (by simpa using h) λy hy=>hn y (by rw[Za0];exact .tail _ hy);have hx:x<=fl r 3:=hn (r,x) (by rw[Za0];exact .head _);have es:aN (r::rs)=fl r 3+aN rs:=rfl;rw[Za0,Zag,es];unfold bW at ih⊢;by_cases hp:x<fl r 3
  .rw[zBe (p:=λ(p:PP×Int)=>decide (p.2<fl p.1 3)) (zAt hp),zAk];have e2:∀L,aN ([fl r 0,fl r 1,fl r 2,fl r 3-x]::L)=(fl r 3-x)+aN L:=λL=>rfl;rw[e2,ih];lia
  .rw[zBa (p:=λ(p:PP×Int)=>decide (p.2<fl p.1 3)) (by rw[Zq];exact hp),ih];lia
section
variable{c:PP}{ps ss ow:PK}{y:Int}
def xD(c:PP)(ps ss ow:PK)(y:Int)(s:Nat):Int:=aN (aF ps ss s y)+aN (aH ps ow s)-c.getD s 0
def sD(c:PP)(ps ss ow:PK)(y:Int):Nat->Int
 |0=>0
 |n+1=>sD c ps ss ow y n+xD c ps ss ow y n
theorem JH{w:Int}(hw:0<=w)(hu:un ps ss=none)(h5:∀s∈ss,s.length=5)(okp:∀r∈ps,okP r)(hl:ps.length<=10)(n:Nat):∀p∈(aF ps ss n y++aH ps ow n).zip (shr w (aF ps ss n y) (aH ps ow n)),p.2<=fl p.1 3:=λp hp=>by
 unfold shr at hp;rw[List.zip_append shares_len.symm]at hp;rcases zA6.mp hp with z|z
 .exact HY hw (dU hu h5 okp) (cQ hl) p z
 .exact LK p z
theorem Ew(hc:∀x∈c,0<=x)(hu:un ps ss=none)(h5:∀s∈ss,s.length=5)(okp:∀r∈ps,okP r)(hl:ps.length<=10)(ho:∀r∈ow,okO ps r)(n:Nat):
  aN (yTo c ps ss ow y (n+1)).k=aN (yTo c ps ss ow y n).k+max 0 (xD c ps ss ow y n-(yTo c ps ss ow y n).d)/\(yTo c ps ss ow y (n+1)).d=max 0 ((yTo c ps ss ow y n).d-xD c ps ss ow y n):=by
 have nn:=DG (y:=y) hc hu h5 okp hl ho n
 have hw:0<=c.getD n 0+(yTo c ps ss ow y n).d:=by
  have:=jh hc n;lia
 have hU:=dU (sort:=n) (year:=y) hu h5 okp;have l9:=cQ (ss:=ss) (sort:=n) (year:=y) hl
 have Pd:∀r∈aH ps ow n,0<=fl r 3:=λr hr=>by have:=(j6 (sort:=n) ho r hr).2.2.2;lia
 have e1:=Hm hw hU l9 Pd;have e2:=(ug hw hU l9 Pd).1;have e3:=vO (rs:=aF ps ss n y++aH ps ow n) (sh:=shr (c.getD n 0+(yTo c ps ss ow y n).d) (aF ps ss n y) (aH ps ow n)) (by unfold shr;rw[zA2,zA2,shares_len,d7]) (JH hw hu h5 okp hl n);rw[jk]at e3;constructor
 .show aN ((yTo c ps ss ow y n).k++bW _)=_;rw[jk,e3,e1];unfold xD;lia
 .show c.getD n 0+(yTo c ps ss ow y n).d-aN (dI _)=_;rw[e2,e1];unfold xD;lia
theorem Ie(hc:∀x∈c,0<=x)(hu:un ps ss=none)(h5:∀s∈ss,s.length=5)(okp:∀r∈ps,okP r)(hl:ps.length<=10)(ho:∀r∈ow,okO ps r):∀n,(yTo c ps ss ow y n).d=aN (yTo c ps ss ow y n).k-sD c ps ss ow y n
 |0=>rfl
 |n+1=>by
  have ih:=Ie hc hu h5 okp hl ho n;obtain⟨a,b⟩:=Ew (y:=y) hc hu h5 okp hl ho n;rw[a,b];show _=_-(sD c ps ss ow y n+xD c ps ss ow y n);lia
theorem LR(hc:∀x∈c,0<=x)(hu:un ps ss=none)(h5:∀s∈ss,s.length=5)(okp:∀r∈ps,okP r)(hl:ps.length<=10)(ho:∀r∈ow,okO ps r)(n:Nat):aN (yTo c ps ss ow y (n+1)).k=max (aN (yTo c ps ss ow y n).k) (sD c ps ss ow y (n+1)):=by
 have ih:=Ie (y:=y) hc hu h5 okp hl ho n;obtain⟨a,_⟩:=Ew (y:=y) hc hu h5 okp hl ho n;rw[a];show _=max _ (sD c ps ss ow y n+xD c ps ss ow y n);lia
theorem zq{s:Nat}:∀n,aN (aH ps (yTo c ps ss ow y n).k s)=if s<n then aN (yTo c ps ss ow y (s+1)).k-aN (yTo c ps ss ow y s).k else 0
 |0=>rfl
 |n+1=>by
  have ih:=zq (s:=s) n;have ek:∀m,(yTo c ps ss ow y (m+1)).k=(yTo c ps ss ow y m).k++bW ((aF ps ss m y++aH ps ow m).zip (shr (c.getD m 0+(yTo c ps ss ow y m).d) (aF ps ss m y) (aH ps ow m))):=λm=>rfl
  have tq:∀r∈bW ((aF ps ss n y++aH ps ow n).zip (shr (c.getD n 0+(yTo c ps ss ow y n).d) (aF ps ss n y) (aH ps ow n))),fl (ps.getD (fl r 1).toNat []) 1=n:=λr hr=>by
   obtain⟨p,hp,rfl⟩:=zA5.mp hr;obtain⟨m1,_⟩:=Zaz (show(p.1,p.2)∈_ from(zAq.mp hp).1);show fl (ps.getD (fl p.1 1).toNat []) 1=n;rcases zA6.mp m1 with z|z
   .exact(iB z).2.1
   .exact zB6 (zAq.mp z).2
  have e1:aH ps (yTo c ps ss ow y (n+1)).k s=aH ps (yTo c ps ss ow y n).k s++aH ps (bW ((aF ps ss n y++aH ps ow n).zip (shr (c.getD n 0+(yTo c ps ss ow y n).d) (aF ps ss n y) (aH ps ow n)))) s:=by
   rw[ek n];exact Zao ..
  rw[e1,jk,ih];by_cases hs:s=n
  .subst hs;rw[zAw (Zau _),zAx (Nat.lt_succ_self _),ek s,jk];have e2:aH ps (bW ((aF ps ss s y++aH ps ow s).zip (shr (c.getD s 0+(yTo c ps ss ow y s).d) (aF ps ss s y) (aH ps ow s)))) s=bW ((aF ps ss s y++aH ps ow s).zip (shr (c.getD s 0+(yTo c ps ss ow y s).d) (aF ps ss s y) (aH ps ow s))):=List.filter_eq_self.mpr λr hr=>zAt (tq r hr);rw[e2];lia
  .have e2:aH ps (bW ((aF ps ss n y++aH ps ow n).zip (shr (c.getD n 0+(yTo c ps ss ow y n).d) (aF ps ss n y) (aH ps ow n)))) s=[]:=List.filter_eq_nil_iff.mpr λr hr z=>by
    have:=tq r hr;have z:=zB6 z;rw[this]at z;lia
   rw[e2];have e0:aN []=0:=rfl;rw[e0,Int.add_zero];by_cases h:s<n
   .rw[zAx h,zAx Zz]
   .rw[zAw h,zAw Zz]
end
theorem JK{a b:PP}(h:a.Perm b):a.sum=b.sum:=by
 induction h with
 |nil=>rfl
 |cons x _ ih=>rw[Zag,Zag,ih]
 |swap x y l=>
  rw[Zag,Zag,Zag,Zag];lia
 |trans _ _ h1 h2=>exact h1.trans h2
theorem vP{a b:PK}(h:a.Perm b):aN a=aN b:=by
 unfold aN wts;exact JK (h.map _)
def aO(cs ps ss:PK)(m:Nat):Nat->Int
 |0=>0
 |n+1=>aO cs ps ss m n+aN (aH ps (dz cs ps ss m) n)
def dlw(cs ps ss:PK)(s m:Nat):Int:=aN (aF ps ss s m)-(cs.getD m []).getD s 0
def dS(cs ps ss:PK)(m:Nat):Nat->Int
 |0=>0
 |n+1=>dS cs ps ss m n+dlw cs ps ss n m
theorem Ig{cs ps ss:PK}{m:Nat}:∀n,sD (cs.getD m []) ps ss (dz cs ps ss m) m n=aO cs ps ss m n+dS cs ps ss m n
 |0=>rfl
 |n+1=>by
  show sD _ _ _ _ _ n+xD _ _ _ _ _ n=(aO cs ps ss m n+aN _)+(dS cs ps ss m n+dlw cs ps ss n m);rw[Ig n];unfold xD dlw;lia
structure BkO(cs ps ss:PK):Prop where
 okc:∀r∈cs,r.length=3/\∀x∈r,0<=x
 hl:ps.length<=10
 hu:un ps ss=none
 h5:∀s∈ss,s.length=5
 okp:∀r∈ps,okP r
theorem nJ{cs ps ss:PK}(m:Nat):∀n,n<=3->aO cs ps ss (m+1) n=aN (yTo (cs.getD m []) ps ss (dz cs ps ss m) m n).k
 |0,_=>rfl
 |n+1,h=>by
  show aO cs ps ss (m+1) n+aN (aH ps (dz cs ps ss (m+1)) n)=_;rw[nJ m n Zz];have e:aN (aH ps (dz cs ps ss (m+1)) n)=aN (aH ps (yTo (cs.getD m []) ps ss (dz cs ps ss m) m 3).k n):=vP ((fM _).filter _);rw[e,zq 3,zAx Zz];lia
theorem JL(B:BkO cs ps ss)(m n:Nat)(hn:n+1<=3):aO cs ps ss (m+1) (n+1)=max (aO cs ps ss (m+1) n) (aO cs ps ss m (n+1)+dS cs ps ss m (n+1)):=by
 rw[nJ m (n+1) hn,nJ m n Zz,LR (LQ B.okc m) B.hu B.h5 B.okp B.hl (rJ B.hl B.hu B.h5 B.okp m).1 n,Ig]
theorem Hn:∀m,aO cs ps ss m 3=aN (dz cs ps ss m)
 |0=>rfl
 |m+1=>by
  rw[nJ m 3 (zA3 _)];exact(vP (fM _)).symm
def Ih:PK->PK->PK->Int->VK->Hp->Prop:=λcs ps ss y Q H=>∀H',Same H H'->Q (.int (aN (dz cs ps ss (y.toNat+1)))) H'
theorem Nk:FnScope ["book","year"] ["book","year"] (aJ (top 60)):=fQS
theorem Ho(F:Fun K "lack_by" "lack_by" (top 60) f fd)(c1:Cal P w K mg base 8 "refuse_no_year" ["book","year"] (Hh Lz))(c2:Cal P w K mg base 11 "owed_behind" ["book","year"] (Bo Ib))(c3:Cal P w K mg base 1 "sacks_of" ["rows"] nC):FnOk P w K mg base CX0 12 f fd ["book","year"] (Hh Ih):=by
 refine F.ok Nk (λvs H Q E h=>?_) (λay A outer s H vs Q E hr h=>?_)
 .obtain⟨S,bk,y,d,ac,xc,cs,ap,xp,ps,ai,xs,ss,rfl,_⟩:=h;rfl
 .obtain⟨S,bk,y,d,ac,xc,cs,ap,xp,ps,ai,xs,ss,rfl,th,hz,hb,B,y0,y1,q⟩:=h;refine⟨_,aC (cA (aK c1 hr (au (pv 0) (au (pv 1) ao)))) (aG (aW (aK c3 hr (au (aK c2 hr (au (pv 0) (au (pv 1) ao))) ao)))),?_⟩;refine aQ ?_;refine⟨_,rfl,_,rfl,S,bk,y,d,ac,xc,cs,ap,xp,ps,ai,xs,ss,rfl,th,hz,hb,B,y0,y1,λH1 s1=>?_⟩;dsimp only;have B1:=B.same s1;obtain⟨gT,IS⟩:=rJ (cs:=cs) B.lp B.un B.h5 B.okp (y.toNat+1);exact⟨_,rfl,_,rfl,bk,y,ac,xc,cs,ap,xp,ps,ai,xs,ss,rfl,B1,y0,y1,λk xk H2 s2 n ns e1 e2=>⟨k,xk,_,rfl,e1,e2,λr hr=>(gT r hr).1,by have:=B.lc;lia,λH3 s3=>q H3 ((s1.trans s2).trans s3)⟩⟩
def eV(ns:PP):PP:=(List.range (ns.length+1)).map λi=>(ns.drop i).sum
def mV(ns:PP)(j:Nat):PP:=(List.range (j+1)).map λi=>(ns.drop (ns.length-i)).sum
theorem Bp(ns:PP):mV ns 0=[0]:=by
 show[(ns.drop (ns.length-0)).sum]=[0];rw[Nat.sub_zero,List.drop_length];rfl
theorem rQ(ns:PP)(j:Nat):mV ns j=(List.range j).map (λi=>(ns.drop (ns.length-i)).sum)++[(ns.drop (ns.length-j)).sum]:=by
 unfold mV;rw[Za6,zA4];rfl
theorem Bq{ns:PP}{j:Nat}{x:Int}(h:ns.reverse[j]?=some x):mV ns (j+1)=mV ns j++[(ns.drop (ns.length-j)).sum+x]:=by
 have hj:j<ns.length:=by
  have:=(zAa.mp h).1;rw[List.length_reverse]at this;exact this
 rw[List.getElem?_reverse hj]at h;rw[rQ ns (j+1)];congr 2;have e:ns.length-j=(ns.length-(j+1))+1:=Zz
 have hl:ns.length-(j+1)<ns.length:=Zz
 have hx:ns[ns.length-(j+1)]=x:=by
  rw[show ns.length-1-j=ns.length-(j+1) by lia,zA0 hl]at h;exact zAl h
 rw[Zaw hl,<-e,hx,Zag,Int.add_comm]
theorem Ex(ns:PP):(mV ns ns.length).reverse=eV ns:=by
 unfold mV eV;refine List.ext_getElem Zy λi h1 h2=>?_;rw[List.getElem_reverse,List.getElem_map,List.getElem_map,List.getElem_range,List.getElem_range];simp only[List.length_reverse,List.length_map,List.length_range]at h1 h2⊢;congr 2;lia
theorem Ey{α:Type}(xs:List α)(x:α):atI (xs++[x]) (-1)=some x:=by
 have e1:ixN (xs++[x]).length (-1)=some xs.length:=by
  unfold ixN;rw[zAw Zx,zA2,List.length_singleton,zAx Zz];congr 1;lia
 unfold atI;rw[e1];exact List.getElem?_concat_length
inductive SpFromI(vs:List V)(H:Hp)(Q:VK):Prop
 |mk:∀l ns,(vs=[.ref l])->(H l=some (.lst (ns.map V.int)))->(ns.length<=100)->(∀k H',Same H H'->H k=none->H' k=some (.lst ((eV ns).map V.int))->Q (.ref k) H')->SpFromI  vs H Q
def xP:Sp:=λvs H Q _=>SpFromI  vs H Q
structure TbAt(H:Hp)(L:Addr)(as:List Addr)(rs:PK):Prop where
 e:H L=some (.lst (as.map V.ref))
 l:as.length=rs.length
 g:∀i a,as[i]?=some a->H a=some (.lst ((rs.getD i []).map V.int))
theorem TbAt.same{L:Addr}{rs:PK}(h:TbAt H L as rs)(s:Same H H'):TbAt H' L as rs:=⟨s _ _ h.e,h.l,λi a e=>s _ _ (h.g i a e)⟩
def clT(ps ss:PK)(y s:Nat):PP:=(List.range (y+1)).map λ(i:Nat)=>aN (aF ps ss (s:Int) (i:Int))
def gq(ps ss:PK)(y n:Nat):PK:=(List.range n).map λs=>eV (clT ps ss y s)
def wlT(cs:PK)(y s:Nat):PP:=(List.range (y+1)).map λ(i:Nat)=>fl (cs.getD i []) s
def gr(cs:PK)(y n:Nat):PK:=(List.range n).map λs=>eV (wlT cs y s)
def JM:PK->PK->PK->Int->VK->Hp->Prop:=λcs ps ss y Q H=>∀L as H',Same H H'->TbAt H' L as (gq ps ss y.toNat 3)->Q (.ref L) H'
def JN:PK->PK->PK->Int->VK->Hp->Prop:=λcs ps ss y Q H=>∀L as H',Same H H'->TbAt H' L as (gr cs y.toNat 3)->Q (.ref L) H'
theorem scO1:FnScope ["numbers","sums","number"] ["numbers"] (aJ (top 55)):=fQS
theorem Hq(F:Fun K "from_each_on" "from_each_on" (top 55) f fd)(Tv:mg "reversed"=none):FnOk P w K mg base CX0 1 f fd ["numbers"] xP:=by
 refine F.ok scO1 (λvs H Q E h=>?_) (λay A outer s H vs Q E hr h=>?_)
 .obtain⟨l,ns,rfl,_⟩:=h;rfl
 .obtain⟨l,ns,rfl,el,hl,q⟩:=h
  refine⟨_,aC (pss 1 scO1.nd (cJ (au aB ao)))
   (aC (bU zB3 rfl (Jr rfl Tv (au (pv 0) ao)) (pgn 2 scO1.nd)
    (aG (cA (gC zB9 zBc zBb cN (pv 1) (au (aU bw (pX bA (pv 1) (BJ wu aB)) (pv 2)) ao)))))
   (aG (aW (Gi (pv 1))))),?_⟩
  refine aQ (aY ?_);refine⟨zL,λl1 dE=>?_⟩;have s1:=Same.upd (o:=.lst [V.int 0]) dE;have e1:upd H l1 (.lst [V.int 0]) l1=some (.lst ((mV ns 0).map V.int)):=by rw[Bp];exact aj
  generalize upd H l1 (.lst [V.int 0])=H1 at s1 e1⊢;refine aD ?_;dsimp only;refine aQ ?_;refine⟨_,rfl,l,_,rfl,SqL.of (s1 _ _ el),?_⟩;refine Gh (xs:=ns.map V.int) (λi σ Hc=>∃x2,σ=[some (.ref l),some (.ref l1),x2]/\Same H Hc/\Hc l1=some (.lst ((mV ns i).map V.int))) ?_ ?_ ?_ ?_
  .exact⟨none,rfl,s1,e1⟩
  .rintro i σ Hc hi ⟨x2,rfl,sc,e⟩;exact SqL.of (sc _ _ el)
  .rintro i x σ Hc hx ⟨x2,rfl,sc,e⟩;rw[<-List.map_reverse,zAb]at hx;obtain⟨n,hn,rfl⟩:=Option.map_eq_some_iff.mp hx
   have hi:i<ns.length:=by
    have:=(zAa.mp hn).1;rw[List.length_reverse]at this;exact this
   rw[Bq hn];refine aD ?_;have oT:(mV ns i).length=i+1:=by unfold mV;rw[zA1,Zad]
   have eJ:atI ((mV ns i).map V.int) (-1)=some (.int (ns.drop (ns.length-i)).sum):=by
    rw[rQ,zA4];exact Ey _ _
   refine⟨_,rfl,.inl ⟨rfl,_,SqL.of e⟩,_,rfl,_,rfl,l1,_,-1,_,rfl,rfl,SqL.of e,eJ,_,rfl,_,_,rfl,rfl,l1,_,_,rfl,rfl,e,?_,?_⟩
   .rw[zA1,oT,sizeLine_eq];lia
   .refine⟨_,rfl,λb o e'=>?_,?_⟩
    .rw[az (aA e' dE)];exact sc _ _ e'
    .rw[aj,zA4];rfl
  .rintro σ Hc ⟨x2,rfl,sc,e⟩;dsimp only;rw[zA1]at e;refine⟨_,rfl,l1,_,rfl,SqL.of e,λk hk=>q k _ (sc.updR hk) (sc.free hk) ?_⟩;rw[aj,<-List.map_reverse,Ex]
theorem Nm:(["sort","promises","sales","year"]:List Str).Nodup:=by decide +kernel
theorem Np:(["at","promises","sales","sort"]:List Str).Nodup:=by decide +kernel
theorem scO2:FnScope ["book","year","clips","promises","sales"] ["book","year"] (aJ (top 56)):=fQS
theorem xQ(F:Fun K "claimed_since" "claimed_since" (top 56) f fd)(N:Nums mg)(Tr:mg "range"=none)(c1:Cal P w K mg base 1 "from_each_on" ["numbers"] xP)(c2:Cal P w K mg base 1 "sacks_of" ["rows"] nC)(c3:Cal P w K mg base 2 "claims_in" ["promises","sales","sort","year"] pJ):FnOk P w K mg base CX0 3 f fd ["book","year"] (Bo JM):=by
 refine F.ok scO2 (λvs H Q E h=>?_) (λay A outer s H vs Q E hr h=>?_)
 .obtain⟨bk,y,ac,xc,cs,ap,xp,ps,ai,xs,ss,rfl,_⟩:=h;rfl
 .obtain⟨bk,y,ac,xc,cs,ap,xp,ps,ai,xs,ss,rfl,B,y0,y1,q⟩:=h;obtain⟨t1,e1⟩:=N.sorts
  refine⟨_,aC (cH (pv 0) (bG rfl (aq (pgn 2 scO2.nd) (aq (bC (i:=3) scO2.nd rfl (Or.inr rfl)) (aq (bC (i:=4) scO2.nd rfl (Or.inr rfl)) bf)))))
   (aG (aW (uV (x₀:="sort") ["sort","promises","sales","year"] [none,some 3,some 4,some 1] rfl (bu rfl Tr (au (cg (v:=.int 3) rfl e1 ⟨_,rfl⟩) ao))
    (λC fp Zt s₂ H₂=>⟨bC (i:=0) Nm rfl (Or.inr rfl) (Or.inl rfl),bx,aK c1 hr (au (bB ["at","promises","sales","sort"] [none,some 1,some 2,some 0] rfl (bu rfl Tr (au (aU bw (pv 3) aB) ao))
     (λC fp Zt s₂ H₂=>⟨pgn 0 Np,bx,aK c2 hr (au (aK c3 hr (au (pv 1) (au (pv 2) (au (pv 3) (au (pv 0) ao))))) ao)⟩)
     (λC=>cI (cI (cI trivial))) ⟨rfl,rfl,rfl,rfl⟩) ao)⟩)
    (λC=>cI (cI (cI trivial))) ⟨rfl,rfl,rfl,rfl,λ_ _=>rfl,λ_=>rfl⟩))),?_⟩
  obtain⟨n,rfl⟩:∃n:Nat,y=n:=⟨y.toNat,Zz⟩
  unfold JM at q;rw[zAi]at q;have hn:n<20:=by have:=B.lc;lia
  refine aQ ?_;refine⟨_,rfl,bk,_,rfl,SqT.of B.e,rfl,_,_,rfl,_,_,rfl,_,_,rfl,rfl,?_⟩;dsimp only;refine ir ?_;refine⟨3,rfl,by decide,by decide,bM 3 (λi ys σ Hc=>Same H Hc/\(∃o1,σ=[o1,some (.ref ap),some (.ref ai),some (.int n)])/\∃as:List Addr,ys=as.map V.ref/\as.length=i/\∀j a,as[j]?=some a->Hc a=some (.lst (((gq ps ss n 3).getD j []).map V.int))) ⟨Same.refl H,⟨_,rfl⟩,[],rfl,rfl,λj a e=>by simp at e⟩ (by rw[sizeLine_eq];decide) ?_ ?_⟩
  .rintro i ys σ Hc hi hy ⟨s1,⟨o1,rfl⟩,as,rfl,la,ga⟩;refine⟨hi,λv H' y' R hR=>?_⟩;obtain⟨eH,rfl⟩:=y';subst H';refine aD ?_;have de:=yR B.un B.h5;have B1:=B.same s1;refine⟨_,rfl,_,_,rfl,rfl,(n:Int)+1,rfl,Zz,Zz,?_⟩;refine bM (n+1) (λj ys σ Hd=>Same Hc Hd/\(∃o1,σ=[o1,some (.ref ap),some (.ref ai),some (.int (0+(i:Int)))])/\ys=(((List.range j).map λ(k:Nat)=>aN (aF ps ss (i:Int) (k:Int))):PP).map V.int) ⟨Same.refl Hc,⟨_,rfl⟩,rfl⟩ Zu ?_ ?_
   .rintro j ys σ Hd hj hy ⟨s2,⟨o1,rfl⟩,rfl⟩;refine⟨by show j<_;lia,λv H' y' R' qV=>?_⟩;obtain⟨eH,rfl⟩:=y';subst H';refine aD ?_;have B2:=B1.same s2;refine⟨_,rfl,_,rfl,_,rfl,_,rfl,ap,xp,ps,ai,xs,ss,_,_,rfl,B2.rp,B.lp,B.okp,B2.rs,B.ls,de,λl xl H3 s3 nl el eR=>?_⟩;have i0:(0:Int)+(i:Int)=(i:Int):=Zas _;have j0:(0:Int)+(j:Int)=(j:Int):=Zas _;rw[i0,j0]at eR;have Pe:=cQ (ss:=ss) (sort:=(i:Int)) (year:=(j:Int)) B.lp;refine⟨l,xl,_,rfl,el,eR,λr hr=>(dU B.un B.h5 B.okp r hr).1,Zz,λH4 s4=>qV _ _ _ ⟨(s2.trans s3).trans s4,⟨_,rfl⟩,?_⟩⟩;rw[Za6,zA4,zA4];rfl
   .rintro ys σ Hd hy ⟨s2,_,rfl⟩;refine⟨by show _<=n+1;lia,λD hD=>?_⟩;have s3:=Same.upd (o:=.lst (((List.range (n+1)).map λ(k:Nat)=>aN (aF ps ss (i:Int) (k:Int))).map V.int)) hD;refine⟨D,_,rfl,aj,by rw[zA1,Zad];lia,λk H4 s4 nk ek=>hR _ _ _ ⟨((s1.trans s2).trans s3).trans s4,⟨_,rfl⟩,as++[k],by rw[zA4];rfl,by rw[zA2,la];rfl,λj a e=>?_⟩⟩;by_cases hj:j<as.length
    .rw[zB8 hj]at e;exact s4 _ _ (s3 _ _ (s2 _ _ (ga j a e)))
    .rw[zB7 Zz]at e
     cases hk:j-as.length with
     |zero=>
      rw[hk]at e;injection e with e;subst e;have:j=i:=Zz
      rw[ek,this]
      have:(gq ps ss n 3).getD i []=eV (clT ps ss n i):=by
       unfold gq;rw[zA7,zAb,Zap hi];rfl
      rw[this];rfl
     |succ m=>
      rw[hk]at e;simp at e
  .rintro ys σ Hc hy ⟨s1,_,as,rfl,la,ga⟩;refine⟨by show _<=3;decide,λD hD=>?_⟩;have s2:=Same.upd (o:=.lst (as.map V.ref)) hD;exact q D as _ (s1.trans s2) ⟨aj,by rw[la];unfold gq;rw[zA1,Zad],λi a e=>s2 _ _ (ga i a e)⟩
def mnL:PP->Int
 |[]=>0
 |[x]=>x
 |x::y::r=>if x<=mnL (y::r)then x else mnL (y::r)
theorem uo:∀{ns:PP},ns≠[]->mnL ns∈ns
 |[],h=>absurd rfl h
 |[x],_=>Zae.mpr rfl
 |x::y::r,_=>by
  show(if x<=mnL (y::r)then x else mnL (y::r))∈_;split
  .exact .head _
  .exact .tail _ (uo (λz=>nomatch z))
theorem Ez:∀{ns:PP},∀a∈ns,mnL ns<=a
 |[],a,h=>nomatch h
 |[x],a,h=>by rw[Zae.mp h];exact Int.le_refl _
 |x::y::r,a,h=>by
  show(if x<=mnL (y::r)then x else mnL (y::r))<=a;rcases zAo.mp h with z|z
  .rw[z];split<;>lia
  .have:=Ez (ns:=y::r) a z;split<;>lia
theorem xR{ns:PP}{M:Int}(h:M∈ns)(hl:∀a∈ns,M<=a):M=mnL ns:=by
 have h1:=hl _ (uo (λz=>by rw[z]at h;cases h));have h2:=Ez M h;lia
def tb(T:PK)(s:Nat)(i:Int):Int:=(T.getD s []).getD i.toNat 0
def shV(C W:PK)(p:PP):Int:=((List.range 3).map λs=>tb C s (fl p s)).sum-((List.range 3).map λs=>tb W s (mnL (p.drop s))).sum
def Hr(n:Int)(p:PP):Prop:=p.length=3/\∀x∈p,0<=x/\x<=n+1
inductive SpShownI(vs:List V)(H:Hp)(Q:VK):Prop
 |mk:∀lc ac C lw aw W t p n,(vs=[.ref lc,.ref lw,.ref t])->(TbAt H lc ac C)->(TbAt H lw aw W)->(C.length=3)->(W.length=3)->((∀r∈C,(r.length:Int)=n+2))->((∀r∈W,(r.length:Int)=n+2))->(H t=some (.tup (p.map V.int)))->(Hr n p)->(∀H',Same H H'->Q (.int (shV C W p)) H')->SpShownI  vs H Q
def zr:Sp:=λvs H Q _=>SpShownI  vs H Q
def gw(cs ps ss:PK)(y:Nat)(p:PP):Int:=shV (gq ps ss y 3) (gr cs y 3) p
theorem EY{m:Int}(h:∀r∈T,(r.length:Int)=m)(hs:s<T.length):((T.getD s []).length:Int)=m:=by
 rw[zA7,zA0 hs];exact h _ (zAh hs)
theorem M3{n:Int}{p:PP}(h:Hr n p)(hs:s<3):0<=fl p s/\fl p s<=n+1:=by
 have hl:s<p.length:=by rw[h.1];exact hs
 unfold fl;rw[zA7,zA0 hl];exact h.2 _ (zAh hl)
theorem M4{n:Int}{p:PP}(h:Hr n p)(hs:s<3):0<=mnL (p.drop s)/\mnL (p.drop s)<=n+1:=by
 have hl:p.drop s≠[]:=λz=>by
  have:=congrArg List.length z;rw[Zam,h.1]at this;simp at this;lia
 exact h.2 _ (List.mem_of_mem_drop (uo hl))
theorem Ii{n i:Int}(h:∀r∈T,(r.length:Int)=n+2)(hs:s<T.length)(h0:0<=i)(h1:i<=n+1):atI ((T.getD s []).map V.int) i=some (.int (tb T s i)):=by
 have hl:=EY h hs;have:=cB (fj (L:=T.getD s []) (i:=i.toNat) Zz);rw[show((i.toNat:Nat):Int)=i by lia]at this;exact this
theorem TbAt.at{L:Addr}(h:TbAt H L as T)(hs:s<T.length):∃a,atI (as.map V.ref) (s:Int)=some (.ref a)/\H a=some (.lst ((T.getD s []).map V.int)):=by
 have hl:s<as.length:=by rw[h.l];exact hs
 exact⟨as[s],cB (by rw[zAb,zA0 hl];rfl),h.g s _ (zA0 hl)⟩
theorem Nq:(["sort","clips","year"]:List Str).Nodup:=by decide +kernel
theorem Nr:(["at","clips","sort"]:List Str).Nodup:=by decide +kernel
theorem scP2:FnScope ["book","year","clips","promises","sales"] ["book","year"] (aJ (top 57)):=fQS
theorem vQ(F:Fun K "wool_since" "wool_since" (top 57) f fd)(N:Nums mg)(Tr:mg "range"=none)(c1:Cal P w K mg base 1 "from_each_on" ["numbers"] xP):FnOk P w K mg base CX0 2 f fd ["book","year"] (Bo JN):=by
 refine F.ok scP2 (λvs H Q E h=>?_) (λay A outer s H vs Q E hr h=>?_)
 .obtain⟨bk,y,ac,xc,cs,ap,xp,ps,ai,xs,ss,rfl,_⟩:=h;rfl
 .obtain⟨bk,y,ac,xc,cs,ap,xp,ps,ai,xs,ss,rfl,B,y0,y1,q⟩:=h;obtain⟨t1,e1⟩:=N.sorts
  refine⟨_,aC (cH (pv 0) (bG rfl (aq (bC (i:=2) scP2.nd rfl (Or.inr rfl)) (aq (pgn 3 scP2.nd) (aq (pgn 4 scP2.nd) bf)))))
   (aG (aW (uV (x₀:="sort") ["sort","clips","year"] [none,some 2,some 1] rfl (bu rfl Tr (au (cg (v:=.int 3) rfl e1 ⟨_,rfl⟩) ao))
    (λC fp Zt s₂ H₂=>⟨bC (i:=0) Nq rfl (Or.inr rfl) (Or.inl rfl),bx,aK c1 hr (au (bB ["at","clips","sort"] [none,some 1,some 0] rfl (bu rfl Tr (au (aU bw (pv 2) aB) ao))
     (λC fp Zt s₂ H₂=>⟨pgn 0 Nr,bx,pX (K41P.ix_tupK (K:=K) rfl) (pX (K41P.ix_tupK (K:=K) rfl) (pv 1) (pv 0)) (pv 2)⟩)
     (λC=>cI (cI trivial)) ⟨rfl,rfl,rfl,rfl⟩) ao)⟩)
    (λC=>cI (cI trivial)) ⟨rfl,rfl,rfl,rfl,λ_ _=>rfl,λ_=>rfl⟩))),?_⟩
  obtain⟨n,rfl⟩:∃n:Nat,y=n:=⟨y.toNat,Zz⟩
  unfold JN at q;rw[zAi]at q;have hn:n<20:=by have:=B.lc;lia
  refine aQ ?_;refine⟨_,rfl,bk,_,rfl,SqT.of B.e,rfl,_,_,rfl,_,_,rfl,_,_,rfl,rfl,?_⟩;dsimp only;refine ir ?_;refine⟨3,rfl,by decide,by decide,bM 3 (λi ys σ Hc=>Same H Hc/\(∃o1,σ=[o1,some (.ref ac),some (.int n)])/\∃as:List Addr,ys=as.map V.ref/\as.length=i/\∀j a,as[j]?=some a->Hc a=some (.lst (((gr cs n 3).getD j []).map V.int))) ⟨Same.refl H,⟨_,rfl⟩,[],rfl,rfl,λj a e=>by simp at e⟩ (by rw[sizeLine_eq];decide) ?_ ?_⟩
  .rintro i ys σ Hc hi hy ⟨s1,⟨o1,rfl⟩,as,rfl,la,ga⟩;refine⟨hi,λv H' y' R hR=>?_⟩;obtain⟨eH,rfl⟩:=y';subst H';refine aD ?_;have B1:=B.same s1;refine⟨_,rfl,_,_,rfl,rfl,(n:Int)+1,rfl,Zz,Zz,?_⟩;refine bM (n+1) (λj ys σ Hd=>Hd=Hc/\(∃o1,σ=[o1,some (.ref ac),some (.int (0+(i:Int)))])/\ys=(((List.range j).map λ(k:Nat)=>fl (cs.getD k []) i):PP).map V.int) ⟨rfl,⟨_,rfl⟩,rfl⟩ Zu ?_ ?_
   .rintro j ys σ Hd hj hy ⟨rfl,⟨o1,rfl⟩,rfl⟩;refine⟨by show j<_;lia,λv H' y' R' qV=>?_⟩;obtain⟨eH,rfl⟩:=y';subst H';refine aD ?_;have ku:j<cs.length:=Zz
    obtain⟨t,ex,et⟩:=B1.rc.g j cs[j] (zA0 ku);have l3:=(B.okc _ (zAh ku)).1;have yA:atI xc (0+(j:Int))=some (.ref t):=by rw[Zas];exact cB ex
    have yB:atI (cs[j].map V.int) (0+(i:Int))=some (.int (fl (cs.getD j []) i)):=by
     rw[Zas,getD_get ku];exact cB (fj Zz)
    refine⟨_,rfl,_,rfl,ac,_,_,_,rfl,rfl,SqT.of B1.rc.e,yA,_,rfl,t,_,_,_,rfl,rfl,SqT.of et,yB,qV _ _ _ ⟨rfl,⟨_,rfl⟩,?_⟩⟩;rw[Za6,zA4,zA4];rfl
   .rintro ys σ Hd hy ⟨rfl,_,rfl⟩;refine⟨by show _<=n+1;lia,λD hD=>?_⟩;have s3:=Same.upd (o:=.lst (((List.range (n+1)).map λ(k:Nat)=>fl (cs.getD k []) i).map V.int)) hD;refine⟨D,_,rfl,aj,by rw[zA1,Zad];lia,λk H4 s4 nk ek=>hR _ _ _ ⟨(s1.trans s3).trans s4,⟨_,rfl⟩,as++[k],by rw[zA4];rfl,by rw[zA2,la];rfl,λj a e=>?_⟩⟩;by_cases hj:j<as.length
    .rw[zB8 hj]at e;exact s4 _ _ (s3 _ _ (ga j a e))
    .rw[zB7 Zz]at e
     cases hk:j-as.length with
     |zero=>
      rw[hk]at e;injection e with e;subst e;have:j=i:=Zz
      rw[ek,this]
      have:(gr cs n 3).getD i []=eV (wlT cs n i):=by
       unfold gr;rw[zA7,zAb,Zap hi];rfl
      rw[this];rfl
     |succ m=>
      rw[hk]at e;simp at e
  .rintro ys σ Hc hy ⟨s1,_,as,rfl,la,ga⟩;refine⟨by show _<=3;decide,λD hD=>?_⟩;have s2:=Same.upd (o:=.lst (as.map V.ref)) hD;exact q D as _ (s1.trans s2) ⟨aj,by rw[la];unfold gr;rw[zA1,Zad],λi a e=>s2 _ _ (ga i a e)⟩
theorem cut_drop{i:Nat}(h:i<=xs.length):iH xs (some (i:Int)) none=xs.drop i:=by
 unfold iH;rw[HT.sIx_none,HT.sIx_nat,Nat.min_eq_left h,Zai (by rw[Zam];exact zA3 _)]
theorem qy{K:Frag}(hK:X.K=K)(hc:X.calm=true):dG X (.builtin "min") (λxs H Q=>∃(p:Addr) (ns:PP),xs=[.ref p]/\SqT K H p (ns.map V.int)/\ns≠[]/\∀M,M∈ns->(∀a∈ns,M<=a)->Q (.int M) H):=by
 subst hK;exact tY hc
theorem M5:(["sort","since","claimed"]:List Str).Nodup:=by decide +kernel
theorem Nt:(["sort","wool","paper"]:List Str).Nodup:=by decide +kernel
theorem Br:bootBuiltins "min"=some (.builtin "min"):=by decide +kernel
theorem scQ1:FnScope ["claimed","wool","paper","claims"] ["claimed","wool","paper"] (aJ (top 58)):=fQS
theorem Fb(F:Fun K "shown" "shown" (top 58) f fd)(N:Nums mg)(Tr:mg "range"=none)(Ts:mg "sum"=none)(Te:mg "enumerate"=none)(Tn:mg "min"=none):FnOk P w K mg base CX0 1 f fd ["claimed","wool","paper"] zr:=by
 refine F.ok scQ1 (λvs H Q E h=>?_) (λay A outer s H vs Q E hr h=>?_)
 .obtain⟨lc,ac,C,lw,aw,W,t,p,n,rfl,_⟩:=h;rfl
 .obtain⟨lc,ac,C,lw,aw,W,t,p,n,rfl,tC,tW,lC,lW,rC,rW,et,okp,q⟩:=h;obtain⟨t1,e1⟩:=N.sorts
  refine⟨_,aC (pss 3 scQ1.nd (aM (cu rfl) rfl Ts boot_sum (au (bB (g:=lu K 2 (cG (bK 0) (cG (bK 1) mK))) ["sort","since","claimed"] [none,none,some 0] rfl (ZT.pi_enum true rfl Te (au (pv 2) ao))
    (λC fp Zt s₂ H₂=>⟨dY rfl rfl (aq (pgn 0 M5) (aq (pgn 1 M5) bf)),bx,pX (gj (K:=K) rfl) (pX (gj (K:=K) rfl) (pv 2) (pv 0)) (pv 1)⟩)
    (λC=>cI trivial) ⟨rfl,rfl,rfl,rfl⟩) ao)))
   (aG (aW (aU d8 (pv 3) (aM (cu rfl) rfl Ts boot_sum (au (bB ["sort","wool","paper"] [none,some 1,some 2] rfl (bu rfl Tr (au (cg (v:=.int 3) rfl e1 ⟨_,rfl⟩) ao))
    (λC fp Zt s₂ H₂=>⟨pgn 0 Nt,bx,pX (gj (K:=K) rfl) (pX (gj (K:=K) rfl) (pv 1) (pv 0)) (aM (qy (K:=K) rfl rfl) rfl Tn Br (au (gQ GQ (pv 2) (jc (pv 0)) jb) ao))⟩)
    (λC=>cI (cI trivial)) ⟨rfl,rfl,rfl,rfl⟩) ao))))),?_⟩
  have l3:=okp.1;refine aQ (aY ?_);refine⟨_,rfl,t,_,rfl,SqT.of et,bM 3 (λi ys σ Hc=>Same H Hc/\(∃o1 o2,σ=[o1,o2,some (.ref lc)])/\ys=((List.range i).map λs=>tb C s (fl p s)).map V.int) ⟨Same.refl H,⟨_,_,rfl⟩,rfl⟩ (by rw[sizeLine_eq];decide) ?_ ?_⟩
  .rintro i ys σ Hc hi hy ⟨s1,⟨o1,o2,rfl⟩,rfl⟩;have gN:SqT K Hc t (p.map V.int):=SqT.of (s1 _ _ et);have CA:(p.map V.int)[i]?=some (.int (fl p i)):=fj Zz;refine⟨⟨_,_,gN,CA⟩,λx H' yv R hR=>?_⟩;obtain⟨T1,CB,rfl,yv⟩:=yv;obtain⟨x',gp,rfl⟩:=yv _ gN;rw[CA]at gp;cases gp;have s2:=s1.updR (o:=.tup [.int (i:Int),.int (fl p i)]) CB;obtain⟨f0,f1⟩:=M3 okp hi;obtain⟨a,ha,ea⟩:=(tC.same s2).at (s:=i) Zz;refine⟨T1,_,rfl,SqT.of aj,rfl,_,_,rfl,_,_,rfl,rfl,?_⟩;refine⟨_,rfl,_,rfl,lc,_,_,_,rfl,rfl,SqL.of (tC.same s2).e,ha,_,rfl,a,_,_,_,rfl,rfl,SqL.of ea,Ii rC Zz f0 f1,hR _ _ _ ⟨s2,⟨_,_,rfl⟩,?_⟩⟩;rw[Za6,zA4,zA4];rfl
  .rintro ys σ Hc hy ⟨s1,_,rfl⟩;refine⟨⟨_,SqT.of (s1 _ _ et),by rw[zA1];lia⟩,λD hD=>⟨D,_,rfl,.inl (SqL.of aj),?_⟩⟩;have s2:=s1.updR (o:=.lst (((List.range 3).map λs=>tb C s (fl p s)).map V.int)) hD;generalize upd Hc D (.lst (((List.range 3).map λs=>tb C s (fl p s)).map V.int))=H2 at s2⊢;refine aD ?_;dsimp only;refine ir ?_;refine⟨_,rfl,3,rfl,by decide,by decide,bM 3 (λi ys σ Hc=>Same H2 Hc/\(∃o1,σ=[o1,some (.ref lw),some (.ref t)])/\ys=((List.range i).map λs=>tb W s (mnL (p.drop s))).map V.int) ⟨Same.refl H2,⟨_,rfl⟩,rfl⟩ (by rw[sizeLine_eq];decide) ?_ ?_⟩
   .rintro i ys σ Hd hi hy ⟨s3,⟨o1,rfl⟩,rfl⟩;refine⟨hi,λv H' y' R hR=>?_⟩;obtain⟨eH,rfl⟩:=y';subst H';refine aD ?_;have KA:=s2.trans s3;obtain⟨a,ha,ea⟩:=(tW.same KA).at (s:=i) Zz;rw[show((i:Nat):Int)=0+(i:Int) by lia]at ha;refine⟨_,rfl,_,rfl,lw,_,_,_,rfl,rfl,SqL.of (tW.same KA).e,ha,_,rfl,_,rfl,_,rfl,t,_,rfl,KA _ _ et,λc H4 s4 ec=>?_⟩;rw[Zas,cut_drop (by rw[zA1];lia),<-List.map_drop]at ec
    have gz:p.drop i≠[]:=λz=>by
     have:=congrArg List.length z;rw[Zam,l3]at this;simp at this;lia
    refine⟨c,_,rfl,SqT.of ec,gz,λM hM hle=>?_⟩;have eM:=xR hM hle;subst eM;obtain⟨m0,m1⟩:=M4 okp hi;refine⟨a,_,_,_,rfl,rfl,SqL.of (s4 _ _ ea),Ii rW Zz m0 m1,hR _ _ _ ⟨s3.trans s4,⟨_,rfl⟩,?_⟩⟩;rw[Za6,zA4,zA4];rfl
   .rintro ys σ Hd hy ⟨s3,_,rfl⟩;refine⟨by show _<=3;decide,λD2 Sd=>⟨D2,_,rfl,.inl (SqL.of aj),_,_,rfl,rfl,q _ ((s2.trans s3).updR Sd)⟩⟩
theorem kZ(ns:PP):(eV ns).length=ns.length+1:=by unfold eV;rw[zA1,Zad]
def seg(f:Nat->Int)(a:Nat):Nat->Int
 |0=>0
 |m+1=>if a<=m then seg f a m+f m else 0
def val(δ:Nat->Nat->Int)(t:Nat->Nat)(m:Nat):Nat->Int
 |0=>0
 |n+1=>val δ t m n+seg (δ n) (t n) m
def Mono(t:Nat->Nat)(n:Nat):Prop:=∀s,s+1<n->t s<=t (s+1)
theorem Mono.le{t:Nat->Nat}{n:Nat}(h:Mono t n):∀{a b},a<=b->b<n->t a<=t b:=λ{a b} Se=>by
 induction Se with
 |refl=>exact λ_=>zA3 _
 |step _ ih=>exact λhb=>Zak (ih Zz) (h _ hb)
theorem Hs{f:Nat->Int}{a:Nat}(h:m<=a):seg f a m=0:=by
 cases m with
 |zero=>rfl
 |succ m=>
  show(if a<=m then _ else 0)=(0:Int);rw[zAw Zz]
theorem JP{f:Nat->Int}{a:Nat}(h:a<=m):seg f a (m+1)=seg f a m+f m:=zAx h
theorem rR{δ:Nat->Nat->Int}{t:Nat->Nat}{m:Nat}(ds:Nat->Int)(h0:ds 0=0)(hs:∀n,ds (n+1)=ds n+δ n m):∀i,(∀s,s<i->t s<=m)->val δ t (m+1) i=val δ t m i+ds i
 |0,_=>by rw[h0];rfl
 |i+1,h=>by
  show val δ t (m+1) i+seg (δ i) (t i) (m+1)=(val δ t m i+seg (δ i) (t i) m)+ds (i+1);rw[rR ds h0 hs i λs hs=>h s Zz,JP (h i Zz),hs];lia
theorem JQ(t:Nat->Nat)(m:Nat):∀n,Mono t n->∃i,i<=n/\(∀s,s<i->t s<=m)/\∀s,i<=s->s<n->m+1<=t s
 |0,_=>⟨0,zA3 _,λs h=>by lia,λs _ h=>by lia⟩
 |n+1,hm=>by
  by_cases h:t n<=m
  .exact⟨n+1,zA3 _,λs hs=>Zak (hm.le Zz Zz) h,λs h1 h2=>by lia⟩
  .obtain⟨i,hi,h1,h2⟩:=JQ t m n λs hs=>hm s Zz;refine⟨i,Zz,h1,λs hs kz=>?_⟩;by_cases e:s=n
   .rw[e];lia
   .exact h2 s hs Zz
theorem zu{δ:Nat->Nat->Int}{t u:Nat->Nat}{m:Nat}:∀n,(∀s,s<n->t s=u s)->val δ t m n=val δ u m n
 |0,_=>rfl
 |n+1,h=>by
  show val δ t m n+seg (δ n) (t n) m=val δ u m n+seg (δ n) (u n) m;rw[zu n λs hs=>h s Zz,h n Zz]
theorem val_eq{cs ps ss:PK}(B:BkO cs ps ss):∀m n,n<=3->∃t,Mono t n/\(∀s,s<n->t s<=m)/\val (dlw cs ps ss) t m n=aO cs ps ss m n
 |0,n,hn=>by
  refine⟨λ_=>0,λ_ _=>zA3 _,λ_ _=>zA3 _,?_⟩
  have e:∀n,val (dlw cs ps ss) (λ_=>0) 0 n=0:=λn=>by
   induction n with
   |zero=>rfl
   |succ n ih=>
    show val _ _ 0 n+0=0;rw[ih];rfl
  have e2:∀n,aO cs ps ss 0 n=0:=λn=>by
   induction n with
   |zero=>rfl
   |succ n ih=>
    show aO cs ps ss 0 n+aN (aH ps [] n)=0;rw[ih];rfl
  rw[e,e2]
 |m+1,0,_=>⟨λ_=>0,λ_ _=>zA3 _,λs hs=>by lia,rfl⟩
 |m+1,n+1,hn=>by
  rw[JL B m n hn];by_cases h:aO cs ps ss (m+1) n<=aO cs ps ss m (n+1)+dS cs ps ss m (n+1)
  .obtain⟨t,t1,t2,t3⟩:=val_eq B m (n+1) hn;refine⟨t,t1,λs hs=>Nat.le_succ_of_le (t2 s hs),?_⟩;rw[rR (dS cs ps ss m) rfl (λ_=>rfl) (n+1) t2,t3];lia
  .obtain⟨t,t1,t2,t3⟩:=val_eq B (m+1) n Zz;refine⟨λs=>if s<n then t s else m+1,λs hs=>?_,λs hs=>?_,?_⟩
   .show(if s<n then t s else m+1)<=(if s+1<n then t (s+1)else m+1);by_cases h1:s+1<n
    .rw[zAx h1,zAx Zz];exact t1 s h1
    .rw[zAw h1,zAx Zz];exact t2 s Zz
   .show(if s<n then t s else m+1)<=m+1;split
    .exact t2 s (by assumption)
    .exact zA3 _
   .show val _ _ (m+1) n+seg _ (if n<n then t n else m+1) (m+1)=_;rw[zAw (Zau _),Hs (zA3 _),zu (u:=t) n λs hs=>zAx hs,t3];lia
theorem vR(f:Nat->Int)(a:Nat):∀m,(((List.range m).map f).drop a).sum=seg f a m
 |0=>by
  show(([]:PP).drop a).sum=0;rw[List.drop_nil];rfl
 |m+1=>by
  rw[Za6,zA4];show(((List.range m).map f++[f m]).drop a).sum=if a<=m then seg f a m+f m else 0;by_cases h:a<=m
  .rw[zAx h,List.drop_append_of_le_length (by rw[zA1,Zad];exact h),List.sum_append,vR f a m];show _+(f m+0)=_;rw[Int.add_zero]
  .rw[zAw h,Zav (by rw[zA2,zA1,Zad];show m+1<=a;lia)];rfl
theorem Fd{ns:PP}{k:Nat}(h:k<=ns.length):(eV ns).getD k 0=(ns.drop k).sum:=by
 unfold eV;rw[zA7,zAb,Zap Zz];rfl
theorem Fe{f:Nat->Nat->Int}{i:Int}(hs:s<3)(h1:i<=Y+1):tb ((List.range 3).map λs=>eV ((List.range (Y+1)).map (f s))) s i=seg (f s) i.toNat (Y+1):=by
 unfold tb
 have e:((List.range 3).map λs=>eV ((List.range (Y+1)).map (f s))).getD s []=eV ((List.range (Y+1)).map (f s)):=by
  rw[zA7,zAb,Zap hs];rfl
 rw[e,Fd (by rw[zA1,Zad];lia),vR]
def cF(ps ss:PK)(s i:Nat):Int:=aN (aF ps ss (s:Int) (i:Int))
def wF(cs:PK)(s i:Nat):Int:=fl (cs.getD i []) s
theorem Ff{i:Int}(hs:s<3)(h1:i<=Y+1):tb (gq ps ss Y 3) s i=seg (cF ps ss s) i.toNat (Y+1):=Fe (f:=cF ps ss) hs h1
theorem Fg{i:Int}(hs:s<3)(h1:i<=Y+1):tb (gr cs Y 3) s i=seg (wF cs s) i.toNat (Y+1):=Fe (f:=wF cs) hs h1
theorem zx{f g:Nat->Int}{a:Nat}:∀m,seg (λj=>f j-g j) a m=seg f a m-seg g a m
 |0=>rfl
 |m+1=>by
  have ih:=zx (f:=f) (g:=g) (a:=a) m;show(if a<=m then seg (λj=>f j-g j) a m+(f m-g m)else 0)=(if a<=m then seg f a m+f m else 0)-(if a<=m then seg g a m+g m else 0);rw[ih];split<;>lia
def wS(cs:PK)(Y:Nat)(t:Nat->Nat):Int:=seg (wF cs 0) (t 0) (Y+1)+seg (wF cs 1) (t 1) (Y+1)+seg (wF cs 2) (t 2) (Y+1)
def cS(ps ss:PK)(Y:Nat)(t:Nat->Nat):Int:=seg (cF ps ss 0) (t 0) (Y+1)+seg (cF ps ss 1) (t 1) (Y+1)+seg (cF ps ss 2) (t 2) (Y+1)
theorem JR{t:Nat->Nat}:val (dlw cs ps ss) t (Y+1) 3=cS ps ss Y t-wS cs Y t:=by
 have e:∀s,seg (dlw cs ps ss s) (t s) (Y+1)=seg (cF ps ss s) (t s) (Y+1)-seg (wF cs s) (t s) (Y+1):=λs=>zx (f:=cF ps ss s) (g:=wF cs s) (Y+1);show 0+seg (dlw cs ps ss 0) (t 0) (Y+1)+seg (dlw cs ps ss 1) (t 1) (Y+1)+seg (dlw cs ps ss 2) (t 2) (Y+1)=_;rw[e,e,e];unfold cS wS;lia
theorem jD{K:Frag}(hK:X.K=K)(hc:X.calm=true):dG X (.builtin "sum") (λxs H Q=>∃(p:Addr) (ns:PP),xs=[.ref p]/\(SqL K H p (ns.map V.int)\/SqT K H p (ns.map V.int))/\Q (.int ns.sum) H):=by
 subst hK;exact cu hc
theorem vU{K:Frag}(hK:X.K=K):SlR X (Kg K):=by
 subst hK;exact sI
inductive SpTabI(vs:List V)(H:Hp)(Q:VK):Prop
 |mk:∀bk y ac xc cs ap xp ps ai xs ss,(vs=[.ref bk,.int y])->(BookAt H bk ac xc cs ap xp ps ai xs ss)->(0<=y)->(y<cs.length)->(∀t l1 a1 l2 a2 H',Same H H'->H' t=some (.tup [.ref l1,.ref l2])->TbAt H' l1 a1 (gq ps ss y.toNat 3)->TbAt H' l2 a2 (gr cs y.toNat 3)->Q (.ref t) H')->SpTabI  vs H Q
def Ij:Sp:=λvs H Q _=>SpTabI  vs H Q
theorem Dts.but2{l1 l2:Addr}{H0:Hp}{f:Int->Int->Int->Int}{b:Int->Int->Nat}{x1 x2:List V}(g:Dts fo H0 H dm f b kvs)(k:∀b o,b≠l1->b≠l2->H b=some o->H' b=some o)(z1:H0 l1=none)(z2:H0 l2=none)(e1:H l1=some (.lst x1))(e2:H l2=some (.lst x2)):Dts fo H0 H' dm f b kvs:=by
 have nl:∀d kv,H d=some kv->(∀x,kv≠.lst x)->H' d=some kv:=λd kv e h=>k _ _ (λz=>by rw[z,e1]at e;cases e;exact h _ rfl) (λz=>by rw[z,e2]at e;cases e;exact h _ rfl) e;refine⟨λb o e=>k _ _ (aA e z1) (aA e z2) (g.sm _ _ e),g.nf,nl _ _ g.e (λ_ z=>by cases z),λn y h=>?_,g.no,g.i,λn y d h=>?_⟩
 .obtain⟨d,kv,q1,q2,r⟩:=g.g n y h;exact⟨d,kv,q1,nl _ _ q2 (λ_ z=>by cases z),r⟩
 .obtain⟨q1,q2,o',q3⟩:=g.fr n y d h;by_cases hd:dm n y
  .obtain⟨d',kv,p1,p2,_⟩:=g.g n y hd;rw[h]at p1;cases p1;rw[p2]at q3;cases q3;exact⟨q1,q2,_,nl _ _ p2 (λ_ z=>by cases z)⟩
  .rw[g.no n y hd]at h;cases h
theorem vV{te:TE}{J:It}{lm:Addr}{ns:PP}{H0:Hp}{x0:Option V}{Fin:List V->Hp->Prop}(em:H0 lm=some (.lst (ns.map V.int)))(hl:ns.length<=100)(hg:∀i H,i<ns.length+1->J.go i H)(hy:∀i H x H',J.yld i H x H'->H'=H/\x=.int (0+(i:Int)))(hs:∀H,J.stop (ns.length+1) H)
  (ht:∀(i:Nat) H R,H lm=some (.lst (ns.map V.int))->(∀H',Same H H'->R (.int (ns.drop i).sum) H')->te [some (.int (0+(i:Int))),some (.ref lm)] H R) (fin:∀H',Same H0 H'->Fin ((eV ns).map V.int) H'):jm J (bK 0) sO te Fin [x0,some (.ref lm)] H0:=by
 refine bM (ns.length+1) (λi ys σ Hc=>Same H0 Hc/\(∃o1,σ=[o1,some (.ref lm)])/\ys=((List.range i).map λk=>(ns.drop k).sum).map V.int) ⟨Same.refl H0,⟨_,rfl⟩,rfl⟩ Zu ?_ ?_
 .rintro i ys σ Hc hi _ ⟨s1,⟨o1,rfl⟩,rfl⟩;refine⟨hg i Hc hi,λv H' y' R hR=>?_⟩;obtain⟨rfl,rfl⟩:=hy _ _ _ _ y';refine aD ?_;refine ht i H' _ (s1 _ _ em) λH2 s2=>hR _ _ _ ⟨s1.trans s2,⟨_,rfl⟩,?_⟩;rw[Za6,zA4,zA4];rfl
 .rintro ys σ Hc _ ⟨s1,_,rfl⟩;exact⟨hs Hc,fin Hc s1⟩
theorem vW{ns:PP}:iH (ns.map V.int) (some (0+(m:Int))) none=(ns.drop m).map V.int:=by
 rw[Zas];unfold iH;rw[HT.sIx_none,HT.sIx_nat,zA1];by_cases h:m<=ns.length
 .rw[Nat.min_eq_left h,Zai (by rw[Zam,zA1];lia),List.map_drop]
 .rw[Nat.min_eq_right Zz,Nat.sub_self,Zay,Zav Zz];rfl
theorem Nu:(["_law_here",Yw,Yv,Yz]:List Str).Nodup:=by decide +kernel
theorem Nv:(["_law_claim"]:List Str).Nodup:=by decide +kernel
theorem Nx:([Y5,"_law_mine"]:List Str).Nodup:=by decide +kernel
theorem Ny:(["_law_here",Yw,Yz]:List Str).Nodup:=by decide +kernel
theorem Nz:([Y5,"_law_some"]:List Str).Nodup:=by decide +kernel
theorem scTA:FnScope [Yw,Yt,Yv,"_law_claims_here","_law_wool",Yz,"_law_mine","_law_some"] [Yw,Yt] (aJ (top 80)):=fQS
theorem Bs(F:Fun K "_law_tables" "_law_tables" (top 80) f fd)(Tr:mg "range"=none)(Ts:mg "sum"=none)(c1:Cal P w K mg base 2 Zj [Yq,Yu] nH)(c2:Cal P w K mg base 1 Zn [Yq,Yv,Yz,Yt] lQ):FnOk P w K mg base CX0 3 f fd [Yw,Yt] Ij:=by
 refine F.ok scTA (λvs H Q E h=>?_) (λay A outer s H vs Q E hr h=>?_)
 .obtain⟨bk,y,ac,xc,cs,ap,xp,ps,ai,xs,ss,rfl,_⟩:=h;rfl
 .obtain⟨bk,y,ac,xc,cs,ap,xp,ps,ai,xs,ss,rfl,B,y0,y1,q⟩:=h
  refine K41P.ok_b (aR (tL (i:=2) scTA.nd rfl (Or.inr rfl) ⟨pX bR (aK c1 hr (au (pX bR (pv 0) aB) (au (pX bR (pv 0) aB) ao))) aB⟩)
   (aR ⟨vZ (i:=3) (j:=4) rfl scTA.nd rfl rfl Zx rfl rfl (au (cJ ao) (au (cJ ao) ao)) rfl⟩
   (aR ⟨bU zB3 rfl (bu rfl Tr (au aB ao)) (bC (i:=5) scTA.nd rfl (Or.inr rfl))
    (iT (aR (tL (i:=6) scTA.nd rfl (Or.inr rfl) ⟨bB ["_law_here",Yw,Yv,Yz] [none,some 0,some 2,some 5] rfl (bu rfl Tr (au (aU bw (pv 1) aB) ao))
     (λC fp Zt s₂ H₂=>⟨pgn 0 Nu,bx,aM (jD (K:=K) rfl rfl) rfl Ts boot_sum (au (bB ["_law_claim"] [none] rfl (K41P.pi_listK (K:=K) rfl (aK c2 hr (au (pX (K41P.ix_tupK (K:=K) rfl) (pv 1) aB) (au (pv 2) (au (pv 3) (au (pv 0) ao))))))
      (λC fp Zt s₂ H₂=>⟨pgn 0 Nv,bx,pX (K41P.ix_tupK (K:=K) rfl) (pv 0) aB⟩) (λC=>trivial) ⟨rfl,rfl,rfl,rfl⟩) ao)⟩)
     (λC=>cI (cI (cI trivial))) ⟨rfl,rfl,rfl,rfl⟩⟩)
    (aR ⟨cA (gC zB9 zBc zBb cN (pv 3) (au (bB [Y5,"_law_mine"] [none,some 6] rfl (bu rfl Tr (au (aU bw (pv 1) aB) ao))
     (λC fp Zt s₂ H₂=>⟨pgn 0 Nx,bx,aM (jD (K:=K) rfl rfl) rfl Ts boot_sum (au (gQ (vU (K:=K) rfl) (pv 1) (jc (pv 0)) jb) ao)⟩) (λC=>cI trivial) ⟨rfl,rfl,rfl,rfl⟩) ao))⟩
    (aR (tL (i:=7) scTA.nd rfl (Or.inr rfl) ⟨bB ["_law_here",Yw,Yz] [none,some 0,some 5] rfl (bu rfl Tr (au (aU bw (pv 1) aB) ao))
     (λC fp Zt s₂ H₂=>⟨pgn 0 Ny,bx,pX (K41P.ix_tupK (K:=K) rfl) (pX (K41P.ix_tupK (K:=K) rfl) (pX (K41P.ix_tupK (K:=K) rfl) (pv 1) aB) (pv 0)) (pv 2)⟩)
     (λC=>cI (cI trivial)) ⟨rfl,rfl,rfl,rfl⟩⟩)
    (cO ⟨cA (gC zB9 zBc zBb cN (pv 4) (au (bB [Y5,"_law_some"] [none,some 7] rfl (bu rfl Tr (au (aU bw (pv 1) aB) ao))
     (λC fp Zt s₂ H₂=>⟨pgn 0 Nz,bx,aM (jD (K:=K) rfl rfl) rfl Ts boot_sum (au (gQ (vU (K:=K) rfl) (pv 1) (jc (pv 0)) jb) ao)⟩) (λC=>cI trivial) ⟨rfl,rfl,rfl,rfl⟩) ao))⟩)))))⟩
   (cO (lH ⟨bO (au (pv 3) (au (pv 4) ao))⟩))))) ?_
  obtain⟨n,rfl⟩:∃n:Nat,y=n:=⟨y.toNat,Zz⟩
  rw[zAi]at q;have hn:n<20:=by have:=B.lc;lia
  refine aP λc_ af=>?_;refine aY ?_;refine⟨_,rfl,bk,_,1,.ref ap,rfl,rfl,SqT.of B.e,rfl,_,rfl,bk,_,2,.ref ai,rfl,rfl,SqT.of B.e,rfl,ap,xp,ps,ai,xs,ss,rfl,B.rp,B.lp,B.okp,B.rs,by have:=B.ls;lia,B.h5,λt fo H1 s1 et hd=>⟨t,_,0,.ref fo,rfl,rfl,SqT.of et,rfl,?_⟩⟩;obtain⟨b,kvs,D⟩:=hd B.un;have D:Dts fo H H1 (dom ps) (pU ps ss) b kvs:=D;refine aD ?_;refine af _ _ ?_;clear af c_
  try dsimp only
  refine aP λc_ af=>?_;refine⟨zL,λl1 h1=>⟨zL,λl2 h2=>⟨_,_,rfl,?_⟩⟩⟩;refine af _ _ ?_;clear af c_
  try dsimp only
  have n1:H1 l1=none:=h1;have u1:=Same.upd (o:=.lst []) h1;have u2:=u1.updR (o:=.lst []) h2;have e2:=aj (H:=upd H1 l1 (.lst [])) (a:=l2) (o:=.lst []);have e1:=Same.upd (o:=.lst []) h2 _ _ (aj (H:=H1) (a:=l1) (o:=.lst []));have n2:H1 l2=none:=u1.free h2;generalize upd (upd H1 l1 (.lst [])) l2 (.lst [])=H2 at u2 e1 e2⊢
  have Pf:l1≠l2:=λz=>by rw[z,aj]at h2;cases h2
  clear h1 h2 u1 hd et;have D2:=D.same u2;refine aQ ?_;refine⟨3,rfl,by decide,by decide,?_⟩;refine cj (lo:=0) (λi σ Hc=>Xe5 λx5 x6 x7 (a1:List Addr) (a2:List Addr)=>Xa8 (σ=[some (.ref bk),some (.int n),some (.ref fo),some (.ref l1),some (.ref l2),x5,x6,x7]) ((∀b o,b≠l1->b≠l2->H2 b=some o->Hc b=some o)) (Hc l1=some (.lst (a1.map V.ref))) (a1.length=i) ((∀j a,a1[j]?=some a->a≠l1/\a≠l2/\Hc a=some (.lst (((gq ps ss n 3).getD j []).map V.int)))) (Hc l2=some (.lst (a2.map V.ref))) (a2.length=i) (∀j a,a2[j]?=some a->a≠l1/\a≠l2/\Hc a=some (.lst (((gr cs n 3).getD j []).map V.int)))) ?_ ?_ ?_
  .exact⟨none,none,none,[],[],rfl,λ_ _ _ _ e=>e,e1,rfl,λj a e=>by simp at e,e2,rfl,λj a e=>by simp at e⟩
  .rintro i σ Hc hi ⟨x5,x6,x7,a1,a2,rfl,kp,f1,nX,g1,f2,yn,g2⟩;have hi:i<3:=hi;refine aD ?_;refine vm λDe KG=>?_;have Dc:=D2.but2 kp (s1.free n1) (s1.free n2) e1 e2;have kt:∀b l,H2 b=some (.tup l)->Hc b=some (.tup l):=λb l e=>kp _ _ (λz=>by rw[z,e1]at e;cases e) (λz=>by rw[z,e2]at e;cases e) e;have B2:=(B.same s1).same u2;have eb:=kt _ _ B2.e;have rp:=B2.rp.keep kt;have rc:=B2.rc.keep kt;refine aP λc_ af=>?_;refine aY ?_;refine⟨_,rfl,_,_,rfl,rfl,(n:Int)+1,rfl,Zz,Zz,?_⟩;refine bM (n+1) (λj ys σ Hd=>Same Hc Hd/\(∃o1,σ=[o1,some (.ref bk),some (.ref fo),some (.int (0+(i:Int)))])/\ys=(((List.range j).map λ(k:Nat)=>aN (aF ps ss (i:Int) (k:Int))):PP).map V.int) ⟨Same.refl Hc,⟨_,rfl⟩,rfl⟩ Zu ?_ ?_
   .rintro j ys σ Hd hj hy ⟨sd,⟨o1,rfl⟩,rfl⟩;refine⟨by show j<_;lia,λv H' y' R hR=>?_⟩;obtain⟨eH,rfl⟩:=y';subst H';refine aD ?_;refine⟨_,rfl,bk,_,1,.ref ap,rfl,rfl,SqT.of (sd _ _ eb),rfl,_,rfl,_,rfl,_,rfl,ap,xp,ps,fo,H,b,kvs,ss,_,_,rfl,rp.same sd,B.lp,B.okp,Dc.same sd,λl xl H3 s3 nl el eR=>⟨l,rfl,⟨_,SqL.of el⟩,?_⟩⟩;rw[Zas,Zas]at eR;have DJ:∀r∈aF ps ss (i:Int) (j:Int),r.length=4:=λr hr=>(dU B.un B.h5 B.okp r hr).1;have Pe:=cQ (ss:=ss) (sort:=(i:Int)) (year:=(j:Int)) B.lp;have mT:aN (aF ps ss (i:Int) (j:Int))=((aF ps ss (i:Int) (j:Int)).map λr=>fl r 3).sum:=rfl;rw[Za6,zA4]at hR
    obtain⟨cl,hU⟩:∃cl,cl=aF ps ss (i:Int) (j:Int):=⟨_,rfl⟩
    rw[<-hU]at eR DJ Pe mT;have Sf:=eR.1;rw[zA1]at Sf;refine bM cl.length (λk ys σ He=>He=H3/\(∃o1,σ=[o1])/\ys=((cl.take k).map λr=>fl r 3).map V.int) ⟨rfl,⟨_,rfl⟩,rfl⟩ Zu ?_ ?_
    .rintro k ys σ He hk hy ⟨rfl,⟨o1,rfl⟩,rfl⟩;obtain⟨t,ex,et⟩:=eR.2 k (cl[k]).tail (by rw[zAb,zA0 hk];rfl);refine⟨⟨_,_,SqL.of el,ex⟩,λv H' y' R' qV=>?_⟩;obtain⟨rfl,y'⟩:=y';have hv:=y' _ (SqL.of el);rw[ex]at hv;cases hv;refine aD ?_;have l4:=DJ _ (zAh hk)
     have e3:(cl[k]).tail.getD 2 0=fl cl[k] 3:=by
      cases hc:cl[k]with
      |nil=>rfl
      |cons x r=>rfl
     refine⟨_,rfl,t,_,2,_,rfl,rfl,SqT.of et,cB (j:=2) (fj (by rw[List.length_tail];lia)),qV _ _ _ ⟨rfl,⟨_,rfl⟩,?_⟩⟩;rw[zAj,zA0 hk,zA4,zA4,e3];rfl
    .rintro ys σ He hy ⟨rfl,_,rfl⟩;rw[zAm];refine⟨⟨_,SqL.of el,Zz⟩,λD3 Sg=>⟨D3,_,rfl,.inl (SqL.of aj),?_⟩⟩;rw[<-mT];exact hR _ _ _ ⟨(sd.trans s3).trans (Same.upd Sg),⟨_,rfl⟩,by rw[zA4,hU];rfl⟩
   rintro ys σ Hd hy ⟨sd,_,rfl⟩;refine⟨by show _<=n+1;lia,λlm rf=>?_⟩;have em:=aj (H:=Hd) (a:=lm) (o:=.lst ((clT ps ss n i).map V.int));have k3:∀b o,Hc b=some o->upd Hd lm (.lst ((clT ps ss n i).map V.int)) b=some o:=sd.updR rf;rw[show((List.range (n+1)).map λ(k:Nat)=>aN (aF ps ss (i:Int) (k:Int)))=clT ps ss n i from rfl];generalize upd Hd lm (.lst ((clT ps ss n i).map V.int))=H3 at em k3⊢
   have Xq:lm≠l1:=λz=>by rw[z,sd _ _ f1]at rf;cases rf
   have Xr:lm≠l2:=λz=>by rw[z,sd _ _ f2]at rf;cases rf
   clear sd rf Dc;refine aD ?_;refine af _ _ ?_;clear af c_
   try dsimp only
   refine aP λc_ af=>?_;have Xs:(clT ps ss n i).length=n+1:=by unfold clT;rw[zA1,Zad]
   refine⟨_,rfl,.inl ⟨rfl,_,SqL.of (k3 _ _ f1)⟩,_,rfl,_,_,rfl,rfl,(n:Int)+2,rfl,Zz,Zz,?_⟩;refine vV em Zz (λi H hi=>by show i<_;lia) (λi H x H' y=>⟨y.1,y.2⟩) (λH=>by show _<=_;lia) (λi H R e h=>⟨_,rfl,_,rfl,_,rfl,lm,_,rfl,SqL.of e,λp hp=>?_⟩) λH4 s4 D4 AR=>?_
   .rw[vW];exact⟨p,_,rfl,.inl (SqL.of aj),h _ (Same.upd hp)⟩
   have s5:=s4.updR (o:=.lst ((eV (clT ps ss n i)).map V.int)) AR;have e5:=aj (H:=H4) (a:=D4) (o:=.lst ((eV (clT ps ss n i)).map V.int));have f5:=s5 _ _ (k3 _ _ f1)
   have Pg:D4≠l1:=λz=>by rw[z,s4 _ _ (k3 _ _ f1)]at AR;cases AR
   have Ph:D4≠l2:=λz=>by rw[z,s4 _ _ (k3 _ _ f2)]at AR;cases AR
   generalize upd H4 D4 (.lst ((eV (clT ps ss n i)).map V.int))=H5 at s5 e5 f5⊢;clear AR s4;refine⟨l1,_,_,rfl,rfl,f5,by rw[zA1,nX,sizeLine_eq];lia,?_⟩
   have k6:∀b o,b≠l1->Hc b=some o->upd H5 l1 (.lst (a1.map V.ref++[V.ref D4])) b=some o:=λb o nb e=>by rw[az nb];exact s5 _ _ (k3 _ _ e)
   have e6:upd H5 l1 (.lst (a1.map V.ref++[V.ref D4])) D4=some (.lst ((eV (clT ps ss n i)).map V.int)):=by rw[az Pg];exact e5
   have f6:=aj (H:=H5) (a:=l1) (o:=.lst (a1.map V.ref++[V.ref D4]));generalize upd H5 l1 (.lst (a1.map V.ref++[V.ref D4]))=H6 at k6 e6 f6⊢;clear f5 e5 s5 k3 em;refine af _ _ ?_;clear af c_
   try dsimp only
   have ec:(gq ps ss n 3).getD i []=eV (clT ps ss n i):=by
    unfold gq;rw[zA7,zAb,Zap hi];rfl
   rw[<-ec]at e6;have Sh:=k6 _ _ (λz=>by rw[z,f1]at eb;cases eb) eb;have Si:∀b l,Hc b=some (.tup l)->H6 b=some (.tup l):=λb l e=>k6 _ _ (λz=>by rw[z,f1]at e;cases e) e;have Pj:=rc.keep Si;refine aP λc_ af=>?_;refine aY ?_;refine⟨_,rfl,_,_,rfl,rfl,(n:Int)+1,rfl,Zz,Zz,?_⟩;refine bM (n+1) (λj ys σ Hd=>Hd=H6/\(∃o1,σ=[o1,some (.ref bk),some (.int (0+(i:Int)))])/\ys=(((List.range j).map λ(k:Nat)=>fl (cs.getD k []) i):PP).map V.int) ⟨rfl,⟨_,rfl⟩,rfl⟩ Zu ?_ ?_
   .rintro j ys σ Hd hj hy ⟨rfl,⟨o1,rfl⟩,rfl⟩;refine⟨by show j<_;lia,λv H' y' R' qV=>?_⟩;obtain⟨eH,rfl⟩:=y';subst H';refine aD ?_;have ku:j<cs.length:=Zz
    obtain⟨t,ex,et⟩:=Pj.g j cs[j] (zA0 ku);have l3:=(B.okc _ (zAh ku)).1;have yA:atI xc (0+(j:Int))=some (.ref t):=by rw[Zas];exact cB ex
    have yB:atI (cs[j].map V.int) (0+(i:Int))=some (.int (fl (cs.getD j []) i)):=by
     rw[Zas,getD_get ku];exact cB (fj Zz)
    refine⟨_,rfl,bk,_,0,.ref ac,rfl,rfl,SqT.of Sh,rfl,_,rfl,ac,_,_,_,rfl,rfl,SqT.of Pj.e,yA,_,rfl,t,_,_,_,rfl,rfl,SqT.of et,yB,qV _ _ _ ⟨rfl,⟨_,rfl⟩,?_⟩⟩;rw[Za6,zA4,zA4];rfl
   rintro ys σ Hd hy ⟨rfl,_,rfl⟩;refine⟨by show _<=n+1;lia,λlm rf=>?_⟩;have em:=aj (H:=Hd) (a:=lm) (o:=.lst ((wlT cs n i).map V.int));have s7:=Same.upd (o:=.lst ((wlT cs n i).map V.int)) rf;rw[show((List.range (n+1)).map λ(k:Nat)=>fl (cs.getD k []) i)=wlT cs n i from rfl];generalize upd Hd lm (.lst ((wlT cs n i).map V.int))=H7 at em s7⊢;clear rf;refine aD ?_;refine af _ _ ?_;clear af c_
   try dsimp only
   have Xt:(wlT cs n i).length=n+1:=by unfold wlT;rw[zA1,Zad]
   have EW:=s7 _ _ (k6 _ _ Pf.symm f2);refine⟨_,rfl,.inl ⟨rfl,_,SqL.of EW⟩,_,rfl,_,_,rfl,rfl,(n:Int)+2,rfl,Zz,Zz,?_⟩;refine vV em Zz (λi H hi=>by show i<_;lia) (λi H x H' y=>⟨y.1,y.2⟩) (λH=>by show _<=_;lia) (λi H R e h=>⟨_,rfl,_,rfl,_,rfl,lm,_,rfl,SqL.of e,λp hp=>?_⟩) λH8 s8 D8 yT=>?_
   .rw[vW];exact⟨p,_,rfl,.inl (SqL.of aj),h _ (Same.upd hp)⟩
   have s9:=(s7.trans s8).updR (o:=.lst ((eV (wlT cs n i)).map V.int)) yT;have e9:=aj (H:=H8) (a:=D8) (o:=.lst ((eV (wlT cs n i)).map V.int))
   have Sj:D8≠l1:=λz=>by rw[z,s8 _ _ (s7 _ _ f6)]at yT;cases yT
   have Pk:D8≠l2:=λz=>by rw[z,s8 _ _ EW]at yT;cases yT
   have KI:=(s8.updR (o:=.lst ((eV (wlT cs n i)).map V.int)) yT) _ _ EW;generalize upd H8 D8 (.lst ((eV (wlT cs n i)).map V.int))=H9 at s9 e9 KI⊢;clear yT s8 s7 em;refine⟨l2,_,_,rfl,rfl,KI,by rw[zA1,yn,sizeLine_eq];lia,?_⟩
   have ew:(gr cs n 3).getD i []=eV (wlT cs n i):=by
    unfold gr;rw[zA7,zAb,Zap hi];rfl
   rw[<-ew]at e9
   have kf:∀{o:HO} b o',b≠l1->b≠l2->Hc b=some o'->upd H9 l2 o b=some o':=λb o' x1 x2 e=>by rw[az x2];exact s9 _ _ (k6 _ _ x1 e)
   have snoc:∀{xs:List Addr} {z a:Addr} {j:Nat},xs.length=i->(xs++[z])[j]?=some a->xs[j]?=some a\/(j=i/\a=z):=λ{xs z a j} hl e=>by
    by_cases hj:j<xs.length
    .rw[zB8 hj]at e;exact .inl e
    .have:=(zAa.mp e).1;rw[zA2]at this;have nE:j=i:=by simp at this;lia
     rw[nE,zB7 Zz,hl,Nat.sub_self]at e;cases e;exact .inr ⟨nE,rfl⟩
   refine KG _ _ ⟨_,_,_,a1++[D4],a2++[D8],rfl,λb o x1 x2 e=>kf b o x1 x2 (kp _ _ x1 x2 e),?_,by rw[zA2,nX];rfl,λj a e=>?_,?_,by rw[zA2,yn];rfl,λj a e=>?_⟩
   .rw[az Pf,zA4];exact s9 _ _ f6
   .rcases snoc nX e with z|⟨rfl,rfl⟩
    .obtain⟨q1,q2,q3⟩:=g1 j a z;exact⟨q1,q2,kf _ _ q1 q2 q3⟩
    .exact⟨Pg,Ph,by rw[az Ph];exact s9 _ _ e6⟩
   .rw[aj,zA4];rfl
   .rcases snoc yn e with z|⟨rfl,rfl⟩
    .obtain⟨q1,q2,q3⟩:=g2 j a z;exact⟨q1,q2,kf _ _ q1 q2 q3⟩
    .exact⟨Sj,Pk,by rw[az Pk];exact e9⟩
  .rintro σ Hc ⟨x5,x6,x7,a1,a2,rfl,kp,f1,nX,g1,f2,yn,g2⟩;dsimp only;refine ir ?_;refine⟨_,rfl,_,rfl,zL,λt ht=>?_⟩;have u3:=Same.upd (o:=.tup [.ref l1,.ref l2]) ht;refine q t l1 a1 l2 a2 _ (λb o e=>u3 _ _ (kp _ _ (aA e (s1.free n1)) (aA e (s1.free n2)) (u2 _ _ (s1 _ _ e)))) aj ⟨u3 _ _ f1,?_,λj a e=>u3 _ _ (g1 j a e).2.2⟩ ⟨u3 _ _ f2,?_,λj a e=>u3 _ _ (g2 j a e).2.2⟩
   .rw[nX];unfold gq;rw[zA1,Zad];rfl
   .rw[yn];unfold gr;rw[zA1,Zad];rfl
theorem Fi{J:It}{g:TG}{tm:TM}{cE:St}{H0:Hp}{D1:List V}{Fin:List V->St->Hp->Prop}(n:Nat)(Pv:Nat->List V->St->Hp->Prop)(h0:Pv 0 D1 cE H0)(hz:∀i ys σ H,i<=n->Pv i ys σ H->ys.length<sizeLine)
  (step:∀i ys σ H,i<n->Pv i ys σ H->J.go i H/\∀x H',J.yld i H x H'->∀R:List V->St->Hp->Prop,(∀cK aS H4,Pv (i+1) cK aS H4->R cK aS H4)->g x σ H' λaS H2=>tm ys aS H2 λcK av H4=>R cK av H4)
  (fin:∀ys σ H,Pv n ys σ H->J.stop n H/\Fin ys σ H):uF J g sO tm Fin D1 cE H0:=by
 refine⟨λi m ys σ H=>m=n-i/\i<=n/\Pv i ys σ H,⟨_,rfl,zAp _,h0⟩,?_⟩;rintro i m ys σ H ⟨rfl,hi,p⟩;refine⟨hz i ys σ H hi p,?_⟩;by_cases aI:i<n
 .obtain⟨go,st⟩:=step i ys σ H aI p;exact .inr ⟨go,λx H' y=>st x H' y _ λcK aS H4 p2=>⟨n-(i+1),Zz,rfl,aI,p2⟩⟩
 .have e:i=n:=Zz
  subst e;exact .inl (fin ys σ H p)
def ppI(n i:Nat):PP:=[((i / (n*n):Nat):Int),((i / n % n:Nat):Int),((i % n:Nat):Int)]
theorem uq{n a b c:Nat}(hb:b<n)(hc:c<n):ppI n ((a*n+b)*n+c)=[(a:Int),(b:Int),(c:Int)]:=by
 have hn:0<n:=Zz
 have e1:((a*n+b)*n+c) / n=a*n+b:=by rw[Nat.add_comm,Nat.mul_comm,Nat.add_mul_div_left _ _ hn,Nat.div_eq_of_lt hc,Nat.zero_add]
 have e2:(a*n+b) % n=b:=by rw[Nat.add_comm,Nat.add_mul_mod_self_right,Nat.mod_eq_of_lt hb]
 have e3:(a*n+b) / n=a:=by rw[Nat.add_comm,Nat.mul_comm,Nat.add_mul_div_left _ _ hn,Nat.div_eq_of_lt hb,Nat.zero_add]
 have e4:((a*n+b)*n+c) % n=c:=by rw[Nat.add_comm,Nat.add_mul_mod_self_right,Nat.mod_eq_of_lt hc]
 unfold ppI;rw[<-Nat.div_div_eq_div_mul,e1,e3,e2,e4]
def M6(n j:Nat)(as:List Addr)(H:Hp):Prop:=as.length=j/\∀i a,as[i]?=some a->H a=some (.tup ((ppI n i).map V.int))
inductive SpPapersI(vs:List V)(H:Hp)(Q:VK):Prop
 |mk:∀y:Nat,(vs=[.int y])->(y<=98)->(∀L as H',Same H H'->H' L=some (.lst (as.map V.ref))->M6 (y+2) ((y+2)*(y+2)*(y+2)) as H'->Q (.ref L) H')->SpPapersI  vs H Q
def vX:Sp:=λvs H Q _=>SpPapersI  vs H Q
theorem JS:(["best","middle","least","year"]:List Str).Nodup:=by decide +kernel
theorem NB:FnScope ["year"] ["year"] (aJ (top 59)):=fQS
theorem Bt(F:Fun K "papers_for" "papers_for" (top 59) f fd)(Tr:mg "range"=none):FnOk P w K mg base CX0 1 f fd ["year"] vX:=by
 refine F.ok NB (λvs H Q E h=>?_) (λay A outer s H vs Q E hr h=>?_)
 .obtain⟨y,rfl,_⟩:=h;rfl
 .obtain⟨y,rfl,hy,q⟩:=h
  refine⟨_,aG (aW (CZ ["best","middle","least","year"] [none,none,none,some 0] rfl (bu rfl Tr (au (aU bw (pv 0) aB) ao)) (λit D env=>xZ rfl rfl)
   (λC fp Zt s₂ H₂=>⟨pgn 0 JS,bx,λD ap=>BZ rfl rfl ap rfl (λit=>xZ rfl rfl) (bu rfl Tr (au (aU bw (pv 3) aB) ao)) (pgn 1 JS) bx
    (BZ rfl rfl ap rfl (λit=>lA rfl rfl) (bu rfl Tr (au (aU bw (pv 3) aB) ao)) (pgn 2 JS) bx (wH ap rfl (bO (au (pv 0) (au (pv 1) (au (pv 2) ao))))))⟩)
   (λC=>cI trivial) ⟨rfl,rfl,rfl,rfl⟩)),?_⟩
  refine ir ?_;have hn:((y:Int)+2).toNat=y+2:=Zz
  have big:(y+2)*(y+2)*(y+2)<=1000000:=Zak (Nat.mul_le_mul (Nat.mul_le_mul (show y+2<=100 by lia) (show y+2<=100 by lia)) (show y+2<=100 by lia)) Zx;generalize hN:y+2=n at q hn big;have KL:((y:Int)+2).toNat=n:=Zz
  let Pv:Nat->List V->Hp->Prop:=λj ys Hc=>Same H Hc/\∃as,ys=as.map V.ref/\M6 n j as Hc
  have hz:∀j ys Hc,j<=n*n*n->Pv j ys Hc->ys.length<sizeLine:=λj ys Hc hj p=>by
   obtain⟨_,as,rfl,hl,_⟩:=p;rw[zA1,hl,sizeLine_eq];lia
  have Sk:∀{a b c:Nat},a<n->b<n->c<=n->(a*n+b)*n+c<=n*n*n:=λ{a b c} ha hb hc=>by
   have h1:a*n+b+1<=n*n:=by
    have:=Zal n (show a+1<=n from ha);rw[Nat.add_mul,Nat.one_mul]at this;lia
   have h2:=Zal n h1;rw[Nat.add_mul,Nat.one_mul]at h2;lia
  refine⟨_,rfl,_,_,rfl,rfl,(y:Int)+2,rfl,Zz,Zz,?_⟩;rw[KL];refine Fi n (λa ys σ Hc=>(∃o1 o2 o3,σ=[o1,o2,o3,some (.int y)])/\Pv (a*n*n) ys Hc) ⟨⟨_,_,_,rfl⟩,Same.refl H,[],rfl,by rw[Nat.zero_mul,Nat.zero_mul];rfl,λi a e=>by simp at e⟩ (λa ys σ Hc ha p=>hz _ _ _ (Zal n (Zal n ha)) p.2) ?_ ?_
  .rintro a ys σ Hc ha ⟨⟨o1,o2,o3,rfl⟩,p⟩;refine⟨ha,λv H' y' R hR=>?_⟩;obtain⟨eH,rfl⟩:=y';subst H';refine aD ?_;refine⟨_,rfl,_,_,rfl,rfl,(y:Int)+2,rfl,Zz,Zz,?_⟩;rw[KL];refine Fi n (λb ys σ Hc=>(∃o2 o3,σ=[some (.int (0+(a:Int))),o2,o3,some (.int y)])/\Pv ((a*n+b)*n) ys Hc) ⟨⟨_,_,rfl⟩,p⟩ (λb ys σ Hc hb p=>hz _ _ _ ?_ p.2) ?_ ?_
   .have h1:=Zal n (show a+1<=n from ha);rw[Nat.add_mul,Nat.one_mul]at h1;exact Zal n Zz
   .rintro b ys σ Hc hb ⟨⟨o2,o3,rfl⟩,p⟩;refine⟨hb,λv H' y' R hR=>?_⟩;obtain⟨eH,rfl⟩:=y';subst H';refine aD ?_;refine⟨_,rfl,_,_,rfl,rfl,(y:Int)+2,rfl,Zz,Zz,?_⟩;rw[KL];refine Fi n (λc ys σ Hc=>(∃o3,σ=[some (.int (0+(a:Int))),some (.int (0+(b:Int))),o3,some (.int y)])/\Pv ((a*n+b)*n+c) ys Hc) ⟨⟨_,rfl⟩,p⟩ (λc ys σ Hc hc p=>hz _ _ _ (Sk ha hb hc) p.2) ?_ ?_
    .rintro c ys σ Hc hc ⟨⟨o3,rfl⟩,s1,as,rfl,l1,g1⟩;refine⟨hc,λv H' y' R hR=>?_⟩;obtain⟨eH,rfl⟩:=y';subst H';refine aD ?_;refine⟨_,rfl,_,rfl,_,rfl,by simp[sizeLine_eq],λt ht=>hR _ _ _ ⟨⟨_,rfl⟩,s1.updR ht,as++[t],by rw[zA4];rfl,?_⟩⟩;refine⟨by rw[zA2,l1];rfl,λi z e=>?_⟩;rcases Nat.lt_or_ge i as.length with hi|hi
     .rw[zB8 hi]at e;have:=g1 i z e;rw[az (aA this ht)];exact this
     .rw[zB7 hi]at e
      have Sl:i=as.length:=by
       have:=zAa.mp e;obtain⟨h1,_⟩:=this;simp at h1;lia
      subst Sl;rw[Nat.sub_self]at e;cases e;rw[aj,l1,uq hb hc];simp only[Int.zero_add];rfl
    .rintro ys σ Hc ⟨⟨o3,rfl⟩,p⟩;refine⟨zA3 _,hR _ _ _ ⟨⟨_,_,rfl⟩,?_⟩⟩;rw[show(a*n+(b+1))*n=(a*n+b)*n+n by rw[<-Nat.add_assoc,Nat.add_mul _ 1,Nat.one_mul]];exact p
   .rintro ys σ Hc ⟨⟨o2,o3,rfl⟩,p⟩;refine⟨zA3 _,hR _ _ _ ⟨⟨_,_,_,rfl⟩,?_⟩⟩;rw[show(a+1)*n=a*n+n by rw[Nat.add_mul,Nat.one_mul]];exact p
  .rintro ys σ Hc ⟨_,s1,as,rfl,p⟩;refine⟨zA3 _,λD hD=>q D as _ (s1.updR hD) aj ⟨p.1,λi a e=>?_⟩⟩;have:=p.2 i a e;rw[az (aA this hD)];exact this
theorem BookAt.bko{bk ac:Addr}{xc:List V}{ap:Addr}{xp:List V}{ai:Addr}(b:BookAt H bk ac xc cs ap xp ps ai xs ss):BkO cs ps ss:=⟨b.okc,b.lp,b.un,b.h5,b.okp⟩
theorem Ik(B:BkO cs ps ss)(Y:Nat):∃a b c:Nat,a<=Y+1/\b<=Y+1/\c<=Y+1/\gw cs ps ss Y [(a:Int),(b:Int),(c:Int)]=aN (dz cs ps ss (Y+1)):=by
 obtain⟨t,t1,t2,t3⟩:=val_eq B (Y+1) 3 (zA3 _);rw[Hn,JR]at t3;have h0:=t2 0 Zx;have h1:=t2 1 Zx;have h2:=t2 2 Zx;have m1:t 0<=t 1:=t1 0 Zx;have m2:t 1<=t 2:=t1 1 Zx;refine⟨t 0,t 1,t 2,h0,h1,h2,?_⟩;have e2:mnL [((t 2:Nat):Int)]=(t 2:Nat):=rfl;have e1:mnL [((t 1:Nat):Int),((t 2:Nat):Int)]=(t 1:Nat):=zAx (by rw[e2];lia);have e0:mnL [((t 0:Nat):Int),((t 1:Nat):Int),((t 2:Nat):Int)]=(t 0:Nat):=zAx (by rw[e1];lia);show(tb (gq ps ss Y 3) 0 (t 0:Nat)+(tb (gq ps ss Y 3) 1 (t 1:Nat)+(tb (gq ps ss Y 3) 2 (t 2:Nat)+0)))-(tb (gr cs Y 3) 0 (mnL [((t 0:Nat):Int),((t 1:Nat):Int),((t 2:Nat):Int)])+(tb (gr cs Y 3) 1 (mnL [((t 1:Nat):Int),((t 2:Nat):Int)])+(tb (gr cs Y 3) 2 (mnL [((t 2:Nat):Int)])+0)))=_;rw[e0,e1,e2,Ff Zx Zz,Ff Zx Zz,Ff Zx Zz,Fg Zx Zz,Fg Zx Zz,Fg Zx Zz];unfold cS wS at t3;simp only[Int.toNat_natCast];lia
theorem Il{n i:Nat}(hi:i<(n+2)*(n+2)*(n+2)):Hr n (ppI (n+2) i):=by
 refine⟨rfl,λx hx=>?_⟩;have h1:i / ((n+2)*(n+2))<n+2:=Nat.div_lt_of_lt_mul hi;have h2:i / (n+2) % (n+2)<n+2:=Nat.mod_lt _ Zz;have h3:i % (n+2)<n+2:=Nat.mod_lt _ Zz;unfold ppI at hx;rcases zAo.mp hx with z|z
 .rw[z];exact⟨Int.natCast_nonneg _,Zz⟩
 rcases zAo.mp z with z|z
 .rw[z];exact⟨Int.natCast_nonneg _,Zz⟩
 .rw[Zae.mp z];exact⟨Int.natCast_nonneg _,Zz⟩
theorem Fj{a b c:Nat}(ha:a<m)(hb:b<m)(hc:c<m):(a*m+b)*m+c<m*m*m:=by
 have h1:a*m+b+1<=m*m:=by
  have:=Zal m (show a+1<=m from ha);rw[Nat.add_mul,Nat.one_mul]at this;lia
 have h2:=Zal m h1;rw[Nat.add_mul,Nat.one_mul]at h2;lia
inductive SpPOfI(vs:List V)(H:Hp)(Q:VK):Prop
 |mk:∀S bk y d ac xc cs ap xp ps ai xs ss,(vs=[.ref bk,.int y])->(IsTh S H (.ref bk) d)->(sz d<=4000)->(mG d=true)->(BookAt H bk ac xc cs ap xp ps ai xs ss)->(0<=y)->(y<cs.length)->(∀t j H',Same H H'->H' t=some (.tup ((ppI (y.toNat+2) j).map V.int))->j<(y.toNat+2)*(y.toNat+2)*(y.toNat+2)->gw cs ps ss y.toNat (ppI (y.toNat+2) j)=aN (dz cs ps ss (y.toNat+1))->(∀k,k<j->gw cs ps ss y.toNat (ppI (y.toNat+2) k)≠aN (dz cs ps ss (y.toNat+1)))->Q (.ref t) H')->SpPOfI  vs H Q
def Im:Sp:=λvs H Q _=>SpPOfI  vs H Q
theorem NK:(["paper","lack","claimed","wool"]:List Str).Nodup:=by decide +kernel
theorem scPG:FnScope ["book","year","lack","claimed","wool"] ["book","year"] (aJ (top 61)):=fQS
theorem JT(F:Fun K "paper_of" "paper_of" (top 61) f fd)(c1:Cal P w K mg base 12 "lack_by" ["book","year"] (Hh Ih))(c3:Cal P w K mg base 3 "claimed_since" ["book","year"] (Bo JM))(c4:Cal P w K mg base 2 "wool_since" ["book","year"] (Bo JN))(c5:Cal P w K mg base 1 "shown" ["claimed","wool","paper"] zr)(c6:Cal P w K mg base 1 "papers_for" ["year"] vX):FnOk P w K mg base CX0 13 f fd ["book","year"] Im:=by
 refine F.ok scPG (λvs H Q E h=>?_) (λay A outer s H vs Q E hr h=>?_)
 .obtain⟨S,bk,y,d,ac,xc,cs,ap,xp,ps,ai,xs,ss,rfl,_⟩:=h;rfl
 .obtain⟨S,bk,y,d,ac,xc,cs,ap,xp,ps,ai,xs,ss,rfl,th,hz,hb,B,y0,y1,q⟩:=h
  refine⟨_,aC (gY (i:=2) scPG.nd rfl (Or.inr rfl) (aK c1 hr (au (pv 0) (au (pv 1) ao))))
   (aC (gY (i:=3) scPG.nd rfl (Or.inr rfl) (aK c3 hr (au (pv 0) (au (pv 1) ao))))
   (aC (gY (i:=4) scPG.nd rfl (Or.inr rfl) (aK c4 hr (au (pv 0) (au (pv 1) ao))))
   (aG (aW (pX (gj (K:=K) rfl) (bB ["paper","lack","claimed","wool"] [none,some 2,some 3,some 4] rfl (K41P.pi_listK (K:=K) rfl (aK c6 hr (au (pv 1) ao)))
    (λC fp Zt s₂ H₂=>⟨pgn 0 NK,fP (bT jH (aK c5 hr (au (pv 2) (au (pv 3) (au (pv 0) ao)))) (pv 1) (bQ _)),pv 0⟩)
    (λC=>cI (cI (cI trivial))) ⟨rfl,rfl,rfl,rfl⟩) aB))))),?_⟩
  refine aP λc_ af=>?_;refine aY ?_;refine⟨_,rfl,_,rfl,S,bk,y,d,ac,xc,cs,ap,xp,ps,ai,xs,ss,rfl,th,hz,hb,B,y0,y1,λH1 s1=>?_⟩;refine aD (dJ ?_);refine af _ _ ?_;clear af c_
  try dsimp only
  refine aP λc_ af=>?_;refine aY ?_;refine⟨_,rfl,_,rfl,bk,y,ac,xc,cs,ap,xp,ps,ai,xs,ss,rfl,B.same s1,y0,y1,λL1 a1 H2 s2 tC=>?_⟩;refine aD (dJ ?_);refine af _ _ ?_;clear af c_
  try dsimp only
  refine aP λc_ af=>?_;refine aY ?_;refine⟨_,rfl,_,rfl,bk,y,ac,xc,cs,ap,xp,ps,ai,xs,ss,rfl,(B.same s1).same s2,y0,y1,λL2 a2 H3 s3 tW=>?_⟩;refine aD (dJ ?_);refine af _ _ ?_;clear af c_
  try dsimp only
  refine ir ?_
  obtain⟨n,rfl⟩:∃n:Nat,y=n:=⟨y.toNat,Zz⟩
  have lc:=B.lc;refine⟨_,rfl,n,rfl,Zz,λL as H4 s4 eL pp=>⟨L,rfl,⟨_,SqL.of eL⟩,?_⟩⟩;have big:(n+2)*(n+2)*(n+2)<=1000000:=Zak (Nat.mul_le_mul (Nat.mul_le_mul (show n+2<=100 by lia) (show n+2<=100 by lia)) (show n+2<=100 by lia)) Zx;rw[zAi]at tC tW q⊢;generalize jS:aN (dz cs ps ss (n+1))=lk at q⊢
  refine eF ((n+2)*(n+2)*(n+2)) (λi ys σ Hc=>Same H4 Hc/\(∃o1,σ=[o1,some (.int lk),some (.ref L1),some (.ref L2)])/\(∀v r,ys=v::r->∃j a,v=V.ref a/\as[j]?=some a/\j<(n+2)*(n+2)*(n+2)/\gw cs ps ss n (ppI (n+2) j)=lk/\∀k,k<j->gw cs ps ss n (ppI (n+2) k)≠lk)/\(ys=[]->∀j,j<i->gw cs ps ss n (ppI (n+2) j)≠lk))
   ⟨Same.refl _,⟨_,rfl⟩,λv r e=>(by cases e),λ_ j hj=>absurd hj Zz⟩ Zu ?_ ?_
  .rintro i ys σ Hc hi hy ⟨s5,⟨o1,rfl⟩,g1,g2⟩;have EX:i<as.length:=by rw[pp.1];exact hi
   have Pl:=s5 _ _ eL;refine⟨⟨_,.ref as[i],SqL.of Pl,by rw[zAb,zA0 EX];rfl⟩,λx H' y' R hR=>?_⟩;obtain⟨eH,hx⟩:=y';subst H';have hx:=hx _ (SqL.of Pl);rw[zAb,zA0 EX]at hx;cases hx;refine aD ?_;have ea:=s5 _ _ (pp.2 i as[i] (zA0 EX));have Pm:=s4.trans s5;refine⟨_,rfl,_,rfl,_,rfl,L1,a1,_,L2,a2,_,as[i],_,n,rfl,tC.same (s3.trans Pm),tW.same Pm,by unfold gq;rw[zA1,Zad],by unfold gr;rw[zA1,Zad],λr hr=>?_,λr hr=>?_,ea,?_,λH6 s6=>⟨_,rfl,rfl,_,rfl,?_⟩⟩
   .obtain⟨k,_,rfl⟩:=zA5.mp hr;rw[kZ];unfold clT;rw[zA1,Zad];lia
   .obtain⟨k,_,rfl⟩:=zA5.mp hr;rw[kZ];unfold wlT;rw[zA1,Zad];lia
   .exact Il hi
   .dsimp only;by_cases e:gw cs ps ss n (ppI (n+2) i)=lk
    .rw[zAx (by rw[mX];exact beq_iff_eq.mpr e)];refine⟨_,rfl,hR _ _ _ (by rw[zA2];exact Nat.succ_le_succ hy) ⟨s5.trans s6,⟨_,rfl⟩,λv r er=>?_,λz=>absurd z Zy⟩⟩
     cases ys with
     |nil=>
      cases er;exact⟨i,as[i],rfl,zA0 EX,hi,e,g2 rfl⟩
     |cons v' r'=>
      have ev:v'=v:=(List.cons.inj er).1;subst ev;exact g1 v' r' rfl
    .rw[zAw (by rw[mX];exact λz=>e (beq_iff_eq.mp z))];refine hR _ _ _ Zz ⟨s5.trans s6,⟨_,rfl⟩,g1,λz j hj=>?_⟩;rcases Nat.lt_or_ge j i with w|w
     .exact g2 z j w
     .have:j=i:=Zz
      subst this;exact e
  .rintro ys σ Hc hy ⟨s5,_,g1,g2⟩;refine⟨⟨_,SqL.of (s5 _ _ eL),by rw[zA1,pp.1];exact zA3 _⟩,λD hD=>?_⟩;obtain⟨a,b,c,ha,hb,hc,e⟩:=Ik B.bko n;rw[jS]at e
   cases ys with
   |nil=>exact absurd e (by rw[<-uq (n:=n+2) Zz Zz];exact g2 rfl ((a*(n+2)+b)*(n+2)+c) (Fj Zz Zz Zz))
   |cons v r=>
    obtain⟨j,t,rfl,ej,hj,eq,ft⟩:=g1 v r rfl;have s6:=s5.updR (o:=.lst (V.ref t::r)) hD;exact⟨D,_,_,_,rfl,rfl,SqL.of aj,cB (j:=0) rfl,q t j _ ((((s1.trans s2).trans s3).trans s4).trans s6) (s6 _ _ (pp.2 j t ej)) hj eq ft⟩
theorem jE{l:Addr}{C:PK}{i:Int}(T:TbAt H l as C)(hs:s<C.length)(h0:0<=i)(hi:i<(C.getD s []).length):∃a,atI (as.map V.ref) (s:Int)=some (.ref a)/\H a=some (.lst ((C.getD s []).map V.int))/\atI ((C.getD s []).map V.int) i=some (.int (tb C s i)):=by
 have hl:s<as.length:=by rw[T.l];exact hs
 refine⟨as[s],cB (by rw[zAb,zA0 hl];rfl),T.g s _ (zA0 hl),?_⟩;have:=cB (xs:=(C.getD s []).map V.int) (j:=i.toNat) (fj Zz);rw[show((i.toNat:Nat):Int)=i by lia]at this;exact this
theorem Fl{t:TS}{D:Ends}{N:L2.St->Hp->Prop}{σ:L2.St}(h:∀D':Ends,(∀σ H,N σ H->D'.nx σ H)->(∀v H,D.rt v H->D'.rt v H)->t D' σ H):t {D with nx:=N,ct:=N,bk:=D.nx} σ H:=h _ (λ_ _ z=>z) λ_ _ z=>z
inductive SpFstI(vs:List V)(H:Hp)(Q:VK):Prop
 |mk:∀bk y d ac xc cs ap xp ps ai xs ss,(vs=[.ref bk,.int y,.int d])->(BookAt H bk ac xc cs ap xp ps ai xs ss)->(0<=y)->(y<cs.length)->((∀t j H',Same H H'->H' t=some (.tup ((ppI (y.toNat+2) j).map V.int))->j<(y.toNat+2)*(y.toNat+2)*(y.toNat+2)->gw cs ps ss y.toNat (ppI (y.toNat+2) j)=d->(∀k,k<j->gw cs ps ss y.toNat (ppI (y.toNat+2) k)≠d)->Q (.ref t) H'))->(∀H',Same H H'->(∀k,k<(y.toNat+2)*(y.toNat+2)*(y.toNat+2)->gw cs ps ss y.toNat (ppI (y.toNat+2) k)≠d)->Q .non H')->SpFstI  vs H Q
def Ip:Sp:=λvs H Q _=>SpFstI  vs H Q
theorem Fo{C W:PK}{a b c:Nat}{M N:Int}(hM:M=if(c:Int)<b then(c:Int)else b)(h1:N∈[(a:Int),(b:Int),(c:Int)])(h2:∀x∈[(a:Int),(b:Int),(c:Int)],N<=x):tb C 0 a+tb C 1 b-tb W 2 c+tb C 2 c-tb W 1 M-tb W 0 N=shV C W [(a:Int),(b:Int),(c:Int)]:=by
 have e0:=xR h1 h2
 have e1:M=mnL [(b:Int),(c:Int)]:=xR (by rw[hM];split<;>simp) λx hx=>by
  rw[hM];simp only[List.mem_cons,List.not_mem_nil,or_false]at hx;rcases hx with rfl|rfl<;>split<;>lia
 show _=(tb C 0 a+(tb C 1 b+(tb C 2 c+0)))-(tb W 0 (mnL [(a:Int),(b:Int),(c:Int)])+(tb W 1 (mnL [(b:Int),(c:Int)])+(tb W 2 (mnL [(c:Int)])+0)));rw[<-e0,<-e1,show mnL [(c:Int)]=(c:Int)from rfl];lia
theorem lU:bootBuiltins "min"=some (.builtin "min"):=by decide +kernel
theorem scFI:FnScope [Yw,Yt,Za,"_law_claims_here","_law_wool",Y6,"_law_two","_law_three","_law_worth"] [Yw,Yt,Za] (aJ (top 81)):=fQS
theorem JV(F:Fun K "_law_first" "_law_first" (top 81) f fd)(Tr:mg "range"=none)(Tn:mg "min"=none)(c1:Cal P w K mg base 3 "_law_tables" [Yw,Yt] Ij):FnOk P w K mg base CX0 4 f fd [Yw,Yt,Za] Ip:=by
 refine F.ok scFI (λvs H Q E h=>?_) (λay A outer s H vs Q E hr h=>?_)
 .obtain⟨bk,y,d,ac,xc,cs,ap,xp,ps,ai,xs,ss,rfl,_⟩:=h;rfl
 .obtain⟨bk,y,d,ac,xc,cs,ap,xp,ps,ai,xs,ss,rfl,B,y0,y1,q1,q2⟩:=h
  refine K41P.ok_b (aR ⟨cH (aK c1 hr (au (pv 0) (au (pv 1) ao))) (bG rfl (aq (pgn 3 scFI.nd) (aq (pgn 4 scFI.nd) bf)))⟩
   (aR ⟨bU zB3 rfl (bu rfl Tr (au (aU bw (pv 1) aB) ao)) (pgn 5 scFI.nd)
    (iT (cO ⟨bU zB3 rfl (bu rfl Tr (au (aU bw (pv 1) aB) ao)) (pgn 6 scFI.nd)
     (iT (cO ⟨bU zB3 rfl (bu rfl Tr (au (aU bw (pv 1) aB) ao)) (pgn 7 scFI.nd)
      (iT (aR (gR 8 scFI.nd ⟨aU d8 (aU bw (pX bA (pX bA (pv 3) aB) (pv 5)) (pX bA (pX bA (pv 3) aB) (pv 6))) (pX bA (pX bA (pv 4) aB) (pv 7))⟩)
      (aR (gR 8 scFI.nd ⟨aU d8 (aU bw (pv 8) (pX bA (pX bA (pv 3) aB) (pv 7))) (pX bA (pX bA (pv 4) aB) (aM (fX rfl) rfl Tn lU (au (pv 6) (au (pv 7) ao))))⟩)
      (cO ⟨dh (bT jH (aU d8 (pv 8) (pX bA (pX bA (pv 4) aB) (aM (Ao rfl) rfl Tn lU (au (pv 5) (au (pv 6) (au (pv 7) ao)))))) (pv 2) (bQ _)) (aG (aW (bO (au (pv 5) (au (pv 6) (au (pv 7) ao)))))) bN⟩))))⟩))⟩))⟩
   (cO (lH ⟨lq⟩)))) ?_
  obtain⟨n,rfl⟩:∃n:Nat,y=n:=⟨y.toNat,Zz⟩
  rw[zAi]at q1 q2;have hn:n<20:=by have:=B.lc;lia
  refine aP λc_ af=>?_;refine⟨_,rfl,_,rfl,bk,n,ac,xc,cs,ap,xp,ps,ai,xs,ss,rfl,B,y0,y1,λt l1 a1 l2 a2 H1 s1 et T1 T2=>?_⟩;rw[zAi]at T1 T2;refine⟨t,_,rfl,SqT.of et,rfl,_,_,rfl,_,_,rfl,rfl,?_⟩;refine af _ _ ?_;clear af c_
  try dsimp only
  have lC:∀s,s<3->((gq ps ss n 3).getD s []).length=n+2:=λs hs=>by
   have:(gq ps ss n 3).getD s []=eV (clT ps ss n s):=by
    unfold gq;rw[zA7,zAb,Zap hs];rfl
   rw[this,kZ];unfold clT;rw[zA1,Zad]
  have lW:∀s,s<3->((gr cs n 3).getD s []).length=n+2:=λs hs=>by
   have:(gr cs n 3).getD s []=eV (wlT cs n s):=by
    unfold gr;rw[zA7,zAb,Zap hs];rfl
   rw[this,kZ];unfold wlT;rw[zA1,Zad]
  have l3:(gq ps ss n 3).length=3:=by unfold gq;rw[zA1,Zad]
  have w3:(gr cs n 3).length=3:=by unfold gr;rw[zA1,Zad]
  have eS:∀p,gw cs ps ss n p=shV (gq ps ss n 3) (gr cs n 3) p:=λ_=>rfl;simp only[eS]at q1 q2;generalize gq ps ss n 3=C at T1 lC l3 q1 q2;generalize gr cs n 3=W at T2 lW w3 q1 q2
  obtain⟨m,hm⟩:∃m,m=n+2:=⟨_,rfl⟩
  rw[<-hm]at q1 q2 lC lW;refine aQ ?_;refine⟨_,rfl,_,_,rfl,rfl,(m:Int),by rw[hm];rfl,Zz,Zz,?_⟩;refine cj (lo:=0) (λa σ Hc=>Xe4 λx5 x6 x7 x8=>Xa3 (σ=[some (.ref bk),some (.int n),some (.int d),some (.ref l1),some (.ref l2),x5,x6,x7,x8]) (Same H1 Hc) (∀k,k<a*m*m->shV C W (ppI m k)≠d)) ?_ ?_ ?_
  .exact⟨none,none,none,none,rfl,Same.refl _,λk hk=>absurd hk Zy⟩
  .rintro a σ Ha ha ⟨x5,x6,x7,x8,rfl,sa,fa⟩;have ha:a<m:=Zz
   refine aD ?_;refine Fl λDa na ra=>?_;refine⟨_,rfl,_,_,rfl,rfl,(m:Int),by rw[hm];rfl,Zz,Zz,?_⟩;refine cj (lo:=0) (λb σ Hc=>Xe3 λx6 x7 x8=>Xa3 (σ=[some (.ref bk),some (.int n),some (.int d),some (.ref l1),some (.ref l2),some (.int (0+(a:Int))),x6,x7,x8]) (Same H1 Hc) (∀k,k<(a*m+b)*m->shV C W (ppI m k)≠d)) ?_ ?_ ?_
   .exact⟨_,_,_,rfl,sa,λk hk=>fa k (by simpa using hk)⟩
   .rintro b σ Hb hb ⟨x6,x7,x8,rfl,sb,fb⟩;have hb:b<m:=Zz
    refine aD ?_;refine Fl λDb nb rb=>?_;refine⟨_,rfl,_,_,rfl,rfl,(m:Int),by rw[hm];rfl,Zz,Zz,?_⟩;refine cj (lo:=0) (λc σ Hc=>∃x7 x8,σ=[some (.ref bk),some (.int n),some (.int d),some (.ref l1),some (.ref l2),some (.int (0+(a:Int))),some (.int (0+(b:Int))),x7,x8]/\Same H1 Hc/\∀k,k<(a*m+b)*m+c->shV C W (ppI m k)≠d) ?_ ?_ ?_
    .exact⟨_,_,rfl,sb,fb⟩
    .rintro c σ Hc hc ⟨x7,x8,rfl,sc,fc⟩;have hc:c<m:=Zz
     refine aD ?_;refine Fl λDc nc rc=>?_;have U1:=T1.same sc;have U2:=T2.same sc
     have KO:∀s,s<3->s<C.length:=λs h=>by rw[l3];exact h
     have EZ:∀s,s<3->s<W.length:=λs h=>by rw[w3];exact h
     obtain⟨p0,i0,h0,v0⟩:=jE (i:=0+(a:Int)) U1 (KO 0 Zx) Zz (by rw[lC 0 Zx];lia);obtain⟨p1,i1,h1,v1⟩:=jE (i:=0+(b:Int)) U1 (KO 1 Zx) Zz (by rw[lC 1 Zx];lia);obtain⟨p2,i2,h2,v2⟩:=jE (i:=0+(c:Int)) U1 (KO 2 Zx) Zz (by rw[lC 2 Zx];lia);obtain⟨r2,j2,g2,u2⟩:=jE (i:=0+(c:Int)) U2 (EZ 2 Zx) Zz (by rw[lW 2 Zx];lia);refine aP λc_ af=>?_;refine aY ?_;refine⟨_,rfl,l1,_,_,_,rfl,rfl,SqL.of U1.e,i0,_,rfl,p0,_,_,_,rfl,rfl,SqL.of h0,v0,_,rfl,l1,_,_,_,rfl,rfl,SqL.of U1.e,i1,_,rfl,p1,_,_,_,rfl,rfl,SqL.of h1,v1,_,_,rfl,rfl,_,rfl,l2,_,_,_,rfl,rfl,SqL.of U2.e,j2,_,rfl,r2,_,_,_,rfl,rfl,SqL.of g2,u2,_,_,rfl,rfl,aD ?_⟩;refine af _ _ ?_;clear af c_
     try dsimp only
     obtain⟨M,hM⟩:∃M:Int,M=if(0+(c:Int))<(0+(b:Int))then(0+(c:Int))else(0+(b:Int)):=⟨_,rfl⟩
     have M0:0<=M/\M<m:=by rw[hM];split<;>lia
     obtain⟨r1,j1,g1,u1⟩:=jE (i:=M) U2 (EZ 1 Zx) M0.1 (by rw[lW 1 Zx];lia);refine aP λc_ af=>?_;refine aY ?_;refine⟨_,rfl,_,rfl,l1,_,_,_,rfl,rfl,SqL.of U1.e,i2,_,rfl,p2,_,_,_,rfl,rfl,SqL.of h2,v2,_,_,rfl,rfl,_,rfl,l2,_,_,_,rfl,rfl,SqL.of U2.e,j1,_,rfl,_,rfl,_,_,rfl,r1,_,M,_,rfl,by rw[hM],SqL.of g1,u1,_,_,rfl,rfl,aD ?_⟩;refine af _ _ ?_;clear af c_
     try dsimp only
     obtain⟨r0,j0,g0,_⟩:=jE (i:=0) U2 (EZ 0 Zx) Zz (by rw[lW 0 Zx];lia);refine⟨_,rfl,_,rfl,l2,_,_,_,rfl,rfl,SqL.of U2.e,j0,_,rfl,_,rfl,_,rfl,_,_,_,rfl,λN N1 N2=>?_⟩
     have N0:0<=N/\N<m:=by
      simp only[List.mem_cons,List.not_mem_nil,or_false]at N1;rcases N1 with rfl|rfl|rfl<;>lia
     obtain⟨_,_,_,u0⟩:=jE (i:=N) U2 (EZ 0 Zx) N0.1 (by rw[lW 0 Zx];lia);refine⟨r0,_,N,_,rfl,rfl,SqL.of g0,u0,_,_,rfl,rfl,_,rfl,rfl,_,rfl,?_⟩;rw[Zas,Zas]at hM;rw[Zas,Zas,Zas]at N1 N2;have ew:=Fo (C:=C) (W:=W) hM N1 N2;have ep:=uq (a:=a) hb hc;rw[<-ep]at ew;refine BW (λz=>?_) (λz=>?_)
     .have zz:=zB6 z;injection zz with zz;simp only[Int.zero_add]at zz;rw[ew]at zz;refine⟨_,rfl,_,rfl,_,rfl,zL,λt2 nI=>?_⟩;refine rc _ _ (rb _ _ (ra _ _ ?_));refine q1 t2 ((a*m+b)*m+c) _ ((s1.trans sc).trans (Same.upd nI)) ?_ (by have:=Fj ha hb hc;exact this) zz fc;rw[ep,aj];simp only[Int.zero_add];rfl
     .refine nc _ _ ⟨_,_,rfl,sc,λk hk=>?_⟩;rcases Nat.lt_or_ge k ((a*m+b)*m+c)with z'|z'
      .exact fc k z'
      .have:k=(a*m+b)*m+c:=Zz
       rw[this,<-ew];intro e;refine z (zAt ?_);simp only[Int.zero_add];rw[e]
    .rintro σ Hc ⟨x7,x8,rfl,sc,fc⟩;refine nb _ _ ⟨_,_,_,rfl,sc,λk hk=>fc k ?_⟩;have e:(a*m+(b+1))*m=(a*m+b)*m+m:=by rw[<-Nat.add_assoc,Nat.add_mul,Nat.one_mul]
     lia
   .rintro σ Hc ⟨x6,x7,x8,rfl,sc,fc⟩;refine na _ _ ⟨_,_,_,_,rfl,sc,λk hk=>fc k ?_⟩;have e:(a+1)*m=a*m+m:=by rw[Nat.add_mul,Nat.one_mul]
    rw[e]at hk;exact hk
  .rintro σ Hc ⟨x5,x6,x7,x8,rfl,sc,fc⟩;dsimp only;exact q2 _ (s1.trans sc) λk hk=>fc k hk
structure TB(H:Hp)(bk ac:Addr)(xc:List V)(cs:PK)(ap:Addr)(xp:List V)(ps:PK)(ai:Addr)(xs:List V)(ss:PK):Prop where
 b:BookAt H bk ac xc cs ap xp ps ai xs ss
 okc:∀r∈cs,okC r
 lc1:1<=cs.length
section
variable{H H':Hp}{bk ac:Addr}{xc:List V}{cs:PK}{ap:Addr}{xp:List V}{ps:PK}{ai:Addr}{xs:List V}{ss:PK}
theorem TB.same(h:TB H bk ac xc cs ap xp ps ai xs ss)(s:Same H H'):TB H' bk ac xc cs ap xp ps ai xs ss:=⟨h.b.same s,h.okc,h.lc1⟩
theorem TB.bko(h:TB H bk ac xc cs ap xp ps ai xs ss):BkO cs ps ss:=⟨h.b.okc,h.b.lp,h.b.un,h.b.h5,h.b.okp⟩
theorem TB.th(h:TB H bk ac xc cs ap xp ps ai xs ss):IsTh (λ_=>False) H (.ref bk) (.tuple [cM cs,cM ps,cM ss]):=.tup h.b.e (.cons h.b.rc.th (.cons h.b.rp.th (.cons h.b.rs.th .nil)))
theorem TB.sz(h:TB H bk ac xc cs ap xp ps ai xs ss):L2.sz (.tuple [cM cs,cM ps,cM ss])<=4000:=by
 show 1+((1+szs (cs.map cX))+((1+szs (ps.map cX))+((1+szs (ss.map cX))+0)))<=4000;rw[kY (k:=3) λr hr=>(h.okc r hr).1,kY (k:=6) λr hr=>(h.b.okp r hr).1,kY (k:=5) h.b.h5];have:=h.b.lc;have:=h.b.lp;have:=h.b.ls;lia
theorem TB.ok(h:TB H bk ac xc cs ap xp ps ai xs ss):mG (.tuple [cM cs,cM ps,cM ss])=true:=Hl h.lc1 h.b.lc h.okc h.b.lp h.b.okp h.b.ls h.b.h5 h.b.un
end
inductive SpLawI(K:Frag)(vs:List V)(H:Hp)(Q:VK):Prop
 |mk:∀(a:Addr) (ns:PP),(vs=[.ref a])->(SqL K H a (ns.map V.int))->(ns.length<=63)->(∀H',Q (.bl true) H')->SpLawI K vs H Q
def zy(K:Frag):Sp:=λvs H Q _=>SpLawI K vs H Q
theorem Bu:bootBuiltins "max"=some (.builtin "max"):=by decide +kernel
theorem NQ:([Zf]:List Str).Nodup:=by decide +kernel
theorem scLI:FnScope [Yx,Zd,Ys,Yw,"_law_walk_here",Yt,Za] [Yx] (aJ (top 82)):=fQS
theorem JW(F:Fun K "law" "law" (top 82) f fd)(T:Mg mg)(Tr:mg "range"=none)(Tm:mg "max"=none)(Tn:mg "min"=none)(Ts:mg "sum"=none)
  (c1:Cal P w K mg base 2 "_law_state" [Yx,Zd] (yD K)) (c2:Cal P w K mg base 4 "_law_book" [Ys,Y9,Yy,Yu] zm) (c3:Cal P w K mg base 3 "_law_walk" [Zb,Yq,Yu] En) (c4:Cal P w K mg base 4 "_law_first" [Yw,Yt,Za] Ip) (c5:Cal P w K mg base 13 "paper_of" ["book","year"] Im) (c6:Cal P w K mg base 61 "_law_same" [Y4,Za] Di):FnOk P w K mg base CX0 63 f fd [Yx] (zy K):=by
 refine F.ok scLI (λvs H Q E h=>?_) (λay A outer s H vs Q E hr h=>?_)
 .obtain⟨a,ns,rfl,_⟩:=h;rfl
 .obtain⟨a,ns,rfl,hS,hl,q⟩:=h
  refine K41P.ok_b (aR ⟨bU zB3 rfl (bu rfl Tr (au (aM (qF rfl) rfl Tm Bu (au aB (au (aM (fX rfl) rfl Tn lU (au (aM bY rfl T.len PySem.boot_len (au (pv 0) ao)) (au aB ao))) ao))) ao)) (pgn 1 scLI.nd)
   (iT (aR (gR 2 scLI.nd ⟨aK c1 hr (au (pv 0) (au (pv 1) ao))⟩)
   (aR (gR 3 scLI.nd ⟨aK c2 hr (au (pv 2) (au aB (au aB (au aB ao))))⟩)
   (aR (gR 4 scLI.nd ⟨aK c3 hr (au (pX bR (pv 3) aB) (au (pX bR (pv 3) aB) (au (pX bR (pv 3) aB) ao)))⟩)
   (cO ⟨bU zB3 rfl (bu rfl Tr (au (aM bY rfl T.len PySem.boot_len (au (pX bR (pv 3) aB) ao)) ao)) (pgn 5 scLI.nd)
    (iT (aR (gR 6 scLI.nd ⟨aK c4 hr (au (pv 3) (au (pv 5) (au (aM (cu rfl) rfl Ts boot_sum (au (bB [Zf] [none] rfl (di (pX bR (pX bA (pv 4) (pv 5)) aB)) (λC fp Zt s₂ H₂=>⟨pgn 0 NQ,bx,pX (K41P.ix_tupK (K:=K) rfl) (pv 0) aB⟩) (λC=>trivial) ⟨rfl,rfl,rfl,rfl⟩) ao)) ao)))⟩)
    (cO ⟨dh (PW.pt (uw (bT wy (pv 6) lq (bQ _)) (vY (cW (fG (aK c6 hr (au (aK c5 hr (au (pv 3) (au (pv 5) ao))) (au (pv 6) ao)))))))) (aG (aW lV)) bN⟩)))⟩)))))⟩
   (cO (lH Kr))) ?_
  refine aQ ?_;have nL:(ns.map V.int).length<=63:=by rw[zA1];exact hl
  refine⟨_,rfl,a,_,rfl,.inl hS,_,_,rfl,_,_,rfl,_,rfl,?_,?_,?_⟩
  .split<;>split<;>lia
  .split<;>split<;>lia
  refine cj (lo:=0) (λi σ Hc=>Xe6 λx1 x2 x3 x4 x5 x6=>Xa2 (σ=[some (.ref a),x1,x2,x3,x4,x5,x6]) (Same H Hc)) ?_ ?_ ?_
  .exact⟨none,none,none,none,none,none,rfl,Same.refl H⟩
  .rintro i σ H1 hi ⟨x1,x2,x3,x4,x5,x6,rfl,s1⟩;refine aD ?_;refine vm λDe KG=>?_;refine aP λc_ af=>?_;refine aY ?_;refine⟨_,rfl,_,rfl,a,ns,_,rfl,s1.seq hS,Zz,λst x y hn HG Sn xw=>?_⟩;have C4:H st=none:=s1.free hn
   have g1:jY (upd H1 st (.lst [.int x,.int y])) st:=⟨x,y,aj,HG,Sn,xw⟩
   have s2:Same H (upd H1 st (.lst [.int x,.int y])):=s1.updR hn;generalize upd H1 st (.lst [.int x,.int y])=H2 at g1 s2⊢;refine aD ?_;refine af _ _ ?_;clear af c_
   try dsimp only
   have sN:∀{H3},Dr st H2 H3->Same H H3:=λd b o e=>d.bt b o (s2 _ _ e) (aA e C4);refine aP λc_ af=>?_;refine aY ?_;refine⟨_,rfl,st,8,10,4,rfl,g1,by decide,by decide,by decide,by decide,by decide,by decide,λbk ac xc cs ap xp ps ai xs ss H3 d3 eb rc lc1 Pc okc rp lp okp rs ls de yy=>?_⟩
   have B3:TB H3 bk ac xc cs ap xp ps ai xs ss:=⟨⟨eb,rc,λr hr=>⟨(okc r hr).1,λx hx=>((okc r hr).2 x hx).1⟩,Zz,rp,Zz,okp,rs,Zz,λs hs=>(de s hs).1,yy⟩,okc,lc1⟩
   clear eb rc rp rs de okp;refine aD ?_;refine af _ _ ?_;clear af c_
   try dsimp only
   have s3:=sN d3;clear sN d3 s2 g1;have lx:=B3.b.rc.l;refine aP λc_ af=>?_;refine aY ?_;refine⟨_,rfl,bk,_,0,.ref ac,rfl,rfl,SqT.of B3.b.e,rfl,_,rfl,bk,_,1,.ref ap,rfl,rfl,SqT.of B3.b.e,rfl,_,rfl,bk,_,2,.ref ai,rfl,rfl,SqT.of B3.b.e,rfl,ac,xc,cs,ap,xp,ps,ai,xs,ss,rfl,B3.b.rc,B3.b.okc,B3.b.lc,B3.b.rp,B3.b.lp,B3.b.okp,B3.b.rs,B3.b.ls,B3.b.h5,B3.b.un,λl lk ts H4 s4 nl el lt hw=>?_⟩;have B4:=B3.same s4;have So:=s3.trans s4;clear B3 s3 s4;refine aD ?_;refine af _ _ ?_;clear af c_
   try dsimp only
   refine⟨_,rfl,bk,_,0,.ref ac,rfl,rfl,SqT.of B4.b.e,rfl,ac,xc,rfl,.inr (SqT.of B4.b.rc.e),(xc.length:Int),rfl,Zz,Zz,?_⟩;refine cj (lo:=0) (λj σ Hc=>∃x5 x6,σ=[some (.ref a),some (.int (0+i)),some (.ref st),some (.ref bk),some (.ref l),x5,x6]/\Same H4 Hc) ?_ ?_ ?_
   .exact⟨_,_,rfl,Same.refl _⟩
   .rintro j σ Hc hj ⟨x5,x6,rfl,sc⟩;have hj:j<cs.length:=Zz
    have Bc:=B4.same sc;refine aD ?_;rw[show(0:Int)+(j:Int)=j by lia];refine vm λRH ve=>?_;have Pn:j<ts.length:=Zz
    obtain⟨g,tl,qq,xg,xq,W⟩:=hw j ts[j] (zA0 Pn);have eJ:atI (ts.map V.ref) (j:Int)=some (.ref ts[j]):=cB (by rw[zAb,zA0 Pn];rfl);have eq:=sc _ _ W.eq;have elq:=W.elq.same sc
    have gT:=(rJ (cs:=cs) B4.b.lp B4.b.un B4.b.h5 B4.b.okp (j+1))
    have mT:aN (dz cs ps ss (j+1))=((dz cs ps ss (j+1)).map λr=>fl r 3).sum:=rfl;refine aQ (aY ?_);refine⟨_,rfl,_,rfl,_,rfl,_,rfl,l,_,_,_,rfl,rfl,SqL.of (sc _ _ el),eJ,ts[j],_,2,.ref qq,rfl,rfl,SqT.of (sc _ _ W.e),rfl,qq,rfl,⟨_,SqL.of eq⟩,?_⟩
    obtain⟨ow,how⟩:∃ow,ow=dz cs ps ss (j+1):=⟨_,rfl⟩
    rw[<-how]at elq gT mT;have IY:=elq.1;refine bM ow.length (λk ys σ He=>He=Hc/\(∃o1,σ=[o1])/\ys=((ow.take k).map λr=>fl r 3).map V.int) ⟨rfl,⟨_,rfl⟩,rfl⟩ Zu ?_ ?_
    .rintro k ys σ He hk hy ⟨rfl,⟨o1,rfl⟩,rfl⟩;obtain⟨t,ex,et⟩:=elq.2 k ow[k] (zA0 hk);refine⟨⟨_,_,SqL.of eq,ex⟩,λv H' y' R' qV=>?_⟩;obtain⟨rfl,y'⟩:=y';have hv:=y' _ (SqL.of eq);rw[ex]at hv;cases hv;refine aD ?_;have l4:=(gT.1 _ (zAh hk)).1;refine⟨_,rfl,t,_,3,_,rfl,rfl,SqT.of et,cB (j:=3) (fj Zz),qV _ _ _ ⟨rfl,⟨_,rfl⟩,?_⟩⟩;rw[zAj,zA0 hk,zA4,zA4];rfl
    rintro ys σ He hy ⟨rfl,_,rfl⟩;rw[zAm];refine⟨⟨_,SqL.of eq,Zz⟩,λD hD=>⟨D,_,rfl,.inl (SqL.of aj),?_⟩⟩;rw[<-mT];have s5:=sc.updR (o:=.lst ((ow.map λr=>fl r 3).map V.int)) hD;generalize upd He D (.lst ((ow.map λr=>fl r 3).map V.int))=H5 at s5⊢;have B5:=B4.same s5;rw[how]
    have fin:∀{Hz v},Same H4 Hz->∃x5 x6,([some (.ref a),some (.int (0+(i:Int))),some (.ref st),some (.ref bk),some (.ref l),some (.int (j:Int)),some v]:L2.St)=[some (.ref a),some (.int (0+(i:Int))),some (.ref st),some (.ref bk),some (.ref l),x5,x6]/\Same H4 Hz:=λs=>⟨_,_,rfl,s⟩
    refine⟨bk,j,_,ac,xc,cs,ap,xp,ps,ai,xs,ss,rfl,B5.b,Zz,Zz,λt1 j1 H6 s6 C5 Sr e1 f1=>?_,λH6 s6 no=>?_⟩
    .rw[zAi]at C5 Sr e1 f1;refine aD ?_;dsimp only;have B6:=B5.same s6;refine⟨_,rfl,rfl,_,rfl,?_⟩;refine bZ ?_;refine⟨_,rfl,_,rfl,λ_=>False,bk,j,_,ac,xc,cs,ap,xp,ps,ai,xs,ss,rfl,B6.th,B6.sz,B6.ok,B6.b,Zz,Zz,λt2 j2 H7 s7 CU ku e2 f2=>?_⟩;rw[zAi]at CU ku e2 f2
     have:j2=j1:=by
      rcases Nat.lt_trichotomy j2 j1 with z|z|z
      .exact absurd e2 (f1 j2 z)
      .exact z
      .exact absurd e1 (f2 j1 z)
     subst this;have okp:=Il ku;have Ss:=B4.b.lc
     have tm:tame (cX (ppI (j+2) j2))=true:=Et λi hi=>by have:=okp.2 i hi;lia
     refine⟨_,rfl,λ_=>False,_,_,cX (ppI (j+2) j2),cX (ppI (j+2) j2),rfl,λz=>z,.tup CU (IsThs.ints _),.tup (s7 _ _ C5) (IsThs.ints _),tm,tm,(by show 4<=1000;decide),(by show 4<=1000;decide),_,rfl,?_⟩;rw[zAt rfl];refine bZ ?_;exact ve _ _ (fin ((s5.trans s6).trans s7))
    .exfalso;rw[zAi]at no;obtain⟨a',b',c',ha,hb,hc,e⟩:=Ik B4.bko j;refine no ((a'*(j+2)+b')*(j+2)+c') (Fj Zz Zz Zz) ?_;rw[uq Zz Zz];exact e
   .rintro σ Hc ⟨x5,x6,rfl,sc⟩;exact KG _ _ ⟨_,_,_,_,_,_,rfl,So.trans sc⟩
  .rintro σ Hc ⟨x1,x2,x3,x4,x5,x6,rfl,sc⟩;exact q Hc
end K41
structure PySem.W.Fast:Prop where
 (tw12155183650036836448 tw5377966987724248256 tw15128044248554310880 tw9307241334517257440 tw14361925677479745792 tw16026780355129998912 tw4008501802644334176 tw13198546488169213536 tw8231086784996463232 tw135583675201034912 tw17868064816811986656 tw8142414712604947168 tw17770891971478757184 tw13547034305012412256 tw1249382823452521376 tw13134568341189358560 tw17027992616430875649 tw16710460603594219521 tw12687170347235522593 tw2935891730490781761 tw14467924308706695233 tw9208455283017588833 tw2613326361595184321 tw3119735071275597121 tw4536390958353787297 tw17908769122634373633 tw14541030308188619297 tw5342854384154378785 tw16034124199081514529 tw9376939999015441057 tw13297606882012530337 tw7526246407823667905 tw18443221001722871489 tw362986174324003617 tw15705026123958088577 tw3512179761432677281 tw9929531469180149729 tw7228695036821648353 tw16821910700348260321 tw17059893556740763714 tw13796504153915824290 tw10949158856858642786 tw14475042210786797986 tw14197228183966191042 tw16997863991173229090 tw5317372388927201826 tw17812592371564478114 tw14834316422068416194 tw555798328793705218 tw1827927556453669762 tw2349262398386699202 tw12251117960018602978 tw10498373410579781635 tw14350201801626417315 tw8206892775949184547 tw16400726749485883939 tw14227387014434192067 tw5799463162980455203 tw7722536355711723395 tw2073959172304335940 tw4060672149073502340 tw15230346532978451620 tw9382233161848998084 tw1734300200755285412 tw7172421687338666532 tw6542495126755923716 tw3020796755910948612 tw17866899367711170404 tw6989412221353059204 tw11596568172066493445 tw14496955900226364581 tw4165428637993975141 tw1617914174563569029 tw2641956927696533957 tw16321700410216864421 tw14266185626080934853 tw17808011108006061029 tw11147821925717291110 tw16635569237679526118 tw10396302882385205638 tw6652535403839136262 tw12147633389443183110 tw5855336570720380614 tw4713394732917038822 tw1584666210258037478 tw6689116375834917638 tw8916240765774991142 tw235602945224032198 tw9604421541914571783 tw3362494188252175399 tw8084478084348456039 tw17427752090737545447 tw2180484470918003975 tw6024963002215299367 tw8016645057086803303 tw1711334274480382375 tw12741698522783875687 tw1221642596323947143 tw5787653334440737415 tw4100259766493362983 tw6837706153493606183 tw15269919084041517959 tw7919123760450868135 tw14971399035707862088 tw2971604492640904264 tw5437889058821353672 tw12327186252121906472 tw1378258761887295848 tw12977417740453710216 tw13752242393882962408 tw11280695408832242216 tw8739300315655661128 tw4259466928961152744 tw2074642105956426632 tw9721097094510916520 tw15481841833594827817 tw170250837995615273 tw13109815867631118473 tw3454000056120731785 tw17474660440339319977 tw15392541466959866185 tw8775949610532188521 tw15288063434811727497 tw11736036627305831081 tw14885968206943180521 tw13875580290547003145 tw3208808774159055689 tw6376380194717577065 tw14658498084961555369 tw7922616504478064585 tw17551458278358101066 tw6868035949014198538 tw10782760143452437930 tw10791535544796904074 tw5261238574315500234 tw7096028530334944299 tw1339707856299343915 tw4149378237738008651 tw1377415078944550123 tw7117708085755331883 tw9102384559520695819 tw15874705888505691787 tw17049051130230869707 tw14117035704026226635 tw14221353351373283436 tw15521079137974334604 tw3098356015831862508 tw5754335911217732876 tw13859065402099501324 tw13795813955359502732 tw12130875964242125228 tw15673528133258942956 tw16265668504380379756 tw7128225473351263884 tw10857725480496662188 tw2083927690900680396 tw17101417135302681324 tw11831764191164721932 tw852531831223081772 tw7415540313216695116 tw2252841454747529100 tw15722591358944181164 tw11332772031010180044 tw7534010626968617997 tw3931622344546329613 tw11876446145820495181 tw1434068771090093389 tw3737159617570591181 tw12093469038974193133 tw13628306882822147597 tw12873085541190592013 tw17796052998890975757 tw11931204170773116461 tw15845475832802110253 tw1401281592920969101 tw9943981957944736653 tw8677933536925777805 tw15205320503293599661 tw1930600874365065197 tw12008552249586366702 tw6132264558623125838 tw3303647749565816302 tw6319128764565551598 tw2011921977193644622 tw9442588131799526126 tw12912729679055191790 tw9176298711268997966 tw11771694410315218766 tw10219480892289762158 tw17346557139985583982 tw1619060986392122286 tw11911412251337543823 tw5707647722424023215 tw12420340574864389391 tw7966872597491534127 tw870176068424158735 tw10829726675092781807 tw16527844335337707503 tw13493526140680740912 tw6885753819164499056 tw11032074966384630032 tw4024883688224913712 tw9518748710430378448 tw12796404125121188336 tw200277427401730576 tw11370925954099757712 tw16853683980567677648 tw5179367396679097072 tw10932744793071140656 tw5145511959311601488 tw8963044028570077104 tw7640660501514797137 tw461353247935008977 tw3080787728009676017 tw2048263472575296817 tw5084044371291017617 tw12229744278148576817 tw14338045334225460881 tw15217386350500340465 tw4447348610262572945 tw4088429826745913329 tw9326919779027825938 tw15723947032539603410 tw10743613909440705138 tw16808498731051826802 tw7375049613933484882 tw8946810674830346098 tw5638555259889337266 tw10023232020632814514 tw9081022833317459922 tw3212025104429132147 tw2816200431698798067 tw10673953770772752883 tw403939252793808403 tw15029275478763633299 tw17688739319652462387 tw14436708097848253331 tw13344091247502470035 tw2470934373197464499 tw9343087871326085172 tw5123873257881940052 tw17555741779792131220 tw6064134375976003924 tw13060993938347067764 tw12199977104478123412 tw10380954770016774740 tw223852233733955188 tw7463539797047544468 tw3430585828793324340 tw1308544819693572948 tw5383113615235322965 tw6396937707214726229 tw10475001364579746165 tw1524937787094904213 tw5778893364020214229 tw3627482821237708277 tw8693606792906005365 tw13488510921582780534 tw9448734088604374326 tw479356543581534550 tw1968209759478339958 tw3498562966514868822 tw13274081211122088694 tw5843999132942859254 tw11169902491942009943 tw11461210683205076087 tw11863096048266029271 tw4688382286365027607 tw14625261713458038135 tw13844117903750378903 tw11106413339604604439 tw4441081118459922007 tw8994618265665860343 tw9486756906894938935 tw14681404283223667639 tw10990325413598936023 tw14299029295172567031 tw1340220220555579416 tw7952010445734698136 tw11771248476833384632 tw13006360109549499608 tw17437090758666752568 tw3917159895296679480 tw14542984854271656600 tw4183302692590203544 tw9535897529669293752 tw11469171005479389912 tw17103561743876593432 tw4623087649302841240 tw3829953048814697561 tw2949026021927950457 tw1140412067046925593 tw5002965386277815609 tw16740436332068550009 tw12065176771097461145 tw13252027405523589561 tw17035208583210649 tw3495054255676030681 tw12705255984827583449 tw4908461532559407162 tw11510161601874301050 tw3260697338897968314 tw14156270923892029690 tw17591633778588819738 tw1339995965457567130 tw1693389710486458938 tw1217257913205992154 tw1734795094515011418 tw11864649866623607642 tw451584079475513691 tw1284817768604942747 tw16499968086344414651 tw12547535809995097531 tw5930255203077592635 tw6469258144365703771 tw11042385112221007515 tw9917411566779191067 tw6739330119766185915 tw6230757176553764827 tw4996360852266055740 tw12827757241967684828 tw8622264442644966876 tw6991753602198887900 tw13723868873753571804 tw11396893705649706556 tw2166844062811249276 tw17720000867189091004 tw736008492142378812 tw10954248919751260028 tw15197029586377677724 tw2742481828541858716 tw12968117738055926716 tw12229691464460875740 tw9509438970180490493 tw16390743780255515901 tw18283728233237747325 tw6621669856987965181 tw8001179111551586045 tw7465285240753740765 tw12891617404572057694 tw8801269948442623198 tw7630231516113198334 tw17428068654978791710 tw18051312320393787742 tw13244155063730327006 tw9683432611627859454 tw793993218622699198 tw5351618436446794526 tw7996220069579614046 tw11862426756764971902 tw9393290284170633182 tw674601436389653567 tw10825454038338471103 tw2350439260752371967 tw5678835323885271327 tw4725899606957056383 tw6354906984945677727 tw12777670246439923263 tw6366165696459336415 tw14273817274724882303 tw15491081876830234495 tw3269686002431193811:True)
namespace K41
open PySem L2
variable{C:List Value->Prop}
theorem elZ(h:C []):∀us:List Value,us.length=0->C us:=by
 intro us e
 cases us with
 |nil=>exact h
 |cons _ _=>cases e
theorem elS{n:Nat}(h:∀a,∀us:List Value,us.length=n->C (a::us)):∀us:List Value,us.length=n+1->C us:=by
 intro us e
 cases us with
 |nil=>cases e
 |cons a r=>exact h a r (Nat.succ.inj e)
theorem el1(h:∀a0:Value,C [a0]):∀us:List Value,us.length=1->C us:=elS (λa0=>elZ (h a0))
theorem el2(h:∀a0 a1:Value,C [a0,a1]):∀us:List Value,us.length=2->C us:=elS (λa0=>elS (λa1=>elZ (h a0 a1)))
theorem el3(h:∀a0 a1 a2:Value,C [a0,a1,a2]):∀us:List Value,us.length=3->C us:=elS (λa0=>elS (λa1=>elS (λa2=>elZ (h a0 a1 a2))))
theorem el4(h:∀a0 a1 a2 a3:Value,C [a0,a1,a2,a3]):∀us:List Value,us.length=4->C us:=elS (λa0=>elS (λa1=>elS (λa2=>elS (λa3=>elZ (h a0 a1 a2 a3)))))
theorem el5(h:∀a0 a1 a2 a3 a4:Value,C [a0,a1,a2,a3,a4]):∀us:List Value,us.length=5->C us:=elS (λa0=>elS (λa1=>elS (λa2=>elS (λa3=>elS (λa4=>elZ (h a0 a1 a2 a3 a4))))))
def Has(K:Frag)(x:Str)(st:Stmt):Prop:=∃(f:Addr) (od an:Option Addr) (sl:Array (Option Value)) (oc kV dc pm cd ct:Value),PySem.W.nsIn K mainGlobals x=some (some (.ref f)) /\
 K.lookup f=some ⟨oc,od,.func (PySem.W.fnOf x x (gD st) (fO st) (aJ st) .none kV dc pm an cd ct),sl⟩/\PySem.W.codeIn K cd x=true/\PySem.W.keepIn K (.ref f)=true
theorem has_mk{K:Frag}{x:Str}{st:Stmt}{f:Addr}{od an:Option Addr}{sl:Array (Option Value)}{oc kV dc pm cd ct:Value}(a:PySem.W.nsIn K mainGlobals x=some (some (.ref f)))
  (l:K.lookup f=some ⟨oc,od,.func (PySem.W.fnOf x x (gD st) (fO st) (aJ st) .none kV dc pm an cd ct),sl⟩) (c:PySem.W.codeIn K cd x=true) (k:PySem.W.keepIn K (.ref f)=true):Has K x st:=⟨f,od,an,sl,oc,kV,dc,pm,cd,ct,a,l,c,k⟩
theorem Has.get{K:Frag}{x:Str}{st:Stmt}{h:Heap}{mg:Str->Option Value}(H:Has K x st)(X:K.In h)(G:h.Ns mainGlobals mg):∃f fd,Fun K x x st f fd/\mg x=some (.ref f):=by
 obtain⟨f,od,an,sl,oc,kV,dc,pm,cd,ct,a,l,c,k⟩:=H;exact⟨f,_,BV (st:=st) l c k,PySem.W.mg_of X G a⟩
theorem aZ(P:Program)(w:World)(base:Heap){K:Frag}{mg:Str->Option Value}{k:Nat}{x:Str}{ps:List Str}{sp:Sp}{f:Addr}{fd:FuncData}(F:FnOk P w K mg base CX0 k f fd ps sp)(m:mg x=some (.ref f))(kp:PySem.W.keepIn K (.ref f)=true)(b:Binds K fd ps []):Cal P w K mg base k x ps sp:=⟨f,fd,F,m,kp,b⟩
theorem all_mk{l:PySem.W.OpenLaw}{w:World}{K:Frag}{h:Heap}{mg:Str->Option Value}{fa fL:Addr}{Su Po:Option Addr}{Sv:Array (Option Value)}{Sw Pp Pq zw KP Pr:Value}{t0 t1 t2 t3 t4 t5 t6 t7 t8 t9 Pt:Tok}(X:K.In h)(G:h.Ns mainGlobals mg)(Sx:mg "law"=some (.ref fa))
  (h9:Has K "is_whole" (top 9))
  (h10:Has K "is_whole_from" (top 10))
  (h11:Has K "is_tuple_of" (top 11))
  (h12:Has K "are_wholes" (top 12))
  (h23:Has K "is_clip" (top 23))
  (h24:Has K "are_clips" (top 24))
  (h25:Has K "is_promise" (top 25))
  (h26:Has K "are_promises" (top 26))
  (h27:Has K "are_sales" (top 27))
  (h28:Has K "held_in" (top 28))
  (h29:Has K "is_sale_between" (top 29))
  (h30:Has K "sale_holds" (top 30))
  (h31:Has K "first_unheld" (top 31))
  (h32:Has K "is_book" (top 32))
  (h33:Has K "refuse_no_book" (top 33))
  (h37:Has K "are_weights" (top 37))
  (h38:Has K "refuse_unpartable" (top 38))
  (h39:Has K "places_by_rest" (top 39))
  (h40:Has K "parts_of" (top 40))
  (h41:Has K "parted" (top 41))
  (h43:Has K "sacks_of" (top 43))
  (h44:Has K "claims_in" (top 44))
  (h45:Has K "shares_of" (top 45))
  (h46:Has K "made_good" (top 46))
  (h47:Has K "sort_given" (top 47))
  (h48:Has K "year_given" (top 48))
  (h49:Has K "years_given" (top 49))
  (h50:Has K "refuse_no_year_of" (top 50))
  (h51:Has K "refuse_no_year" (top 51))
  (h53:Has K "owed_behind" (top 53))
  (h55:Has K "from_each_on" (top 55))
  (h56:Has K "claimed_since" (top 56))
  (h57:Has K "wool_since" (top 57))
  (h58:Has K "shown" (top 58))
  (h59:Has K "papers_for" (top 59))
  (h60:Has K "lack_by" (top 60))
  (h61:Has K "paper_of" (top 61))
  (h63:Has K "_law_cell_at" (top 63))
  (h64:Has K "_law_state" (top 64))
  (h65:Has K Zh (top 65))
  (h66:Has K "_law_clips" (top 66))
  (h67:Has K Zw (top 67))
  (h68:Has K "_law_begun" (top 68))
  (h69:Has K "_law_holds" (top 69))
  (h70:Has K "_law_sell" (top 70))
  (h71:Has K Zj (top 71))
  (h72:Has K Z0 (top 72))
  (h73:Has K "_law_sales" (top 73))
  (h74:Has K "_law_book" (top 74))
  (h75:Has K "_law_parted" (top 75))
  (h76:Has K Zn (top 76))
  (h77:Has K "_law_year" (top 77))
  (h78:Has K "_law_walk" (top 78))
  (h79:Has K "_law_same" (top 79))
  (h80:Has K "_law_tables" (top 80))
  (h81:Has K "_law_first" (top 81))
  (aL:PySem.W.nsIn K mainGlobals "law"=some (some (.ref fL))) (lL:K.lookup fL=some ⟨Sw,Su,.func (PySem.W.fnOf "law" "law" (gD (top 82)) (fO (top 82)) (aJ (top 82)) .none Pp Pq zw Po KP Pr),Sv⟩) (cL:PySem.W.codeIn K KP "law"=true) (kL:PySem.W.keepIn K (.ref fL)=true)
  (n0:PySem.W.nsIn K mainGlobals "SORTS"=some (some (.int 3 t0)))
  (n1:PySem.W.nsIn K mainGlobals "HOLDERS"=some (some (.int 8 t1)))
  (n2:PySem.W.nsIn K mainGlobals "LAST_YEAR"=some (some (.int 19 t2)))
  (n3:PySem.W.nsIn K mainGlobals "MOST_CLIPS"=some (some (.int 20 t3)))
  (n4:PySem.W.nsIn K mainGlobals "MOST_PROMISES"=some (some (.int 10 t4)))
  (n5:PySem.W.nsIn K mainGlobals "MOST_WOOL"=some (some (.int 999 t5)))
  (n6:PySem.W.nsIn K mainGlobals "MOST_SACKS"=some (some (.int 99 t6)))
  (n7:PySem.W.nsIn K mainGlobals "MOST_PRICE"=some (some (.int 1000000 t7)))
  (n8:PySem.W.nsIn K mainGlobals "MOST_SALES"=some (some (.int 12 t8)))
  (n9:PySem.W.nsIn K mainGlobals "MOST_WEIGHTS"=some (some (.int 80 t9)))
  (n10:PySem.W.nsIn K mainGlobals "MOST_WEIGHT"=some (some (.int 99 Pt)))
  (cy:PySem.W.nsIn K mainGlobals "isinstance"=some none)
  (tw:PySem.W.nsIn K mainGlobals "int"=some none)
  (nh:PySem.W.nsIn K mainGlobals "bool"=some none)
  (iS:PySem.W.nsIn K mainGlobals "tuple"=some none)
  (tF:PySem.W.nsIn K mainGlobals "len"=some none)
  (tI:PySem.W.nsIn K mainGlobals "all"=some none)
  (ax:PySem.W.nsIn K mainGlobals "range"=some none)
  (nr:PySem.W.nsIn K mainGlobals "list"=some none)
  (tJ:PySem.W.nsIn K mainGlobals "max"=some none)
  (eC:PySem.W.nsIn K mainGlobals "min"=some none)
  (tN:PySem.W.nsIn K mainGlobals "zip"=some none)
  (ar:PySem.W.nsIn K mainGlobals "enumerate"=some none)
  (bq:PySem.W.nsIn K mainGlobals "sorted"=some none)
  (ck:PySem.W.nsIn K mainGlobals "sum"=some none)
  (iE:PySem.W.nsIn K mainGlobals "reversed"=some none)
  (yY:PySem.W.nsIn K mainGlobals "repr"=some none)
  : ∃fd:FuncData,(∀(s:Shared) (v:Value),BindsTo s fd ⟨[v],[]⟩ [(Yx,v)])/\∀base:Heap,K.In base->base.Ns mainGlobals mg->FnOk l.prog w K mg base CX0 63 fa fd [Yx] (zy K):=by
 have e:=Sx.symm.trans (PySem.W.mg_of X G aL);cases e;have FL:=BV (st:=top 82) lL cL kL;obtain⟨f9,Xu,F9,m9⟩:=h9.get X G;have b9:=F9.binds (ps:=["thing"]) λ_ _ _ _ _ _=>el1 λ_=>rfl;obtain⟨Xv,Sy,KS,Sz⟩:=h10.get X G;have SA:=KS.binds (ps:=["thing","least","most"]) λ_ _ _ _ _ _=>el3 λ_ _ _=>rfl;obtain⟨Xw,SD,KU,SE⟩:=h11.get X G;have SF:=KU.binds (ps:=["thing","fewest","most"]) λ_ _ _ _ _ _=>el3 λ_ _ _=>rfl;obtain⟨Xx,SI,KW,SJ⟩:=h12.get X G;have SK:=KW.binds (ps:=["thing","many"]) λ_ _ _ _ _ _=>el2 λ_ _=>rfl;obtain⟨Xy,SM,K0,SN⟩:=h23.get X G;have SO:=K0.binds (ps:=["thing"]) λ_ _ _ _ _ _=>el1 λ_=>rfl;obtain⟨Xz,SR,K2,SS⟩:=h24.get X G;have SU:=K2.binds (ps:=["thing"]) λ_ _ _ _ _ _=>el1 λ_=>rfl;obtain⟨XA,SV,Lc,SW⟩:=h25.get X G;have SX:=Lc.binds (ps:=["thing"]) λ_ _ _ _ _ _=>el1 λ_=>rfl;obtain⟨XB,SY,Ll,S0⟩:=h26.get X G;have S5:=Ll.binds (ps:=["thing"]) λ_ _ _ _ _ _=>el1 λ_=>rfl;obtain⟨EW,S9,Lm,Ta⟩:=h27.get X G;have Tb:=Lm.binds (ps:=["thing"]) λ_ _ _ _ _ _=>el1 λ_=>rfl;obtain⟨XC,Tc,Lo,Td⟩:=h28.get X G;have Tf:=Lo.binds (ps:=["promises","sales","number","year"]) λ_ _ _ _ _ _=>el4 λ_ _ _ _=>rfl;obtain⟨KI,Tg,Lu,Th⟩:=h29.get X G;have Ti:=Lu.binds (ps:=["promises","sale"]) λ_ _ _ _ _ _=>el2 λ_ _=>rfl;obtain⟨XD,Tj,Lv,Tp⟩:=h30.get X G;have Tq:=Lv.binds (ps:=["promises","ahead","sale"]) λ_ _ _ _ _ _=>el3 λ_ _ _=>rfl;obtain⟨XE,Tt,LA,Tu⟩:=h31.get X G;have Tw:=LA.binds (ps:=["promises","sales"]) λ_ _ _ _ _ _=>el2 λ_ _=>rfl;obtain⟨XF,Tx,LB,TC⟩:=h32.get X G;have TF:=LB.binds (ps:=["thing"]) λ_ _ _ _ _ _=>el1 λ_=>rfl;obtain⟨XG,TH,LD,TJ⟩:=h33.get X G;have TK:=LD.binds (ps:=["thing"]) λ_ _ _ _ _ _=>el1 λ_=>rfl;obtain⟨XH,TL,LF,TN⟩:=h37.get X G;have TQ:=LF.binds (ps:=["thing"]) λ_ _ _ _ _ _=>el1 λ_=>rfl;obtain⟨XI,TR,LG,TU⟩:=h38.get X G;have TV:=LG.binds (ps:=["sacks","weights"]) λ_ _ _ _ _ _=>el2 λ_ _=>rfl;obtain⟨XJ,TX,LH,TY⟩:=h39.get X G;have TZ:=LH.binds (ps:=["rests"]) λ_ _ _ _ _ _=>el1 λ_=>rfl;obtain⟨XM,T3,LI,T4⟩:=h40.get X G;have T5:=LI.binds (ps:=["sacks","weights"]) λ_ _ _ _ _ _=>el2 λ_ _=>rfl;obtain⟨XN,T6,LJ,T7⟩:=h41.get X G;have T8:=LJ.binds (ps:=["sacks","weights"]) λ_ _ _ _ _ _=>el2 λ_ _=>rfl;obtain⟨XO,T9,LM,Ua⟩:=h43.get X G;have Ub:=LM.binds (ps:=["rows"]) λ_ _ _ _ _ _=>el1 λ_=>rfl;obtain⟨XQ,Uc,LN,Ud⟩:=h44.get X G;have Ue:=LN.binds (ps:=["promises","sales","sort","year"]) λ_ _ _ _ _ _=>el4 λ_ _ _ _=>rfl;obtain⟨XR,Ug,LO,Uh⟩:=h45.get X G;have Ui:=LO.binds (ps:=["wool","claims"]) λ_ _ _ _ _ _=>el2 λ_ _=>rfl;obtain⟨XS,Uj,LP,Uk⟩:=h46.get X G;have Ul:=LP.binds (ps:=["wool","owed"]) λ_ _ _ _ _ _=>el2 λ_ _=>rfl;obtain⟨XT,Um,LS,Uo⟩:=h47.get X G;have Up:=LS.binds (ps:=["wool","claims","owed"]) λ_ _ _ _ _ _=>el3 λ_ _ _=>rfl;obtain⟨XU,Uq,LU,Ur⟩:=h48.get X G;have Us:=LU.binds (ps:=["book","year","owed"]) λ_ _ _ _ _ _=>el3 λ_ _ _=>rfl;obtain⟨XW,Ut,LV,Uu⟩:=h49.get X G;have Uv:=LV.binds (ps:=["book","year"]) λ_ _ _ _ _ _=>el2 λ_ _=>rfl;obtain⟨XX,Uw,LW,Ux⟩:=h50.get X G;have Uy:=LW.binds (ps:=["clips","year"]) λ_ _ _ _ _ _=>el2 λ_ _=>rfl;obtain⟨XY,Uz,LX,UA⟩:=h51.get X G;have UB:=LX.binds (ps:=["book","year"]) λ_ _ _ _ _ _=>el2 λ_ _=>rfl;obtain⟨XZ,UC,LY,UD⟩:=h53.get X G;have UE:=LY.binds (ps:=["book","year"]) λ_ _ _ _ _ _=>el2 λ_ _=>rfl;obtain⟨X0,UG,LZ,UH⟩:=h55.get X G;have UI:=LZ.binds (ps:=["numbers"]) λ_ _ _ _ _ _=>el1 λ_=>rfl;obtain⟨X1,UJ,L0,UK⟩:=h56.get X G;have UL:=L0.binds (ps:=["book","year"]) λ_ _ _ _ _ _=>el2 λ_ _=>rfl;obtain⟨X2,UM,L3,UN⟩:=h57.get X G;have UO:=L3.binds (ps:=["book","year"]) λ_ _ _ _ _ _=>el2 λ_ _=>rfl;obtain⟨X3,UP,L4,UQ⟩:=h58.get X G;have UR:=L4.binds (ps:=["claimed","wool","paper"]) λ_ _ _ _ _ _=>el3 λ_ _ _=>rfl;obtain⟨X4,US,L5,UT⟩:=h59.get X G;have UU:=L5.binds (ps:=["year"]) λ_ _ _ _ _ _=>el1 λ_=>rfl;obtain⟨X5,UW,L6,UX⟩:=h60.get X G;have UY:=L6.binds (ps:=["book","year"]) λ_ _ _ _ _ _=>el2 λ_ _=>rfl;obtain⟨X6,UZ,L7,U0⟩:=h61.get X G;have U3:=L7.binds (ps:=["book","year"]) λ_ _ _ _ _ _=>el2 λ_ _=>rfl;obtain⟨X7,U4,L8,U5⟩:=h63.get X G;have U6:=L8.binds (ps:=[Yx,Zd]) λ_ _ _ _ _ _=>el2 λ_ _=>rfl;obtain⟨X8,U7,L9,U8⟩:=h64.get X G;have U9:=L9.binds (ps:=[Yx,Zd]) λ_ _ _ _ _ _=>el2 λ_ _=>rfl;obtain⟨X9,Va,Mb,Vb⟩:=h65.get X G;have Vc:=Mb.binds (ps:=[Ys,Ze]) λ_ _ _ _ _ _=>el2 λ_ _=>rfl;obtain⟨Ya,Vd,Mc,Ve⟩:=h66.get X G;have Vf:=Mc.binds (ps:=[Ys,Yy]) λ_ _ _ _ _ _=>el2 λ_ _=>rfl;obtain⟨Yb,Vg,Md,Vh⟩:=h67.get X G;have Vi:=Md.binds (ps:=[Ys,Yy,Y9]) λ_ _ _ _ _ _=>el3 λ_ _ _=>rfl;obtain⟨Yc,Vj,Me,Vk⟩:=h68.get X G;have Vl:=Me.binds (ps:=[Yq]) λ_ _ _ _ _ _=>el1 λ_=>rfl;obtain⟨Yd,Vm,MA,Vn⟩:=h69.get X G;have Vo:=MA.binds (ps:=[Yq,Yv,Y8]) λ_ _ _ _ _ _=>el3 λ_ _ _=>rfl;obtain⟨Ye,Vp,MB,Vq⟩:=h70.get X G;have Vr:=MB.binds (ps:=[Yq,Yv,Y8]) λ_ _ _ _ _ _=>el3 λ_ _ _=>rfl;obtain⟨Yf,Vs,DL,Pu⟩:=h71.get X G;have Pw:=DL.binds (ps:=[Yq,Yu]) λ_ _ _ _ _ _=>el2 λ_ _=>rfl;obtain⟨Yg,Vt,MC,Vu⟩:=h72.get X G;have Vv:=MC.binds (ps:=[Ys,Yq]) λ_ _ _ _ _ _=>el2 λ_ _=>rfl;obtain⟨Yh,Vw,MD,Vx⟩:=h73.get X G;have Vy:=MD.binds (ps:=[Ys,Yq,Yy]) λ_ _ _ _ _ _=>el3 λ_ _ _=>rfl;obtain⟨Yi,Vz,ME,VA⟩:=h74.get X G;have VB:=ME.binds (ps:=[Ys,Y9,Yy,Yu]) λ_ _ _ _ _ _=>el4 λ_ _ _ _=>rfl;obtain⟨Yj,VC,MG,VD⟩:=h75.get X G;have VE:=MG.binds (ps:=[Y0,Zi]) λ_ _ _ _ _ _=>el2 λ_ _=>rfl;obtain⟨Yk,VF,ML,VG⟩:=h76.get X G;have VH:=ML.binds (ps:=[Yq,Yv,Yz,Yt]) λ_ _ _ _ _ _=>el4 λ_ _ _ _=>rfl;obtain⟨Yl,VI,MM,VJ⟩:=h77.get X G;have VL:=MM.binds (ps:=[Yq,Yv,Zc,Yt,Zk]) λ_ _ _ _ _ _=>el5 λ_ _ _ _ _=>rfl;obtain⟨Ym,VM,MO,VN⟩:=h78.get X G;have VO:=MO.binds (ps:=[Zb,Yq,Yu]) λ_ _ _ _ _ _=>el3 λ_ _ _=>rfl;obtain⟨Yn,VP,MQ,VQ⟩:=h79.get X G;have VR:=MQ.binds (ps:=[Y4,Za]) λ_ _ _ _ _ _=>el2 λ_ _=>rfl;obtain⟨Yo,VS,MR,VT⟩:=h80.get X G;have VU:=MR.binds (ps:=[Yw,Yt]) λ_ _ _ _ _ _=>el2 λ_ _=>rfl;obtain⟨Yp,VW,MU,VX⟩:=h81.get X G;have VY:=MU.binds (ps:=[Yw,Yt,Za]) λ_ _ _ _ _ _=>el3 λ_ _ _=>rfl
 have T:Mg mg:=⟨(zAu X G cy),(zAu X G tw),(zAu X G nh),(zAu X G iS),(zAu X G tF),(zAu X G tI)⟩
 have TP:K41.Mg mg:=⟨(zAu X G cy),(zAu X G tw),(zAu X G nh),(zAu X G iS),(zAu X G tF),(zAu X G tI)⟩
 have N:Nums mg:=⟨⟨t0,PySem.W.mg_of X G n0⟩,⟨t1,PySem.W.mg_of X G n1⟩,⟨t2,PySem.W.mg_of X G n2⟩,⟨t3,PySem.W.mg_of X G n3⟩,⟨t4,PySem.W.mg_of X G n4⟩,⟨t5,PySem.W.mg_of X G n5⟩,⟨t6,PySem.W.mg_of X G n6⟩,⟨t7,PySem.W.mg_of X G n7⟩⟩
 have NP:K41P.Nums mg:=⟨⟨t9,PySem.W.mg_of X G n9⟩,⟨Pt,PySem.W.mg_of X G n10⟩⟩
 have N2:MS mg:=⟨⟨t8,PySem.W.mg_of X G n8⟩⟩
 refine⟨PySem.W.fnOf "law" "law" (gD (top 82)) (fO (top 82)) (aJ (top 82)) .none Pp Pq zw Po KP Pr,λs v=>.of_eq rfl,λbase _ _=>?_⟩;have C9:=aZ l.prog w base (vd F9 T) m9 F9.kp b9;have MV:=aZ l.prog w base (qx KS C9) Sz KS.kp SA;have AS:=aZ l.prog w base (ph KU T) SE KU.kp SF;have MW:=aZ l.prog w base (qm KW T C9 AS) SJ KW.kp SK;have VZ:=aZ l.prog w base (wW K0 T N MW) SN K0.kp SO;have V0:=aZ l.prog w base (u9 K2 T N VZ AS) SS K2.kp SU;have V1:=aZ l.prog w base (qp Lc T N MW) SW Lc.kp SX;have Px:=aZ l.prog w base (mR Ll T N V1 AS) S0 Ll.kp S5;have Py:=aZ l.prog w base (ud Lm T N2 MW AS) Ta Lm.kp Tb;have Pz:=aZ l.prog w base (Gq Lo N) Td Lo.kp Tf;have V2:=aZ l.prog w base (Gr Lu T N) Th Lu.kp Ti;have V3:=aZ l.prog w base (Dl Lv T (zAu X G ax) V2 Pz) Tp Lv.kp Tq;have V4:=aZ l.prog w base (Dm LA (zAu X G ar) Px Py V3) Tu LA.kp Tw;have V5:=aZ l.prog w base (Gs LB AS V0 Px Py V4) TC LB.kp TF;have V6:=aZ l.prog w base (Hf LD V5) TJ LD.kp TK;have V7:=aZ l.prog w base (K41P.ok_are_weights LF TP NP MV AS) TN LF.kp TQ;have V8:=aZ l.prog w base (K41P.ok_refuse LG (zAu X G ck) V7 MV) TU LG.kp TV;have V9:=aZ l.prog w base (K41P.ok_places LH (zAu X G ar) (zAu X G bq)) TY LH.kp TZ;have Wa:=aZ l.prog w base (K41P.ok_parts LI TP (zAu X G ck) V9) T4 LI.kp T5;have Wb:=aZ l.prog w base (K41P.ok_parted LJ V8 Wa) T7 LJ.kp T8;have MX:=aZ l.prog w base (Dn LM (zAu X G ck)) Ua LM.kp Ub;have PB:=aZ l.prog w base (Ax LN (zAu X G ar) Pz) Ud LN.kp Ue;have Wc:=aZ l.prog w base (Aw LO T (zAu X G ck) Wb) Uh LO.kp Ui;have We:=aZ l.prog w base (Gu LP (zAu X G eC)) Uk LP.kp Ul;have Wf:=aZ l.prog w base (Du LS (zAu X G ck) (zAu X G nr) (zAu X G tN) Wc We) Uo LS.kp Up;have Wg:=aZ l.prog w base (Gx LU T N (zAu X G ax) (zAu X G bq) PB Wf MX) Ur LU.kp Us;have Wh:=aZ l.prog w base (El LV (zAu X G ax) Wg) Uu LV.kp Uv;have Wi:=aZ l.prog w base (Hg LW T MV) Ux LW.kp Uy;have Wl:=aZ l.prog w base (Es LX V6 Wi) UA LX.kp UB;have Wm:=aZ l.prog w base (Eu LY Wh) UD LY.kp UE;have PD:=aZ l.prog w base (Hq LZ (zAu X G iE)) UH LZ.kp UI;have Wn:=aZ l.prog w base (xQ L0 N (zAu X G ax) PD MX PB) UK L0.kp UL;have Wo:=aZ l.prog w base (vQ L3 N (zAu X G ax) PD) UN L3.kp UO;have Wq:=aZ l.prog w base (Fb L4 N (zAu X G ax) (zAu X G ck) (zAu X G ar) (zAu X G eC)) UQ L4.kp UR;have Wr:=aZ l.prog w base (Bt L5 (zAu X G ax)) UT L5.kp UU;have Ws:=aZ l.prog w base (Ho L6 Wl Wm MX) UX L6.kp UY;have Wt:=aZ l.prog w base (JT L7 Ws Wn Wo Wq Wr) U0 L7.kp U3;have Wu:=aZ l.prog w base (Gm L8 T) U5 L8.kp U6;have Wv:=aZ l.prog w base (Dh L9 Wu) U8 L9.kp U9;have E1:=aZ l.prog w base (Gn Mb) Vb Mb.kp Vc;have Ww:=aZ l.prog w base (Bk Mc T (zAu X G ax) E1) Ve Mc.kp Vf;have Wx:=aZ l.prog w base (um Md T (zAu X G ax) (zAu X G eC) E1) Vh Md.kp Vi;have PF:=aZ l.prog w base (Ea Me (zAu X G ar) (zAu X G ax)) Vk Me.kp Vl;have PH:=aZ l.prog w base (Bd MA T (zAu X G ax) (zAu X G eC)) Vn MA.kp Vo;have PJ:=aZ l.prog w base (GK MB (zAu X G ax)) Vq MB.kp Vr;have PL:=aZ l.prog w base (vI DL (zAu X G ar) PF PH PJ) Pu DL.kp Pw;have CS:=aZ l.prog w base (GP (vI DL (zAu X G ar) PF PH PJ)) Pu DL.kp Pw;have Wy:=aZ l.prog w base (JG MC T (zAu X G tJ) E1) Vu MC.kp Vv;have Wz:=aZ l.prog w base (Bl MD T (zAu X G ax) E1 Wy CS) Vx MD.kp Vy;have WC:=aZ l.prog w base (Bm ME T Ww Wx Wz) VA ME.kp VB;have WD:=aZ l.prog w base (K41P.ok_lparted MG (zAu X G ck) (zAu X G ar) (zAu X G bq)) VD MG.kp VE;have PN:=aZ l.prog w base (xM ML (zAu X G ar) (zAu X G nr) (zAu X G bq)) VG ML.kp VH;have WE:=aZ l.prog w base (Ek MM T (zAu X G ax) (zAu X G tN) (zAu X G bq) (zAu X G eC) (zAu X G ck) PN WD) VJ MM.kp VL;have WG:=aZ l.prog w base (GZ MO (zAu X G ar) (zAu X G bq) PL WE) VN MO.kp VO;have WH:=aZ l.prog w base (Gp MQ (zAu X G yY)) VQ MQ.kp VR;have WI:=aZ l.prog w base (Bs MR (zAu X G ax) (zAu X G ck) PL PN) VT MR.kp VU;have WJ:=aZ l.prog w base (JV MU (zAu X G ax) (zAu X G eC) WI) VX MU.kp VY;exact JW FL T (zAu X G ax) (zAu X G tJ) (zAu X G eC) (zAu X G ck) Wv WC WG WJ Wt WH
theorem walk{l:PySem.W.OpenLaw}{q:Program}{loose:List Str}{XP:(Str->Option Value)->Heap->Prop}{YP:World->Heap->Prop}{d:DefRec}{K:Params->Frag}(hn:l.most=some 63)(A8:d.params.defaults=[])
  (hY:∀(w:World) (h:Heap),YP w h->(K w.params).In h)
  (F:∀(w:World) (mg:Str->Option Value) (fa:Addr) (h:Heap),(K w.params).In h->h.Ns mainGlobals mg->mg d.name=some (.ref fa)->
   ∃fd:FuncData,(∀(s:Shared) (u:Value),BindsTo s fd ⟨[u],[]⟩ [(Yx,u)])/\∀base:Heap,(K w.params).In base->base.Ns mainGlobals mg->FnOk l.prog w (K w.params) mg base CX0 63 fa fd [Yx] (zy (K w.params))):
  PySem.W.WalkO q loose XP YP l.row.toRowW d [] (λf vs=>PySem.call f vs):=
 L2.walk_of (n:=63) (k:=63) (x:=Yx) (CX:=λ_=>CX0) (sp:=λw=>zy (K w.params)) hn Zx A8 ⟨rfl,by decide,by decide,rfl⟩ hY F (λ_ _ a ns hl _ hS=>⟨a,ns,rfl,hS,hl,λ_=>rfl⟩) λ_ _ _ _ _ z=>z
end K41
open PySem PySem.W PyProof.Rows
set_option maxRecDepth 100000 in
set_option maxHeartbeats 0 in
theorem PySem.Challenge.cw_woolyears_k41_the_first_paper_holds : PySem.Challenge.rw_woolyears_k41_the_first_paper.Holds := by
 w_on;o_law;k_head;(case hw=>w_witness2)
 k_fill
 refine K41.walk (l:=PySem.Challenge.rw_woolyears_k41_the_first_paper) rfl rfl (λw h Y=>PySem.W.kIn_of Y) ?F
 case F =>
  intro w mg fa h KX G hmg
  refine' K41.all_mk KX G hmg ?h9 ?h10 ?h11 ?h12 ?h23 ?h24 ?h25 ?h26 ?h27 ?h28 ?h29 ?h30 ?h31 ?h32 ?h33 ?h37 ?h38 ?h39 ?h40 ?h41 ?h43 ?h44 ?h45 ?h46 ?h47 ?h48 ?h49 ?h50 ?h51 ?h53 ?h55 ?h56 ?h57 ?h58 ?h59 ?h60 ?h61 ?h63 ?h64 ?h65 ?h66 ?h67 ?h68 ?h69 ?h70 ?h71 ?h72 ?h73 ?h74 ?h75 ?h76 ?h77 ?h78 ?h79 ?h80 ?h81 ?aL ?lL ?cL ?kL ?n0 ?n1 ?n2 ?n3 ?n4 ?n5 ?n6 ?n7 ?n8 ?n9 ?n10 ?z0 ?z1 ?z2 ?z3 ?z4 ?z5 ?z6 ?z7 ?z8 ?z9 ?z10 ?z11 ?z12 ?z13 ?z14 ?z15
  case h9|h10|h11|h12|h23|h24|h25|h26|h27|h28|h29|h30|h31|h32|h33|h37|h38|h39|h40|h41|h43|h44|h45|h46|h47|h48|h49|h50|h51|h53|h55|h56|h57|h58|h59|h60|h61|h63|h64|h65|h66|h67|h68|h69|h70|h71|h72|h73|h74|h75|h76|h77|h78|h79|h80|h81=>
   refine' K41.has_mk ?a ?l ?c ?k
   case a|l|c|k=>k_is
  case aL|lL|cL|kL|n0|n1|n2|n3|n4|n5|n6|n7|n8|n9|n10|z0|z1|z2|z3|z4|z5|z6|z7|z8|z9|z10|z11|z12|z13|z14|z15=>k_is
