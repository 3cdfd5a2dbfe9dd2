import PyProof.Rows.All
import Wide.All
import OpenK.AllK
import Wide.FinOn
import Lean
import PyProof.EqAt
import PyProof.EqKinds
import PyProof.TupleCall
import PyProof.StrLawsRepr
import PyProof.ZipIter
import PySem.Challenge.RW_woolyears_k33_owing_refused
import PyProof.Rows.SortRunsK
import PyProof.AttrMissHeap
import PyProof.SeqRoads
import PyProof.ListOps
import PyProof.DictUpdate
import PyProof.DictWalks
import PyProof.StationsW
import KE.KItemsList
import PyProof.ListNew
import PyProof.ListRange
import PyProof.NeKinds
import PyProof.ExcBaseAll.ValueError
set_option compiler.extract_closed false
set_option Elab.async false
set_option linter.all false
set_option maxRecDepth 100000
set_option maxHeartbeats 4000000
noncomputable section
def Zaa:=@PyProof.Rows.wpS_bind
def Zab:=@PyProof.Rows.wpS_pure
def Zac:=@PySem.wpAny_newObj_type
def Zad:=@List.mem_singleton
def Zae:=@List.all_eq_true
def Zaf:=@List.sum_cons
def Zag:=@Array.toList_append
def Zah:=@Nat.le_trans
def Zai:=@List.mem_cons_of_mem
def Zaj:=@List.filterMap_cons
def Zak:=@Nat.lt_irrefl
def Zal:=@List.take_of_length_le
def Zam:=@Array.getElem?_eq_getElem
def Zan:=@List.mem_range
def Zao:=@List.length_set
def Zap:=@List.mem_cons_self
def Zaq:=@List.getElem_of_mem
def Zar:=@Nat.ne_of_gt
def Zas:=@Option.isSome_iff_exists
def Zat:=@List.mem_append_left
def Zau:=@Bool.eq_iff_iff
def Zav:=@Array.getElem?_toList
def Zaw:=@List.getElem?_set_self
def Zax:=@List.length_replicate
def Zay:=@List.getElem?_eq_none
def Zaz:=@Array.perm_iff_toList_perm
def Za0:=@List.drop_eq_getElem_cons
def Za1:=@List.lookup_cons
def Za2:=@List.length_drop
def Za3:=@Int.le_refl
def Za4:=@Nat.le_of_lt
def Za5:=@List.eq_of_mem_replicate
def Za6:=@List.nodup_cons
def Za7:=@List.filter_append
def Za8:=@Int.emod_lt_of_pos
def Za9:=@List.getElem?_cons_succ
abbrev AAa:PySem.Str:="_law_state_here"
abbrev AAb:PySem.Str:="_law_thing"
abbrev AAc:PySem.Str:="_law_script"
abbrev AAd:PySem.Str:="_law_year"
abbrev AAe:PySem.Str:="_law_promises"
abbrev AAf:PySem.Str:="_law_most"
abbrev AAg:PySem.Str:="_law_choice"
abbrev AAh:PySem.Str:="_law_many"
abbrev AAi:PySem.Str:="_law_years"
abbrev AAj:PySem.Str:="_law_right"
abbrev AAk:PySem.Str:="_law_one"
abbrev AAl:PySem.Str:="_law_deep"
abbrev AAm:PySem.Str:="_law_call"
abbrev AAn:PySem.Str:="_law_bent"
abbrev AAo:PySem.Str:="_law_k"
abbrev AAp:PySem.Str:="_law_e"
abbrev AAq:PySem.Str:="_law_said"
abbrev AAr:PySem.Str:="_law_high"
abbrev AAs:PySem.Str:="_law_marks_here"
abbrev AAt:PySem.Str:="_law_found"
abbrev AAu:PySem.Str:="_law_sales"
abbrev AAv:PySem.Str:="_law_low"
abbrev AAw:PySem.Str:="_law_number"
abbrev AAx:PySem.Str:="_law_bounds"
abbrev AAy:PySem.Str:="_law_things"
abbrev AAz:PySem.Str:="_law_row_bent"
abbrev ABa:PySem.Str:="_law_sacks"
abbrev ABb:PySem.Str:="_law_marks"
abbrev ABc:PySem.Str:="_law_words"
abbrev ABd:PySem.Str:="_law_whole"
abbrev PK:=List (List Int)
abbrev UV:=List Int
theorem z00{p:Prop}(h:p:=by lia):p:=h
theorem z01{p:Prop}(h:p:=by simp):p:=h
theorem z02{p:Prop}(h:p:=by decide):p:=h
theorem z03{p:Prop}(h:p:=by omega):p:=h
theorem z04{p:Prop}(h:p:=by decide +kernel):p:=h
theorem z05{p:Prop}(h:p:=by rw[sizeLine_eq];lia):p:=h
def z08:=@decide_eq_true_eq
open PySem.W (Frag)
def zAt:=@PySem.wpAny_bind
def zAu:=@decide_eq_true
def zAv:=@PySem.Heap.get?_push_of_some
def zAw:=@PySem.W.mg_none_of
def zAx:=@PySem.wpAny_pure
def zAy:=@if_neg
def zAz:=@if_pos
def zB0:=@PySem.Heap.lt_size
def zB1:=@PySem.Heap.get?_push_size
def zB2:=@decide_eq_false
def zB3:=@List.mem_append_right
def zB4:=@Nat.lt_of_lt_of_le
def zB5:=@Nat.ne_of_lt
def zB6:=@List.mem_of_getElem?
def zB7:=@PySem.PassesOwn.never
def zB8:=@of_decide_eq_true
def zB9:=@List.getElem?_append_right
def zBa:=@List.getElem?_append_left
def zBb:=@PySem.F.plainAttrs_list
def zBc:=@PySem.F.type_list_append
def zBd:=@PySem.F.slot_list_append
def zBe:=@List.filter_cons_of_neg
def zBf:=@List.filter_cons_of_pos
def zBg:=@List.take_append_drop
def zA0:=@List.getElem?_eq_getElem
def zA1:=@List.length_map
def zA2:=@List.length_append
def zA3:=@Nat.le_refl
def zA4:=@List.map_append
def zA5:=@List.mem_map
def zA6:=@List.mem_append
def zA7:=@List.getD_eq_getElem?_getD
def zA8:=@List.size_toArray
def zA9:=@Array.length_toList
def zAa:=@List.getElem?_eq_some_iff
def zAb:=@List.getElem?_map
def zAc:=@Bool.and_eq_true
def zAd:=@List.length_take
def zAe:=@List.length_cons
def zAf:=@List.append_assoc
def zAg:=@Bool.false_ne_true
def zAh:=@List.getElem_mem
def zAi:=@Int.toNat_natCast
def zAj:=@List.take_add_one
def zAk:=@List.map_cons
def zAl:=@Option.some.inj
def zAm:=@List.take_length
def zAn:=@List.append_nil
def zAo:=@List.mem_cons
def zAp:=@Nat.zero_le
def zAq:=@List.mem_filter
def zAr:=@List.map_map
def zAs:=@List.length_zip
namespace L2
open PySem PySem.Spec PyProof.Rows
abbrev Key:=Sum Int Str
def ph:Key->Value->Bool
 |.inl k,v=>Value.isInt k v
 |.inr x,v=>Value.isStrOf x v
def Nh(w:World):Key->Int
 |.inl k=>hashInt k
 |.inr x=>hashStr w x
theorem cj:∀{k:Key} {v:Value},ph k v=true->(∃i t,k=Sum.inl i/\v=Value.int i t)\/(∃x t,k=Sum.inr x/\v=Value.str x t)
 |.inl i,v,h=>by
  obtain⟨t,e⟩:=Value.isInt_shape (k:=i) (v:=v) h;exact .inl ⟨i,t,rfl,e⟩
 |.inr x,v,h=>by
  obtain⟨t,e⟩:=Value.isStrOf_shape (x:=x) (v:=v) h;exact .inr ⟨x,t,rfl,e⟩
theorem zZ(i:Int)(t:Tok):ph (.inl i) (.int i t)=true:=by simp[ph,Value.isInt]
theorem Aa(x:Str)(t:Tok):ph (.inr x) (.str x t)=true:=by simp[ph,Value.isStrOf]
theorem Ji(a b:Int):decide ((Sum.inl a:Key)=Sum.inl b)=(a==b):=by grind
theorem Jj(a b:Str):decide ((Sum.inr a:Key)=Sum.inr b)=decide (a=b):=by simp
theorem Jk(a:Int)(b:Str):decide ((Sum.inl a:Key)=Sum.inr b)=false:=zB2 (λq=>nomatch q)
theorem Jl(a:Str)(b:Int):decide ((Sum.inr a:Key)=Sum.inl b)=false:=zB2 (λq=>nomatch q)
def bZ(prog:Program)(w:World):PySem.KeyKind prog w Key where
 is:=ph
 hash:=Nh w
 inj:=λv a b ha hb=>by
  rcases cj ha with⟨i,t,rfl,rfl⟩|⟨x,t,rfl,rfl⟩
  .rcases cj hb with⟨j,u,rfl,e⟩|⟨y,u,rfl,e⟩
   .injection e with e1 _;rw[e1]
   .exact nomatch e
  .rcases cj hb with⟨j,u,rfl,e⟩|⟨y,u,rfl,e⟩
   .exact nomatch e
   .injection e with e1 _;rw[e1]
 byValue:=λk v h=>by
  rcases cj h with⟨i,t,rfl,rfl⟩|⟨x,t,rfl,rfl⟩<;>rfl
 pyHash:=λhv h=>by
  rcases cj hv with⟨i,t,rfl,rfl⟩|⟨x,t,rfl,rfl⟩
  .exact wpAny_pyHash_int h
  .exact wpAny_pyHash_str h
 eqBool:=λhu hv h=>by
  rcases cj hu with⟨i,t,rfl,rfl⟩|⟨x,t,rfl,rfl⟩
  .rcases cj hv with⟨j,u,rfl,rfl⟩|⟨y,u,rfl,rfl⟩
   .rw[Ji]at h;exact wpAny_eqBool_int h
   .rw[Jk]at h;exact SeqAt.EqAt.int_str i t y u _ _ _ _ h
  .rcases cj hv with⟨j,u,rfl,rfl⟩|⟨y,u,rfl,rfl⟩
   .rw[Jl]at h;exact SeqAt.EqAt.str_int x t j u _ _ _ _ h
   .rw[Jj]at h;exact wpAny_eqBool_str h
 «strs»:=λk x t v h=>by
  rcases cj h with⟨i,u,rfl,e⟩|⟨y,u,rfl,e⟩
  .exact nomatch e
  .injection e with e1 _;subst e1;cases v<;>rfl
theorem uR(prog:Program)(w:World)(i:Int)(t:Tok):(bZ prog w).is (.inl i) (.int i t)=true:=zZ i t
theorem uT(prog:Program)(w:World)(x:Str)(t:Tok):(bZ prog w).is (.inr x) (.str x t)=true:=Aa x t
inductive V where
 |non|bl (b:Bool)|int (i:Int)|str (x:Str)|byt (b:Array UInt8)|flt (b:UInt64)|ref (a:Addr)|ty (n:String)
 deriving DecidableEq
def RelV:V->Value->Prop
 |.non,u=>u=Value.none
 |.bl b,u=>u=Value.bool b
 |.int i,u=>∃t,u=Value.int i t
 |.str x,u=>∃t,u=Value.str x t
 |.byt b,u=>∃t,u=Value.bytes b t
 |.flt b,u=>∃t,u=Value.float b t
 |.ref a,u=>u=Value.ref a
 |.ty n,u=>u=Value.type n
abbrev Vals:List V->List Value->Prop:=Paired RelV
theorem Vals.length(r:Vals xs us):xs.length=us.length:=Paired.length r
theorem Vals.get:∀{xs:List V} {us:List Value} {i:Nat} {x:V},Vals xs us->xs[i]?=some x->∃u,us[i]?=some u/\RelV x u
 |_,_,_,_,.nil,e=>by simp at e
 |_,_,0,_,.cons r _,e=>by simp at e;subst e;exact⟨_,rfl,r⟩
 |_,_,i+1,x,.cons _ t,e=>by
  obtain⟨u,h1,h2⟩:=Vals.get (i:=i) (x:=x) t (by simpa using e);exact⟨u,by simpa using h1,h2⟩
theorem Vals.set(r:RelV x u):∀{xs:List V} {us:List Value} i,Vals xs us->Vals (xs.set i x) (us.set i u)
 |_,_,_,.nil=>.nil
 |_,_,0,.cons _ t=>.cons r t
 |_,_,i+1,.cons q t=>.cons q (Vals.set r i t)
theorem Vals.append:∀{xs ys:List V} {us ws:List Value},Vals xs us->Vals ys ws->Vals (xs++ys) (us++ws)
 |_,_,_,_,.nil,s=>s
 |_,_,_,_,.cons r t,s=>.cons r (Vals.append t s)
theorem Vals.take:∀{xs:List V} {us:List Value} n,Vals xs us->Vals (xs.take n) (us.take n)
 |_,_,0,_=>.nil
 |_,_,_+1,.nil=>.nil
 |_,_,n+1,.cons r t=>.cons r (Vals.take n t)
theorem Vals.drop:∀{xs:List V} {us:List Value} n,Vals xs us->Vals (xs.drop n) (us.drop n)
 |_,_,0,r=>r
 |_,_,_+1,.nil=>.nil
 |_,_,n+1,.cons _ t=>Vals.drop n t
def RelO:Option V->Option Value->Prop
 |some v,some u=>RelV v u
 |none,none=>True
 |_,_=>False
def KV:List (κ×V)->List (κ×Value)->Prop:=Paired λp q=>p.1=q.1/\RelV p.2 q.2
def kV:Key->V
 |.inl i=>.int i
 |.inr x=>.str x
inductive HO where
 |lst (xs:List V)
 |tup (xs:List V)
 |dK (kvs:List (Key×V))|dT (kvs:List (List Key×V))
 |set (S:Int->Bool) (n:Nat)
 |ins (C dx:Addr) (fs:List (Str×V))
 |own (x:Addr)
 |xd (fs:List (Str×V))
 |met (f x:Addr)
 |rng (lo hi:Int)
 |frz (o:Obj) (u:HO)
 |tbl (ps:Array Value)
 |ext (φ:Heap->Prop)
abbrev Hp:=Addr->Option HO
def upd(H:Hp)(a:Addr)(o:HO):Hp:=λb=>if b=a then some o else H b
theorem aa:upd H a o a=some o:=by unfold upd;rw[zAz rfl]
theorem aA(h:b≠a):upd H a o b=H b:=by unfold upd;rw[zAy h]
theorem KH{H:Hp}(h:H a=some o)(h':H b=some u)(d:o≠u):a≠b:=by
 intro e;subst e;rw[h]at h';exact d (zAl h')
theorem aD{H:Hp}(h:H a=some o)(h':H b=none):a≠b:=by
 intro e;subst e;rw[h]at h';cases h'
section
variable(P:Program)(w:World)
def ObjOk(H:Hp)(h:Heap)(a:Addr):HO->Prop
 |.lst xs=>xs.length<=sizeLine/\∃its n,Vals xs its/\h.get? a=some {cls:=.type "list",data:=.seq its.toArray n}
 |.tup xs=>xs.length<=sizeLine/\∃its,Vals xs its/\IsTup h a its.toArray
 |.dK kvs=>kvs.length<=sizeLine/\(a==sysModules)=false/\∃vs,KV kvs vs/\h.DictOf (bZ P w) a vs
 |.dT kvs=>kvs.length<=sizeLine/\(a==sysModules)=false/\∃xs,
   Paired (λp q=>p.1=q.1/\H q.2.1=some (.tup (p.1.map kV))/\RelV p.2 q.2.2) kvs xs /\
   ∃o es ep,h.get? a=some o/\o.ExactDict/\o.data=.dict es ep/\es.toList=xs.map (entryOfKey (tupleKind (bZ P w)))/\(xs.map (·.1)).Nodup
 |.set S n=>h.SetOf (intKind P w) a S n
 |.ins C dx fs=>H dx=some (.own a)/\fs.length<=1000/\dx≠a/\h.get? a=some (PySem.W.instObj C dx) /\
   ∃mA,h.Ns1 dx mA/\(∀f,RelO (fs.lookup f) (mA f))/\PySem.Within mA (fs.map (·.1))
 |.own _=>∃o,h.get? a=some o
 |.xd fs=>∃mA,h.Ns1 a mA/\∀f,RelO (fs.lookup f) (mA f)
 |.rng lo hi=>∃t u v,h.get? a=some {cls:=.type "range",data:=.fields #[.int lo t,.int hi u,.int 1 v]}
 |.frz o u=>h.get? a=some o/\ObjOk H h a u
 |.tbl ps=>h.get? a=some {cls:=.none,data:=.fields ps}
 |.met f x=>h.get? a=some (PySem.W.methodObj (.ref f) (.ref x))
 |.ext φ=>φ h/\(∃o,h.get? a=some o)/\∀h1 h2,φ h1->(∀o,h1.get? a=some o->h2.get? a=some o)->φ h2
def HOk(H:Hp)(h:Heap):Prop:=∀a o,H a=some o->ObjOk P w H h a o
end
section
variable{a:Addr}
theorem ObjOk.lt(x:ObjOk P w H h a o):a<h.objs.size:=by
 cases o with
 |lst xs=>obtain⟨_,_,_,_,e⟩:=x;exact zB0 e
 |tup xs=>obtain⟨_,_,_,p⟩:=x;exact p.lt
 |dK kvs=>obtain⟨_,_,_,_,o,_,_,e,_⟩:=x;exact zB0 e
 |dT kvs=>obtain⟨_,_,_,_,o,_,_,e,_⟩:=x;exact zB0 e
 |set S n=>obtain⟨o,_,_,_,e,_⟩:=x;exact zB0 e
 |ins C dx fs=>obtain⟨_,_,_,e,_⟩:=x;exact zB0 e
 |own y=>obtain⟨_,e⟩:=x;exact zB0 e
 |xd fs=>obtain⟨_,⟨_,_,_,e,_⟩,_⟩:=x;exact zB0 e
 |rng lo hi=>obtain⟨_,_,_,e⟩:=x;exact zB0 e
 |frz ob u=>obtain⟨e,_⟩:=x;exact zB0 e
 |tbl ps=>exact zB0 (x)
 |met f y=>exact zB0 (x)
 |ext φ=>obtain⟨_,⟨_,e⟩,_⟩:=x;exact zB0 e
theorem Paired.mapP:∀{A4:List α} {A5:List β},Paired F A4 A5->(∀a b,F a b->G a b)->Paired G A4 A5
 |_,_,.nil,_=>.nil
 |_,_,.cons r t,f=>.cons (f _ _ r) (Paired.mapP t f)
theorem ObjOk.stay(x:ObjOk P w H h a o)(k:∀b u,(b=a\/H b=some (.own a))->h.get? b=some u->h'.get? b=some u)
  (ho:∀b,H b=some (.own a)->H' b=some (.own a)) (ht:∀b xs,H b=some (.tup xs)->H' b=some (.tup xs)):ObjOk P w H' h' a o:=by
 induction o with
 |lst xs=>obtain⟨z,its,n,r,e⟩:=x;exact⟨z,its,n,r,k _ _ (.inl rfl) e⟩
 |tup xs=>obtain⟨z,its,r,ob,e,c⟩:=x;exact⟨z,its,r,ob,k _ _ (.inl rfl) e,c⟩
 |dK kvs=>obtain⟨z,y,vs,r,ob,es,ep,e,c⟩:=x;exact⟨z,y,vs,r,ob,es,ep,k _ _ (.inl rfl) e,c⟩
 |dT kvs=>
  obtain⟨z,y,xs,r,ob,es,ep,e,c⟩:=x;exact⟨z,y,xs,Paired.mapP r λp q z=>⟨z.1,ht _ _ z.2.1,z.2.2⟩,ob,es,ep,k _ _ (.inl rfl) e,c⟩
 |set S n=>obtain⟨ob,es,ep,t,e,c⟩:=x;exact⟨ob,es,ep,t,k _ _ (.inl rfl) e,c⟩
 |ins C dx fs=>
  obtain⟨d,z,ne,e,mA,⟨od,es,ep,e2,c⟩,r⟩:=x;exact⟨ho _ d,z,ne,k _ _ (.inl rfl) e,mA,⟨od,es,ep,k _ _ (.inr d) e2,c⟩,r⟩
 |own y=>obtain⟨ob,e⟩:=x;exact⟨ob,k _ _ (.inl rfl) e⟩
 |xd fs=>obtain⟨mA,⟨od,es,ep,e,c⟩,r⟩:=x;exact⟨mA,⟨od,es,ep,k _ _ (.inl rfl) e,c⟩,r⟩
 |rng lo hi=>obtain⟨t,u,v,e⟩:=x;exact⟨t,u,v,k _ _ (.inl rfl) e⟩
 |frz ob u ih=>obtain⟨e,q⟩:=x;exact⟨k _ _ (.inl rfl) e,ih q⟩
 |tbl ps=>
  have e:h.get? a=some {cls:=.none,data:=.fields ps}:=x;exact k a _ (.inl rfl) e
 |met f y=>
  have e:h.get? a=some (PySem.W.methodObj (.ref f) (.ref y)):=x;exact k a _ (.inl rfl) e
 |ext φ=>obtain⟨p,⟨o,e⟩,st⟩:=x;exact⟨st _ _ p λo q=>k _ _ (.inl rfl) q,⟨o,k _ _ (.inl rfl) e⟩,st⟩
theorem HOk.lt(x:HOk P w H h)(e:H a=some o):a<h.objs.size:=(x a o e).lt
theorem HOk.fresh(x:HOk P w H h)(e:h.objs.size<=a):H a=none:=by
 cases q:H a with
 |none=>rfl
 |some u=>exact absurd (zB4 (x.lt q) e) (Zak _)
theorem HOk.kept(x:HOk P w H h)(k:∀b u,h.get? b=some u->h'.get? b=some u):HOk P w H h':=λa o e=>
 (x a o e).stay (λb u _ q=>k b u q) (λ_ q=>q) λ_ _ q=>q
theorem HOk.laid(x:HOk P w H h)(k:∀b u,h.get? b=some u->h'.get? b=some u)(hp:h.objs.size<=a)(new:ObjOk P w (upd H a o) h' a o):HOk P w (upd H a o) h':=λb u e=>by
 have hn:=x.fresh hp;by_cases hb:b=a
 .subst hb;rw[aa]at e;cases e;exact new
 .rw[aA hb]at e
  exact(x b u e).stay (λc v _ q=>k c v q) (λc q=>by rw[aA (aD q hn)];exact q) λc xs q=>by rw[aA (aD q hn)];exact q
end
def Rd(H:Hp)(a:Addr)(u:HO):Prop:=H a=some u\/∃o,H a=some (.frz o u)
theorem Rd.ok(r:Rd H a u)(x:HOk P w H h):ObjOk P w H h a u:=by
 rcases r with r|⟨o,r⟩
 .exact x a u r
 .obtain⟨_,q⟩:=x a _ r;exact q
def Mut:Option HO->Prop
 |some (.lst _)=>True
 |some (.dK _)=>True
 |some (.dT _)=>True
 |some (.set _ _)=>True
 |some (.ins _ _ _)=>True
 |some (.ext _)=>True
 |_=>False
section
theorem HOk.write(ok:HOk P w H h)(mu:Mut (H x))(he:e=x\/H e=some (.own x))(k:∀b u,b≠e->h.get? b=some u->h'.get? b=some u)(y8:∃u,h'.get? e=some u)
  (new:ObjOk P w (upd H x o') h' x o'):HOk P w (upd H x o') h':=λb u q=>by
 have A6:∀c y,H c=some (.own y)->c≠x:=λc y r z=>by subst z;rw[r]at mu;exact mu
 have HC:∀c xs,H c=some (.tup xs)->c≠x:=λc xs r z=>by subst z;rw[r]at mu;exact mu
 by_cases hb:b=x
 .subst hb;rw[aa]at q;cases q;exact new
 .rw[aA hb]at q;by_cases A7:b=e
  .have q':H b=some (.own x):=by grind
   rw[q]at q';cases q';obtain⟨v,hv⟩:=y8;exact⟨v,by rw[A7];exact hv⟩
  .refine(ok b u q).stay (λc v hc r=>k c v ?_ r) (λc r=>by rw[aA (A6 c b r)];exact r) λc xs r=>by rw[aA (HC c xs r)];exact r
   rcases hc with rfl|hc
   .exact A7
   .rintro rfl;rcases he with z|z
    .exact A6 c b hc z
    .rw[hc]at z;cases z;exact hb rfl
end
structure Un(fs ex:List Addr)(H H':Hp)(h h':Heap):Prop where
 keep:∀b o,h.get? b=some o->H b=none->b∉fs->b∉ex->h'.get? b=some o
 slot:∀b o,h.get? b=some o->H b=none->b∈fs->b∉ex->∃sl,h'.get? b=some {o with slots:=sl}
 free:∀b o,h.get? b=some o->H b=none->b∉ex->H' b=none
 there:∀b o,h.get? b=some o->b∉ex->∃o',h'.get? b=some o'
 tups:∀b xs,H b=some (.tup xs)->H' b=some (.tup xs)
 frzs:∀b o u,H b=some (.frz o u)->H' b=some (.frz o u)
 tbls:∀b ps,H b=some (.tbl ps)->∃more,H' b=some (.tbl (ps++more))
section
variable{h h1 h2 h':Heap}{a x e:Addr}
theorem Un.any(u:Un fs ex H H1 h h1)(q:h.get? b=some ob)(n:H b=none)(hx:b∉ex):∃sl,h1.get? b=some {ob with slots:=sl}:=by
 by_cases hb:b∈fs
 .exact u.slot b ob q n hb hx
 .exact⟨ob.slots,u.keep b ob q n hb hx⟩
theorem Un.kept(k:∀b u,h.get? b=some u->h'.get? b=some u):Un fs ex H H h h':=
 ⟨λb ob q _ _ _=>k b ob q,λb ob q _ _ _=>⟨ob.slots,k b ob q⟩,λ_ _ _ n _=>n,λb ob q _=>⟨ob,k b ob q⟩,λ_ _ q=>q,λ_ _ _ q=>q,λ_ ps q=>⟨#[],by rw[q];simp⟩⟩
theorem Un.refl:Un fs ex H H h h:=Un.kept λ_ _ q=>q
theorem Un.laid(k:∀b u,h.get? b=some u->h'.get? b=some u)(hp:h.objs.size<=a)(hn:H a=none):Un fs ex H (upd H a o) h h' where
 keep:=λb u q _ _ _=>k b u q
 slot:=λb u q _ _ _=>⟨u.slots,k b u q⟩
 free:=λb u q n _=>by rw[aA (zB5 (zB4 (zB0 q) hp))];exact n
 there:=λb u q _=>⟨u,k b u q⟩
 tups:=λb xs q=>by rw[aA (aD q hn)];exact q
 frzs:=λb u xs q=>by rw[aA (aD q hn)];exact q
 tbls:=λb ps q=>⟨#[],by rw[aA (aD q hn),q];simp⟩
theorem Un.write(mu:Mut (H x))(he:e=x\/H e=some (.own x))(k:∀b u,b≠e->h.get? b=some u->h'.get? b=some u)(y8:∃u,h'.get? e=some u):Un fs ex H (upd H x o) h h':=by
 have hx:∀b,H b=none->b≠x:=λb n z=>by subst z;rw[n]at mu;exact mu
 have hb:∀b,H b=none->b≠e:=λb n z=>by
  subst z;rcases he with r|r
  .exact hx b n r
  .rw[n]at r;cases r
 have hm:∀b u,H b=some u->¬Mut (some u)->b≠x:=λb u q nm z=>by subst z;rw[q]at mu;exact nm mu
 refine⟨λb u q n _ _=>k b u (hb b n) q,λb u q n _ _=>⟨u.slots,k b u (hb b n) q⟩,λb u q n _=>by rw[aA (hx b n)];exact n,λb u q _=>?_,
  λb xs q=>by rw[aA (hm b _ q λz=>z)];exact q,λb u xs q=>by rw[aA (hm b _ q λz=>z)];exact q,λb ps q=>⟨#[],by rw[aA (hm b _ q λz=>z),q];simp⟩⟩
 by_cases A7:b=e
 .subst A7;exact y8
 .exact⟨u,k b u A7 q⟩
end
def trk(h:Heap)(H:Hp):List Addr:=(List.range h.objs.size).filter λa=>(H a).isSome
def pq(h:Heap)(H:Hp):Heap:=PySem.W.hideAll h (trk h H)
theorem Ab(h:Heap)(H:Hp):(pq h H).objs.size=h.objs.size:=PySem.W.hideAll_size _ _
theorem Ci(e:h.get? b=some o)(n:H b=none):(pq h H).get? b=some o:=
 PySem.W.hideAll_get _ e λhm=>by
  have q:(H b).isSome=true:=(zAq.mp hm).2;rw[n]at q;simp at q
theorem Ge(e:(pq h H).get? b=some o):h.get? b=some o/\H b=none:=by
 have e':h.get? b=some o:=PySem.W.of_hideAll (trk h H) e;refine⟨e',?_⟩
 cases q:H b with
 |none=>rfl
 |some x=>
  have hm:b∈trk h H:=zAq.mpr ⟨Zan.mpr (zB0 e'),by simp[q]⟩;have z:(pq h H).get? b=none:=PySem.W.hideAll_none (trk h H) hm;rw[z]at e;cases e
structure Mod(K:Frag)(mg:Str->Option Value)(base:Heap):Prop where
 kin:K.In base
 glob:base.Ns mainGlobals mg
 blt:∃mb,base.Ns builtinsNs mb/\∀x:Str,x≠"__name__"->mb x=bootBuiltins x
 nolimit:base.NoLimit
structure Cx where
 prog:Program
 w:World
 K:Frag
 mg:Str->Option Value
 base:Heap
 A:Around
 N:List Str
 s₀:Shared
 H₀:Hp
 env:Env
 outer:List Env
 stack:List Env
 ex:List Addr
 fn:Str->Bool
 calm:Bool
 pn:List (Addr×Obj)
 xe:Value->Shared->Prop
def frs(l:List Env):List Addr:=l.filterMap (·.frame)
abbrev Cx.fs(X:Cx):List Addr:=frs X.outer
def Vis(sc:Scope)(x:Str):Prop:=sc.names.lookup x=some .local\/sc.names.lookup x=some .cell\/sc.names.lookup x=some .free
def Loc(sc:Scope)(x:Str):Prop:=sc.names.lookup x=some .local\/sc.names.lookup x=some .cell
def Look(env:Env)(h:Heap)(m:Str->Option Value)(x:Str)(u:Value):Prop:=
 (env.kindOf x=some .local/\m x=some u)\/((env.kindOf x=some .cell\/env.kindOf x=some .free)/\∃c,env.cells.lookup x=some c/\h.IsCell c (some u))
structure Cx.Ok(X:Cx):Prop where
 mod:Mod X.K X.mg X.base
 kind:X.env.scope.kind=.function
 glob:X.env.globals=mainGlobals
 blt:X.env.builtins=builtinsNs
 above:X.s₀.heap.objs.size<=X.env.locals
 inj:∀x y c,X.env.cells.lookup x=some c->X.env.cells.lookup y=some c->x=y
 has:∀x,(X.env.kindOf x=some .cell\/X.env.kindOf x=some .free)->∃c,X.env.cells.lookup x=some c
 cab:∀x c,X.fn x=true->X.env.cells.lookup x=some c->X.s₀.heap.objs.size<=c
 hd:X.calm=true->X.A.handled=none
 frames:X.A.frames=some X.stack
 stk:X.stack=X.outer\/(X.stack=X.env::X.outer/\X.env.frame=some X.env.locals)
 exf:∀b∈X.ex,b≠X.env.locals/\∀x c,X.env.cells.lookup x=some c->c≠b
 bs:∀b o,X.base.get? b=some o->X.s₀.heap.get? b=some o/\X.H₀ b=none
 bsz:X.base.objs.size<=X.s₀.heap.objs.size
 noex:∀b o,X.base.get? b=some o->b∉X.ex
 exfs:∀b∈X.ex,b∉X.fs
 funs:X.s₀.heap.FunFrames X.base X.outer
 frf:∀b∈X.fs,X.H₀ b=none
structure Inv(X:Cx)(z06:List (Addr×Obj))(σ:List (Option V))(H:Hp)(s:Shared):Prop where
 ok:X.Ok
 os:s.os=X.s₀.os
 bare:AllBare s.gens
 base:Un X.fs X.ex X.H₀ H X.s₀.heap s.heap
 loc:∃m,s.heap.Ns X.env.locals m/\∀(i:Nat) x v,X.N[i]?=some x->σ[i]?=some (some v)->Vis X.env.scope x->∃u,RelV v u/\Look X.env s.heap m x u
 cell:∀x c,X.env.cells.lookup x=some c->∃v,s.heap.IsCell c v
 free:H X.env.locals=none
 freeC:∀x c,X.env.cells.lookup x=some c->H c=none
 pin:∀p∈X.pn++z06,s.heap.get? p.1=some p.2/\H p.1=none/\p.1≠X.env.locals/\p.1∉X.fs/\∀v,p.2.data≠.cell v
 hok:HOk X.prog X.w H s.heap
 len:σ.length=X.N.length
section
variable{X:Cx}
theorem Cx.Ok.nofr(ok:X.Ok)(e:X.base.get? b=some o):b∉X.fs:=λhb=>by
 have:=(ok.funs.mem hb).1;rw[e]at this;cases this
theorem Inv.bs(I:Inv X z06 σ H s):∀b o,X.base.get? b=some o->s.heap.get? b=some o/\H b=none:=λb o e=>
 ⟨I.base.keep b o (I.ok.bs b o e).1 (I.ok.bs b o e).2 (I.ok.nofr e) (I.ok.noex b o e),I.base.free b o (I.ok.bs b o e).1 (I.ok.bs b o e).2 (I.ok.noex b o e)⟩
theorem Inv.bk(I:Inv X z06 σ H s):∀b o,X.base.get? b=some o->s.heap.get? b=some o:=λb o e=>(I.bs b o e).1
theorem Inv.mod(I:Inv X z06 σ H s):Mod X.K X.mg X.base:=I.ok.mod
theorem Inv.kIn(I:Inv X z06 σ H s):X.K.In s.heap:=I.ok.mod.kin.keeps I.bk
theorem Inv.lt(I:Inv X z06 σ H s):X.env.locals<s.heap.objs.size:=by obtain⟨_,hn,_⟩:=I.loc;exact hn.lt
theorem Inv.sz(I:Inv X z06 σ H s):X.s₀.heap.objs.size<=s.heap.objs.size:=Zah I.ok.above (Za4 I.lt)
theorem Inv.nofs(I:Inv X z06 σ H s){a:Addr}(h:s.heap.objs.size<=a):a∉X.fs:=λhb=>by
 obtain⟨_,o,ho,_⟩:=I.ok.funs.mem hb;exact absurd (zB4 (zB0 ho) (Zah I.sz h)) (Zak _)
theorem Inv.cne(I:Inv X z06 σ H s):∀x c,X.env.cells.lookup x=some c->c≠X.env.locals:=λx c e z=>by
 obtain⟨v,o,ho,hd⟩:=I.cell x c e;obtain⟨m,⟨o',es,ep,gN,EW,_⟩,_⟩:=I.loc;rw[z,gN]at ho;cases ho;rw[EW]at hd;cases hd
theorem Inv.funs(I:Inv X z06 σ H s):s.heap.FunFrames X.base X.outer:=by
 have all:∀(l:List Env),(∀b∈frs l,b∈X.fs)->X.s₀.heap.FunFrames X.base l->s.heap.FunFrames X.base l:=by
  intro l
  induction l with
  |nil=>intro _ _;trivial
  |cons env r ih=>
   intro hs hl;obtain⟨hk,⟨L,o,hf,hn,ho,hd⟩,hr⟩:=hl;have hL:L∈X.fs:=hs L (by unfold frs;rw[Zaj,hf];exact Zap);obtain⟨sl,e⟩:=I.base.slot L o ho (I.ok.frf L hL) hL λz=>I.ok.exfs L z hL;exact⟨hk,⟨L,_,hf,hn,e,hd⟩,ih (λb hb=>hs b (by unfold frs;rw[Zaj,hf];exact Zai _ hb)) hr⟩
 exact all X.outer (λ_ hb=>hb) I.ok.funs
theorem Inv.stack(I:Inv X z06 σ H s):s.heap.FunFrames X.base X.stack:=by
 rcases I.ok.stk with e|⟨e,hf⟩
 .rw[e];exact I.funs
 .rw[e];obtain⟨m,hn,_⟩:=I.loc;refine .cons (by rw[I.ok.kind];decide) hf hn ?_ I.funs;exact Heap.get?_none_of_le (Zah I.ok.bsz I.ok.above)
theorem Inv.stkSub(I:Inv X z06 σ H s):∀b∈frs X.stack,b∈X.env.locals::X.fs:=λb hb=>by
 rcases I.ok.stk with e|⟨e,hf⟩
 .rw[e]at hb;exact Zai _ hb
 .rw[e]at hb;unfold frs at hb;rw[Zaj,hf]at hb;exact hb
theorem Inv.stkFree(I:Inv X z06 σ H s):∀b∈frs X.stack,H b=none:=λb hb=>by
 rcases zAo.mp (I.stkSub b hb)with e|hb
 .rw[e];exact I.free
 .obtain⟨_,o,ho,_⟩:=I.ok.funs.mem hb;exact I.base.free b o ho (I.ok.frf b hb) λz=>I.ok.exfs b z hb
theorem Inv.step{ch:List Addr}(I:Inv X z06 σ H s)
  (oQ:∀b∈ch,(b∈X.ex\/X.s₀.heap.objs.size<=b)/\b≠X.env.locals/\(∀x c,X.env.cells.lookup x=some c->c≠b)/\∀p∈X.pn++z06,p.1≠b)
  (keep:∀b o,b≠X.env.locals->b∉X.fs->b∉ch->s.heap.get? b=some o->H b=none->h'.get? b=some o)
  (slot:∀b o,b≠X.env.locals->b∈X.fs->b∉ch->s.heap.get? b=some o->H b=none->∃sl,h'.get? b=some {o with slots:=sl}) (free:∀b o,b∉ch->s.heap.get? b=some o->H b=none->H' b=none)
  (there:∀b o,b∉ch->s.heap.get? b=some o->∃o',h'.get? b=some o')
  (tups:∀b xs,H b=some (.tup xs)->H' b=some (.tup xs)) (frzs:∀b o u,H b=some (.frz o u)->H' b=some (.frz o u)) (tbls:∀b ps,H b=some (.tbl ps)->∃more,H' b=some (.tbl (ps++more)))
  (ns:∀m,s.heap.Ns X.env.locals m->h'.Ns X.env.locals m) (hok:HOk X.prog X.w H' h') (hg:AllBare g'):
  Inv X z06 σ H' {s with heap:=h',gens:=g',drawn:=d',toks:=t'}:=by
 have EZ:∀b o,X.s₀.heap.get? b=some o->b≠X.env.locals:=λb o e=>zB5 (zB4 (zB0 e) I.ok.above)
 have E1:∀b o,X.s₀.heap.get? b=some o->b∉X.ex->b∉ch:=λb o e hx hb=>by
  rcases(oQ b hb).1 with z|z
  .exact hx z
  .exact absurd (zB4 (zB0 e) z) (Zak _)
 have cellK:∀x c,X.env.cells.lookup x=some c->∀v,s.heap.IsCell c v->h'.IsCell c v:=λx c e v hZ=>by
  obtain⟨o,ho,hd⟩:=hZ;have A8:c∉ch:=λz=>(oQ c z).2.2.1 x c e rfl;by_cases hc:c∈X.fs
  .obtain⟨sl,q⟩:=slot c o (I.cne x c e) hc A8 ho (I.freeC x c e);exact⟨_,q,hd⟩
  .exact⟨o,keep c o (I.cne x c e) hc A8 ho (I.freeC x c e),hd⟩
 refine⟨I.ok,I.os,hg,⟨λb o e n hb hx=>?_,λb o e n hb hx=>?_,λb o e n hx=>?_,λb o e hx=>?_,λb xs e=>tups b xs (I.base.tups b xs e),λb o xs e=>frzs b o xs (I.base.frzs b o xs e),λb ps e=>?_⟩,?_,λx c e=>?_,?_,λx c e=>?_,λp hp=>?_,hok,I.len⟩
 .exact keep b o (EZ b o e) hb (E1 b o e hx) (I.base.keep b o e n hb hx) (I.base.free b o e n hx)
 .obtain⟨sl,e1⟩:=I.base.slot b o e n hb hx;obtain⟨E2,e2⟩:=slot b _ (EZ b o e) hb (E1 b o e hx) e1 (I.base.free b o e n hx);exact⟨E2,e2⟩
 .obtain⟨o',e1⟩:=I.base.there b o e hx;exact free b o' (E1 b o e hx) e1 (I.base.free b o e n hx)
 .obtain⟨o',e1⟩:=I.base.there b o e hx;exact there b o' (E1 b o e hx) e1
 .obtain⟨m1,e1⟩:=I.base.tbls b ps e;obtain⟨m2,e2⟩:=tbls b _ e1;exact⟨m1++m2,by rw[e2,Array.append_assoc]⟩
 .obtain⟨m,hn,hl⟩:=I.loc;refine⟨m,ns m hn,λi x v e1 e2 e3=>?_⟩;obtain⟨u,r,l⟩:=hl i x v e1 e2 e3;refine⟨u,r,?_⟩;rcases l with l|⟨k,c,e,z⟩
  .exact .inl l
  .exact .inr ⟨k,c,e,cellK x c e _ z⟩
 .obtain⟨v,z⟩:=I.cell x c e;exact⟨v,cellK x c e v z⟩
 .obtain⟨m,⟨o,_,_,ho,_⟩,_⟩:=I.loc;exact free _ o (λz=>(oQ _ z).2.1 rfl) ho I.free
 .obtain⟨v,o,ho,hd⟩:=I.cell x c e;exact free c o (λz=>(oQ c z).2.2.1 x c e rfl) ho (I.freeC x c e)
 .obtain⟨e,n,ne,nf,d⟩:=I.pin p hp;have A8:p.1∉ch:=λz=>(oQ p.1 z).2.2.2 p hp rfl;exact⟨keep p.1 p.2 ne nf A8 e n,free p.1 p.2 A8 e n,ne,nf,d⟩
theorem Inv.un(I:Inv X z06 σ H s)(u:Un X.fs [] H H' s.heap h')(hok:HOk X.prog X.w H' h'):Inv X z06 σ H' {s with heap:=h',toks:=t'}:=by
 obtain⟨m,⟨o,es,ep,ho,r⟩,_⟩:=id I.loc;obtain⟨sl,hL⟩:=u.any ho I.free z01
 exact I.step (g':=s.gens) (d':=s.drawn) (ch:=[]) (λ_ z=>nomatch z) (λb o _ hb _ e n=>u.keep b o e n hb z01) (λb o _ hb _ e n=>u.slot b o e n hb z01) (λb o _ e n=>u.free b o e n z01) (λb o _ e=>u.there b o e z01) u.tups u.frzs u.tbls (λm' hm=>by
  obtain⟨o',fN,A9,gN,r'⟩:=hm;rw[ho]at gN;cases gN
  exact⟨_,fN,A9,hL,r'⟩) hok I.bare
theorem Inv.call(I:Inv X z06 σ H s)(u:Un (frs X.stack) ch H H' s.heap h')(hok:HOk X.prog X.w H' h')(hg:AllBare g')
  (oQ:∀b∈ch,(b∈X.ex\/X.s₀.heap.objs.size<=b)/\b≠X.env.locals/\(∀x c,X.env.cells.lookup x=some c->c≠b)/\∀p∈X.pn++z06,p.1≠b):
  Inv X z06 σ H' {s with heap:=h',gens:=g',drawn:=d',toks:=t'}:=by
 obtain⟨m,⟨o,es,ep,ho,r⟩,_⟩:=id I.loc;obtain⟨sl,hL⟩:=u.any ho I.free λz=>(oQ _ z).2.1 rfl
 exact I.step (ch:=ch) oQ (λb o hL hb hc e n=>u.keep b o e n (λz=>(zAo.mp (I.stkSub b z)).elim hL hb) hc) (λb o _ _ hc e n=>u.any e n hc) (λb o hc e n=>u.free b o e n hc) (λb o hc e=>u.there b o e hc) u.tups u.frzs u.tbls (λm' hm=>by
  obtain⟨o',fN,A9,gN,r'⟩:=hm;rw[ho]at gN;cases gN
  exact⟨_,fN,A9,hL,r'⟩) hok hg
theorem Inv.turned(I:Inv X z06 σ H s)(k:∀b o,b≠it->s.heap.get? b=some o->h'.get? b=some o)(hn:H it=none)(hL:it≠X.env.locals)
  (h1:it∈X.ex\/X.s₀.heap.objs.size<=it) (h2:∀x c,X.env.cells.lookup x=some c->c≠it) (h3:∀p∈X.pn++z06,p.1≠it):Inv X z06 σ H {s with heap:=h',toks:=t'}:=by
 have NF:∀b u,H b=some u->b≠it:=λb u e z=>by rw[z,hn]at e;cases e
 refine I.step (g':=s.gens) (d':=s.drawn) (ch:=[it]) (λb hb=>?_) (λb o _ _ hc e _=>k b o (λz=>hc (by simp[z])) e) (λb o _ _ hc e _=>⟨o.slots,k b o (λz=>hc (by simp[z])) e⟩) (λ_ _ _ _ n=>n)
  (λb o hc e=>⟨o,k b o (λz=>hc (by simp[z])) e⟩) (λ_ _ e=>e) (λ_ _ _ e=>e) (λb ps e=>⟨#[],by rw[e];simp⟩) (λm hm=>?_) (λb u e=>?_) I.bare
 .have e:b=it:=by simpa using hb
  subst e;exact⟨h1,hL,h2,h3⟩
 .obtain⟨o,es,ep,ho,r⟩:=hm;exact⟨o,es,ep,k _ o (Ne.symm hL) ho,r⟩
 .refine(I.hok b u e).stay (λc v hc q=>k c v ?_ q) (λ_ q=>q) λ_ _ q=>q;rcases hc with z|z
  .rw[z];exact NF b u e
  .exact NF c _ z
theorem Inv.tok(I:Inv X z06 σ H s)(t:Nat):Inv X z06 σ H {s with toks:=t}:=I.un (h':=s.heap) (t':=t) Un.refl I.hok
theorem Inv.kept(I:Inv X z06 σ H s)(k:∀b u,s.heap.get? b=some u->h'.get? b=some u):Inv X z06 σ H {s with heap:=h',toks:=t'}:=I.un (Un.kept k) (I.hok.kept k)
theorem Inv.laid{a:Addr}(I:Inv X z06 σ H s)(k:∀b u,s.heap.get? b=some u->h'.get? b=some u)(hp:s.heap.objs.size<=a)(new:ObjOk X.prog X.w (upd H a o) h' a o):
  Inv X z06 σ (upd H a o) {s with heap:=h',toks:=t'}:=I.un (Un.laid k hp (I.hok.fresh hp)) (I.hok.laid k hp new)
theorem Inv.write(I:Inv X z06 σ H s)(mu:Mut (H x))(he:e=x\/H e=some (.own x))(k:∀b u,b≠e->s.heap.get? b=some u->h'.get? b=some u)(y8:∃u,h'.get? e=some u)
  (new:ObjOk X.prog X.w (upd H x o) h' x o):Inv X z06 σ (upd H x o) {s with heap:=h',toks:=t'}:=I.un (Un.write mu he k y8) (I.hok.write mu he k y8 new)
theorem Inv.pins_of(I:Inv X z06 σ H s)(h:∀p∈f7,s.heap.get? p.1=some p.2/\H p.1=none/\p.1≠X.env.locals/\p.1∉X.fs/\∀v,p.2.data≠.cell v):Inv X f7 σ H s:=
 ⟨I.ok,I.os,I.bare,I.base,I.loc,I.cell,I.free,I.freeC,λp hp=>(zA6.mp hp).elim (λz=>I.pin p (Zat _ z)) (h p),I.hok,I.len⟩
theorem uU{N:List Str}(hN:N.Nodup){i j:Nat}(a:N[i]?=some x)(b:N[j]?=some x):i=j:=by
 obtain⟨h1,e1⟩:=zAa.mp a;obtain⟨h2,e2⟩:=zAa.mp b;exact(List.getElem_inj hN).mp (e1.trans e2.symm)
theorem jC(I:Inv X z06 σ H s)(hN:X.N.Nodup)(hi:X.N[i]?=some x)(hx:Loc X.env.scope x)(r:RelV v u)
  (h:∀s',Inv X z06 (σ.set i (some v)) H s'->(∃a,Heap.SameBut a s.heap s'.heap/\(a=X.env.locals\/X.env.cells.lookup x=some a))->Q () s') (hf:X.fn x=true\/X.env.scope.names.lookup x=some .local:=by first|exact .inl rfl|exact .inr rfl|assumption):wpAny M A (storeName X.env x u) Q E s:=by
 obtain⟨m,hn,hl⟩:=id I.loc;have HE:(X.env.scope.kind==.class||(X.env.scope.kind==.module&&X.env.locals != X.env.globals))=false:=by rw[I.ok.kind];rfl
 have Bi:i<σ.length:=by rw[I.len];exact(zAa.mp hi).1
 have cne:=I.cne
 have tracked:∀{a:Addr} {h':Heap},(∃o,s.heap.get? a=some o/\H a=none)->Heap.SameBut a s.heap h'->HOk X.prog X.w H h':=λ{a h'} ha hs b ob e=>by
  obtain⟨_,_,hfree⟩:=ha;refine(I.hok b ob e).stay (λc w' hc q=>(hs.2 c ?_).trans q) (λ_ q=>q) λ_ _ q=>q;rintro rfl;rcases hc with rfl|hc
  .rw[hfree]at e;cases e
  .rw[hfree]at hc;cases hc
 rcases hx with hk|hk
 .refine wpAny_storeName_local hk hn (λh' HG hs=>?_) HE;obtain⟨oL,_,_,RC,_⟩:=id hn;refine h _ ⟨I.ok,I.os,I.bare,⟨λb o e n hb hx=>?_,λb o e n hb hx=>?_,I.base.free,λb o e hx=>?_,I.base.tups,I.base.frzs,I.base.tbls⟩,⟨_,HG,λj y v' e1 e2 e3=>?_⟩,λy c e=>?_,I.free,I.freeC,λp hp=>?_,tracked ⟨oL,RC,I.free⟩ hs,by simpa using I.len⟩ ⟨_,hs,.inl rfl⟩
  .exact(hs.2 b (zB5 (zB4 (zB0 e) I.ok.above))).trans (I.base.keep b o e n hb hx)
  .obtain⟨sl,e1⟩:=I.base.slot b o e n hb hx;exact⟨sl,(hs.2 b (zB5 (zB4 (zB0 e) I.ok.above))).trans e1⟩
  .obtain⟨o',e1⟩:=I.base.there b o e hx;exact⟨o',(hs.2 b (zB5 (zB4 (zB0 e) I.ok.above))).trans e1⟩
  .by_cases hj:j=i
   .subst hj;rw[hi]at e1;cases e1;rw[Zaw Bi]at e2;cases e2;exact⟨u,r,.inl ⟨hk,by simp⟩⟩
   .rw[List.getElem?_set_ne (Ne.symm hj)]at e2;obtain⟨u',r',q⟩:=hl j y v' e1 e2 e3;refine⟨u',r',?_⟩;rcases q with⟨k,e⟩|⟨k,c,e,z⟩
    .refine .inl ⟨k,?_⟩;have:y≠x:=λe=>hj (uU hN e1 (e▸hi));simp[this,e]
    .exact .inr ⟨k,c,e,z.sameBut hs (cne y c e)⟩
  .obtain⟨w',z⟩:=I.cell y c e;exact⟨w',z.sameBut hs (cne y c e)⟩
  .obtain⟨e,n,ne,nf,d⟩:=I.pin p hp;exact⟨(hs.2 p.1 ne).trans e,n,ne,nf,d⟩
 .have lS:X.fn x=true:=by
   rcases hf with z|z
   .exact z
   .rw[z]at hk;cases hk
  obtain⟨c,hc⟩:=I.ok.has x (.inl hk);obtain⟨w',z⟩:=I.cell x c hc;refine wpAny_storeName_cell I.ok.kind hk hc z (λh' ax hs=>?_);obtain⟨oc,E3,HI⟩:=id z;refine h {s with heap:=h'} ⟨I.ok,I.os,I.bare,⟨λb o e n hb hx=>?_,λb o e n hb hx=>?_,I.base.free,λb o e hx=>?_,I.base.tups,I.base.frzs,I.base.tbls⟩,⟨m,hn.sameBut hs (Ne.symm (cne x c hc)),λj y v' e1 e2 e3=>?_⟩,λy c' e=>?_,I.free,I.freeC,λp hp=>?_,tracked ⟨oc,E3,I.freeC x c hc⟩ hs,by simpa using I.len⟩ ⟨c,hs,.inr hc⟩
  .exact(hs.2 b (zB5 (zB4 (zB0 e) (I.ok.cab x c lS hc)))).trans (I.base.keep b o e n hb hx)
  .obtain⟨sl,e1⟩:=I.base.slot b o e n hb hx;exact⟨sl,(hs.2 b (zB5 (zB4 (zB0 e) (I.ok.cab x c lS hc)))).trans e1⟩
  .obtain⟨o',e1⟩:=I.base.there b o e hx;exact⟨o',(hs.2 b (zB5 (zB4 (zB0 e) (I.ok.cab x c lS hc)))).trans e1⟩
  .by_cases hj:j=i
   .subst hj;rw[hi]at e1;cases e1;rw[Zaw Bi]at e2;cases e2;exact⟨u,r,.inr ⟨.inl hk,c,hc,ax⟩⟩
   .rw[List.getElem?_set_ne (Ne.symm hj)]at e2;obtain⟨u',r',q⟩:=hl j y v' e1 e2 e3;refine⟨u',r',?_⟩;rcases q with q|⟨k,c',e,z'⟩
    .exact .inl q
    .refine .inr ⟨k,c',e,z'.sameBut hs ?_⟩;rintro rfl;exact hj (uU hN e1 (I.ok.inj _ _ _ e hc▸hi))
  .by_cases NG:c'=c
   .subst NG;exact⟨_,ax⟩
   .obtain⟨w2,z2⟩:=I.cell y c' e;exact⟨w2,z2.sameBut hs NG⟩
  .obtain⟨e,n,ne,nf,d⟩:=I.pin p hp;refine⟨(hs.2 p.1 ?_).trans e,n,ne,nf,d⟩;intro q;rw[q,E3]at e;have q':oc=p.2:=zAl e;exact d w' (by rw[<-q'];exact HI)
theorem jl(I:Inv X z06 σ H s)(hN:X.N.Nodup)(hi:X.N[i]?=some x)(hx:Loc X.env.scope x)(r:RelV v u)
  (h:∀s',Inv X z06 (σ.set i (some v)) H s'->Q () s') (hf:X.fn x=true\/X.env.scope.names.lookup x=some .local:=by first|exact .inl rfl|exact .inr rfl|assumption):wpAny M A (storeName X.env x u) Q E s:=
 jC I hN hi hx r (λs' I' _=>h s' I') hf
theorem Inv.call'(I:Inv X z06 σ H s)(ho:s'.os=s.os)(u:Un (frs X.stack) ch H H' s.heap s'.heap)(hok:HOk X.prog X.w H' s'.heap)(hg:AllBare s'.gens)
  (oQ:∀b∈ch,(b∈X.ex\/X.s₀.heap.objs.size<=b)/\b≠X.env.locals/\(∀x c,X.env.cells.lookup x=some c->c≠b)/\∀p∈X.pn++z06,p.1≠b):Inv X z06 σ H' s':=by
 obtain⟨h',g',d',t',o'⟩:=s';have e:o'=s.os:=ho;subst e;exact I.call (g':=g') (t':=t') (d':=d') u hok hg oQ
end
abbrev XK:=Value->Option Addr->Hp->Prop
abbrev St:=List (Option V)
abbrev VK:=V->Hp->Prop
abbrev TE:=St->Hp->VK->Prop
abbrev TT:=St->Hp->(Bool->Hp->Prop)->Prop
abbrev TA:=St->Hp->(List V->Hp->Prop)->Prop
structure Ends where
 nx:St->Hp->Prop
 rt:VK
 bk:St->Hp->Prop:=λ_ _=>False
 ct:St->Hp->Prop:=λ_ _=>False
abbrev TS:=Ends->St->Hp->Prop
def EP(X:Cx)(z06:List (Addr×Obj))(σ:St)(Q:VK)(u:Value)(s':Shared):Prop:=∃v H',Inv X z06 σ H' s'/\RelV v u/\Q v H'
def TP(X:Cx)(z06:List (Addr×Obj))(σ:St)(Q:Bool->Hp->Prop)(b:Bool)(s':Shared):Prop:=∃H',Inv X z06 σ H' s'/\Q b H'
def AP(X:Cx)(z06:List (Addr×Obj))(σ:St)(Q:List V->Hp->Prop)(us:List Value)(s':Shared):Prop:=∃vs H',Inv X z06 σ H' s'/\Vals vs us/\Q vs H'
def SP(X:Cx)(z06:List (Addr×Obj))(D:Ends)(f:Flow)(s':Shared):Prop:=
 match f with
 |.next=>∃ah H',Inv X z06 ah H' s'/\D.nx ah H'
 |.brk=>∃ah H',Inv X z06 ah H' s'/\D.bk ah H'
 |.cont=>∃ah H',Inv X z06 ah H' s'/\D.ct ah H'
 |.ret u=>∃v ah H',Inv X z06 ah H' s'/\RelV v u/\D.rt v H'
def PE(X:Cx)(e:Expr)(t:TE):Prop:=
 ∀z06 s (σ:St) H Q,Inv X z06 σ H s->t σ H Q->wpAny (model X.prog X.w) X.A (eval e X.env) (EP X z06 σ Q) X.xe s
def PT(X:Cx)(e:Expr)(t:TT):Prop:=
 ∀z06 s (σ:St) H Q,Inv X z06 σ H s->t σ H Q->wpAny (model X.prog X.w) X.A (isTrue e X.env (eval e X.env)) (TP X z06 σ Q) X.xe s
def PW(X:Cx)(e:Expr)(t:TT):Prop:=
 ∀whole z06 s (σ:St) H Q,Inv X z06 σ H s->t σ H Q->wpAny (model X.prog X.w) X.A (isTrue e X.env whole) (TP X z06 σ Q) X.xe s
theorem PW.pt(h:PW X e t):PT X e t:=h _
def PA(X:Cx)(es:List Expr)(t:TA):Prop:=
 ∀pos z06 s (σ:St) H Q,Inv X z06 σ H s->t σ H Q->wpAny (model X.prog X.w) X.A (spliced (backTo pos (starEach es X.env))) (AP X z06 σ Q) X.xe s
def PS(X:Cx)(st:Stmt)(t:TS):Prop:=
 ∀z06 s (σ:St) H D,Inv X z06 σ H s->t D σ H->wpAny (model X.prog X.w) X.A (exec st X.env) (SP X z06 D) X.xe s
def PSs(X:Cx)(st:List Stmt)(t:TS):Prop:=
 ∀z06 s (σ:St) H D,Inv X z06 σ H s->t D σ H->wpAny (model X.prog X.w) X.A (execs st X.env) (SP X z06 D) X.xe s
theorem thn{Q Q':α->Shared->Prop}(h:wpAny M A t Q E s)(hQ:∀a s,Q a s->Q' a s):wpAny M A t Q' E s:=wpAny_mono h hQ λ_ _ x=>x
section
variable{X:Cx}
theorem bin(ha:PE X a ta)(hb:PE X b tb){σ:St}{R:V->V->Hp->Prop}(I:Inv X z06 σ H s)(h:ta σ H λx H1=>tb σ H1 λy H2=>R x y H2)
  {α:Type} {Q:α->Shared->Prop} {f:Value->Value->Sem α}
  (hf:∀v u s2 x y H2,Inv X z06 σ H2 s2->RelV x v->RelV y u->R x y H2->wpAny (model X.prog X.w) X.A (f v u) Q X.xe s2):
  wpAny (model X.prog X.w) X.A (eval a X.env) (λv s₁=>wpAny (model X.prog X.w) X.A (eval b X.env) (λu s₂=>wpAny (model X.prog X.w) X.A (f v u) Q X.xe s₂) X.xe s₁) X.xe s:=by
 refine thn (ha z06 s σ H _ I h) λv s1=>?_;rintro⟨x,H1,I1,r1,q1⟩;refine thn (hb z06 s1 σ H1 _ I1 q1) λu s2=>?_;rintro⟨y,H2,I2,r2,q2⟩;exact hf v u s2 x y H2 I2 r1 r2 q2
inductive TVarI(i:Nat)(σ:St)(H:Hp)(Q:VK):Prop
 |mk:∀v,(σ[i]?=some (some v))->(Q v H)->TVarI i σ H Q
def iz(i:Nat):TE:=λσ H Q=>TVarI i σ H Q
def tC(v:V):TE:=λ_ H Q=>Q v H
theorem wW{pos:Pos}(hN:X.N[i]?=some x)(hv:Vis X.env.scope x)(hd:(x==("__debug__":Str))=false:=by decide)(eB:(x==("__classdict__":Str))=false:=by decide):PE X (.Name x pos) (iz i):=by
 intro z06 s σ H Q I h;obtain⟨v,e,h⟩:=h;obtain⟨m,hn,hl⟩:=I.loc;obtain⟨u,r,l⟩:=hl i x v hN e hv
 have fin:EP X z06 σ Q u s:=⟨v,H,I,r,h⟩
 rcases l with⟨hk,hm⟩|⟨hk,c,hc,hcell⟩
 .exact wpAny_Name (wpAny_loadName_local I.ok.kind hk hn hm fin) hd
 .rcases hk with hk|hk
  .exact wpAny_Name (wpAny_loadName_cell I.ok.kind hk hc hcell fin) hd
  .exact wpAny_Name (wpAny_loadName_free I.ok.kind hk hc hcell fin eB) hd
theorem au{i j pos}:PE X (.Constant (.int i) j pos) (tC (.int i)):=λ_ _ _ H _ I h=>wpAny_Constant_int ⟨.int i,H,I.tok _,⟨_,rfl⟩,h⟩
theorem iD{b j pos}:PE X (.Constant (.bool b) j pos) (tC (.bl b)):=λ_ _ _ H _ I h=>Constant_bool ⟨.bl b,H,I,rfl,h⟩
theorem jW{j pos}:PE X (.Constant .none j pos) (tC .non):=λ_ _ _ H _ I h=>Constant_none ⟨.non,H,I,rfl,h⟩
theorem dX{x j pos}:PE X (.Constant (.str x) j pos) (tC (.str x)):=λ_ _ _ H _ I h=>Calls.Constant_str ⟨.str x,H,I.tok _,⟨_,rfl⟩,h⟩
def Gl(X:Cx)(x:Str):Prop:=X.env.kindOf x=some .globalImplicit
theorem jD{σ:St}(I:Inv X z06 σ H s)(hg:Gl X x)(hm:X.mg x=some u)(h:Q u s)
  (hd:(x==("__debug__":Str))=false:=by decide):wpAny (model X.prog X.w) X.A (eval (.Name x pos) X.env) Q E s:=
 Calls.Name_function_global I.ok.kind hg (Calls.loadGlobal_global (by rw[I.ok.glob];exact I.mod.glob.keeps I.bk) hm h) hd
theorem j6{E:Value->Shared->Prop}{σ:St}{u:Value}{pos:Pos}{Q:Value->Shared->Prop}(I:Inv X z06 σ H s)(hg:Gl X x)(hm:X.mg x=none)(hv:bootBuiltins x=some u)(h:Q u s)
  (hn:x≠"__name__":=by decide) (hd:(x==("__debug__":Str))=false:=by decide):wpAny (model X.prog X.w) X.A (eval (.Name x pos) X.env) Q E s:=by
 obtain⟨mb,h1,h2⟩:=I.mod.blt;exact Calls.Name_function_global I.ok.kind hg (Calls.loadGlobal_builtin (by rw[I.ok.glob];exact I.mod.glob.keeps I.bk) hm (by rw[I.ok.blt];exact h1.keeps I.bk) ((h2 x hn).trans hv) h) hd
theorem bO(hg:Gl X x)(hm:X.mg x=some u)(r:RelV v u)(hd:(x==("__debug__":Str))=false:=by decide):PE X (.Name x pos) (tC v):=
 λ_ _ _ H _ I h=>jD I hg hm ⟨v,H,I,r,h⟩ hd
theorem dh{pos:Pos}(hg:Gl X x)(hm:X.mg x=none)(hv:bootBuiltins x=some u)(r:RelV v u)(hn:x≠"__name__":=by decide)(hd:(x==("__debug__":Str))=false:=by decide):PE X (.Name x pos) (tC v):=
 λ_ _ _ H _ I h=>j6 I hg hm hv ⟨v,H,I,r,h⟩ hn hd
def PC(X:Cx)(op:CmpOp)(a b:Expr)(t:TE):Prop:=
 ∀z06 s (σ:St) H Q,Inv X z06 σ H s->t σ H Q->
  wpAny (model X.prog X.w) X.A (eval a X.env) (λv s₁=>wpAny (model X.prog X.w) X.A (eval b X.env) (λu s₂=>wpAny (model X.prog X.w) X.A (compareOp op v u) (EP X z06 σ Q) X.xe s₂) X.xe s₁) X.xe s
def tB(t:TE):TT:=λσ H Q=>t σ H λx H1=>∃c,x=.bl c/\Q c H1
theorem Jm(h:PC X op a b t)(h1:behindInMarks op b=false:=by first|exact nobehind _ z02 z02|rfl):PT X (.Compare a [op] [b] pos) (tB t):=by
 intro z06 s σ H Q I hw;refine wpAny_isTrue_Compare1 (thn (h z06 s σ H _ I hw) λv s1 h1=>thn h1 λu s2 h2=>thn h2 λc s3=>?_) h1;rintro⟨x,H1,I1,r1,q1⟩;obtain⟨d,rfl,q⟩:=q1;cases r1;exact wpAny_truthy_bool ⟨H1,I1,q⟩
theorem bL(h:PE X e t)(he:∀whole,isTrue e X.env whole=(do let v <-whole;standAt e.pos;holding [v] (truthy v)):=by intro _;rfl):PT X e (tB t):=by
 intro z06 s σ H Q I hw;refine isTrue_plain (thn (h z06 s σ H _ I hw) λv s1=>?_) (he _);rintro⟨x,H1,I1,r1,q1⟩;obtain⟨d,rfl,q⟩:=q1;cases r1;exact wpAny_truthy_bool ⟨H1,I1,q⟩
def Jo(t u:TT):TT:=λσ H Q=>t σ H λc H1=>if c=true then u σ H1 Q else Q false H1
def tOr(t u:TT):TT:=λσ H Q=>t σ H λc H1=>if c=true then Q true H1 else u σ H1 Q
def KJ(t:TT):TT:=λσ H Q=>t σ H λc H1=>Q (!c) H1
theorem jE(ha:PT X a tA):PW X (.BoolOp .And [a] pos) tA:=by
 intro wh z06 s σ H Q I h;refine isTrue_and (thn (ha z06 s σ H Q I h) λc s1 e=>?_)
 cases c with
 |true=>exact isTrue_and_nil e
 |false=>exact e
theorem j7(ha:PT X a tA):PW X (.BoolOp .Or [a] pos) tA:=by
 intro wh z06 s σ H Q I h;refine isTrue_or (thn (ha z06 s σ H Q I h) λc s1 e=>?_)
 cases c with
 |false=>exact isTrue_or_nil e
 |true=>exact e
theorem iB(ha:PT X a tA)(hb:PW X (.BoolOp .And (b::rest) pos) E4):PW X (.BoolOp .And (a::b::rest) pos) (Jo tA E4):=by
 intro wh z06 s σ H Q I h;refine isTrue_and (thn (ha z06 s σ H _ I h) λc s1=>?_);rintro⟨H1,I1,q1⟩
 cases c with
 |true=>exact hb wh z06 s1 σ H1 Q I1 q1
 |false=>exact⟨H1,I1,q1⟩
theorem iG(ha:PT X a tA)(hb:PW X (.BoolOp .Or (b::rest) pos) E4):PW X (.BoolOp .Or (a::b::rest) pos) (tOr tA E4):=by
 intro wh z06 s σ H Q I h;refine isTrue_or (thn (ha z06 s σ H _ I h) λc s1=>?_);rintro⟨H1,I1,q1⟩
 cases c with
 |true=>exact⟨H1,I1,q1⟩
 |false=>exact hb wh z06 s1 σ H1 Q I1 q1
theorem cg(ha:PT X a tA):PT X (.UnaryOp .Not a pos) (KJ tA):=by
 intro z06 s σ H Q I h;exact isTrue_not (ha z06 s σ H (λc H1=>Q (!c) H1) I h)
def IK(ta tb:TE):TE:=λσ H Q=>ta σ H λx H1=>∃c,x=.bl c/\if c=true then tb σ H1 Q else Q (.bl false) H1
def Ni(ta tb:TE):TE:=λσ H Q=>ta σ H λx H1=>∃c,x=.bl c/\if c=true then Q (.bl true) H1 else tb σ H1 Q
def KN(ta:TE):TE:=λσ H Q=>ta σ H λx H1=>∃c,x=.bl c/\Q (.bl (!c)) H1
theorem eV{op}(h:PE X a t):PE X (.BoolOp op [a] pos) t:=λz06 s σ H Q I hw=>BoolOp_one (h z06 s σ H Q I hw)
theorem cF(ha:PE X a ta)(hb:PE X (.BoolOp .And (b::rest) pos) tb):PE X (.BoolOp .And (a::b::rest) pos) (IK ta tb):=by
 intro z06 s σ H Q I h;refine BoolOp_and (thn (ha z06 s σ H _ I h) λv s1=>?_);rintro⟨x,H1,I1,r1,q1⟩;obtain⟨c,rfl,q1⟩:=q1;cases r1;refine wpAny_truthy_bool ?_
 cases c with
 |true=>exact hb z06 s1 σ H1 Q I1 q1
 |false=>exact⟨.bl false,H1,I1,rfl,q1⟩
theorem KQ(ha:PE X a ta)(hb:PE X (.BoolOp .Or (b::rest) pos) tb):PE X (.BoolOp .Or (a::b::rest) pos) (Ni ta tb):=by
 intro z06 s σ H Q I h;refine BoolOp_or (thn (ha z06 s σ H _ I h) λv s1=>?_);rintro⟨x,H1,I1,r1,q1⟩;obtain⟨c,rfl,q1⟩:=q1;cases r1;refine wpAny_truthy_bool ?_
 cases c with
 |false=>exact hb z06 s1 σ H1 Q I1 q1
 |true=>exact⟨.bl true,H1,I1,rfl,q1⟩
theorem Cj(ha:PE X a ta):PE X (.UnaryOp .Not a pos) (KN ta):=by
 intro z06 s σ H Q I h;refine UnaryOp_ (thn (ha z06 s σ H _ I h) λv s1=>?_);rintro⟨x,H1,I1,r1,q1⟩;obtain⟨c,rfl,q1⟩:=q1;cases r1;exact not_of (wpAny_truthy_bool ⟨.bl (!c),H1,I1,rfl,q1⟩)
def tIf(t:TT)(ta tb:TE):TE:=λσ H Q=>t σ H λc H1=>if c=true then ta σ H1 Q else tb σ H1 Q
theorem uV(hc:PT X c tA)(ha:PE X a ta)(hb:PE X b tb):PE X (.IfExp c a b pos) (tIf tA ta tb):=by
 intro z06 s σ H Q I h;refine wpAny_IfExp (thn (hc z06 s σ H _ I h) λd s1=>?_);rintro⟨H1,I1,q1⟩
 cases d with
 |true=>exact ha z06 s1 σ H1 Q I1 q1
 |false=>exact hb z06 s1 σ H1 Q I1 q1
end
def SqL(K:Frag)(H:Hp)(a:Addr)(xs:List V):Prop:=
 Rd H a (.lst xs) \/
  ∃o its n,K.lookup a=some o/\o.cls=.type "list"/\o.dict=none/\o.data=.seq its n/\its.size<=sizeLine/\Vals xs its.toList
def SqT(K:Frag)(H:Hp)(a:Addr)(xs:List V):Prop:=
 Rd H a (.tup xs) \/
  ∃o its n,K.lookup a=some o/\o.cls=.type "tuple"/\o.data=.seq its n/\its.size<=sizeLine/\Vals xs its.toList
def Nj:Value->Option V
 |.none=>some .non
 |.bool b=>some (.bl b)
 |.int i _=>some (.int i)
 |.str x _=>some (.str x)
 |.bytes b _=>some (.byt b)
 |.float b _=>some (.flt b)
 |.ref a=>some (.ref a)
 |.type n=>some (.ty n)
 |_=>none
theorem RelV.abs(r:RelV x u):Nj u=some x:=by
 cases x with
 |non=>cases r;rfl
 |bl _=>cases r;rfl
 |int _=>obtain⟨t,rfl⟩:=r;rfl
 |str _=>obtain⟨t,rfl⟩:=r;rfl
 |byt _=>obtain⟨t,rfl⟩:=r;rfl
 |flt _=>obtain⟨t,rfl⟩:=r;rfl
 |ref _=>cases r;rfl
 |ty _=>cases r;rfl
theorem RelV.inj(r:RelV x u)(q:RelV y u):x=y:=zAl (r.abs.symm.trans q.abs)
theorem Vals.inj:∀{xs ys:List V} {us:List Value},Vals xs us->Vals ys us->xs=ys
 |_,_,_,.nil,.nil=>rfl
 |_,_,_,.cons r t,.cons r' t'=>by rw[r.inj r',Vals.inj t t']
section
variable{σ:St}
theorem SqL.of{K:Frag}(h:H a=some (.lst xs)):SqL K H a xs:=.inl (.inl h)
theorem SqT.of{K:Frag}(h:H a=some (.tup xs)):SqT K H a xs:=.inl (.inl h)
theorem Inv.list(I:Inv X z06 σ H s)(h:SqL X.K H a xs):∃its:List Value,Vals xs its/\PlainL s.heap a its.toArray/\xs.length<=sizeLine:=by
 rcases h with h|⟨o,its,n,hk,hc,hd,hs,hz,r⟩
 .obtain⟨z,its,n,r,e⟩:=h.ok I.hok;exact⟨its,r,⟨_,n,e,rfl,rfl,rfl⟩,z⟩
 .refine⟨its.toList,r,⟨o,n,I.kIn a o hk,hc,hd,by simpa using hs⟩,?_⟩;have e:=r.length;simp only[Array.length_toList]at e;lia
theorem Inv.tuple(I:Inv X z06 σ H s)(h:SqT X.K H a xs):∃its:List Value,Vals xs its/\IsTup s.heap a its.toArray/\xs.length<=sizeLine:=by
 rcases h with h|⟨o,its,n,hk,hc,hs,hz,r⟩
 .obtain⟨z,its,r,p⟩:=h.ok I.hok;exact⟨its,r,p,z⟩
 .refine⟨its.toList,r,⟨o,I.kIn a o hk,hc,n,by simpa using hs⟩,?_⟩;have e:=r.length;simp only[Array.length_toList]at e;lia
theorem Inv.list_inj(I:Inv X z06 σ H s)(h:SqL X.K H a xs)(h':SqL X.K H a ys):xs=ys:=by
 obtain⟨its,r,⟨o,n,e,_,_,d⟩,_⟩:=I.list h;obtain⟨its',r',⟨o',n',e',_,_,d'⟩,_⟩:=I.list h';rw[e]at e';cases e';rw[d]at d';injection d' with d1 _;have:its=its':=by simpa using congrArg Array.toList d1
 subst this;exact r.inj r'
theorem Inv.tuple_inj(I:Inv X z06 σ H s)(h:SqT X.K H a xs)(h':SqT X.K H a ys):xs=ys:=by
 obtain⟨its,r,⟨o,e,_,n,d⟩,_⟩:=I.tuple h;obtain⟨its',r',⟨o',e',_,n',d'⟩,_⟩:=I.tuple h';rw[e]at e';cases e';rw[d]at d';injection d' with d1 _;have:its=its':=by simpa using congrArg Array.toList d1
 subst this;exact r.inj r'
end
abbrev Cx.wish(X:Cx)(E:Value->Shared->Prop):Cx:={X with xe:=E}
abbrev Cx.nox(X:Cx):Cx:=X.wish λ_ _=>False
theorem Cx.Ok.wish{X:Cx}(ok:X.Ok)(E:Value->Shared->Prop):(X.wish E).Ok:=
 ⟨ok.mod,ok.kind,ok.glob,ok.blt,ok.above,ok.inj,ok.has,ok.cab,ok.hd,ok.frames,ok.stk,ok.exf,ok.bs,ok.bsz,ok.noex,ok.exfs,ok.funs,ok.frf⟩
theorem Cx.Ok.unwish{X:Cx}(ok:(X.wish E).Ok):X.Ok:=
 ⟨ok.mod,ok.kind,ok.glob,ok.blt,ok.above,ok.inj,ok.has,ok.cab,ok.hd,ok.frames,ok.stk,ok.exf,ok.bs,ok.bsz,ok.noex,ok.exfs,ok.funs,ok.frf⟩
section
variable{σ:St}
theorem Inv.wish(I:Inv X z06 σ H s)(E:Value->Shared->Prop):Inv (X.wish E) z06 σ H s:=⟨I.ok.wish E,I.os,I.bare,I.base,I.loc,I.cell,I.free,I.freeC,I.pin,I.hok,I.len⟩
theorem Inv.unwish(I:Inv (X.wish E) z06 σ H s):Inv X z06 σ H s:=⟨I.ok.unwish,I.os,I.bare,I.base,I.loc,I.cell,I.free,I.freeC,I.pin,I.hok,I.len⟩
theorem SP.unwish(h:SP (X.wish E) z06 D f s'):SP X z06 D f s':=by
 cases f with
 |next=>obtain⟨ah,H',I,q⟩:=h;exact⟨ah,H',I.unwish,q⟩
 |brk=>obtain⟨ah,H',I,q⟩:=h;exact⟨ah,H',I.unwish,q⟩
 |cont=>obtain⟨ah,H',I,q⟩:=h;exact⟨ah,H',I.unwish,q⟩
 |ret u=>obtain⟨v,ah,H',I,r,q⟩:=h;exact⟨v,ah,H',I.unwish,r,q⟩
theorem PSs.nox{st:List Stmt}(h:PSs X.nox st t):PSs X st t:=λz06 s σ H D I hw=>
 wpAny_mono (h z06 s σ H D (I.wish _) hw) (λ_ _ q=>q.unwish) λ_ _ z=>False.elim z
end
section
variable{st:Stmt}
def Ck:TS:=λD σ H=>D.nx σ H
def Gf(t u:TS):TS:=λD σ H=>t {D with nx:=u D} σ H
theorem aY:PSs X [] Ck:=λ_ _ σ H _ I h=>wpAny_execs_nil ⟨σ,H,I,h⟩
theorem aB(h1:PS X st t)(h2:PSs X rest u):PSs X (st::rest) (Gf t u):=by
 intro z06 s σ H D I h;refine wpAny_execs_cons (thn (h1 z06 s σ H {D with nx:=u D} I h) λf s1 q=>?_)
 cases f with
 |next=>
  obtain⟨ah,H',I',q⟩:=q;exact h2 z06 s1 ah H' D I' q
 |ret v=>exact q
 |brk=>exact q
 |cont=>exact q
theorem aF(h1:PS X st t):PSs X [st] t:=by
 intro z06 s σ H D I h;refine wpAny_execs_cons (thn (h1 z06 s σ H D I h) λf s1 q=>?_)
 cases f with
 |next=>exact wpAny_execs_nil q
 |ret v=>exact q
 |brk=>exact q
 |cont=>exact q
theorem Inv.quiet{σ:St}(I:Inv X z06 σ H s):interactive X.env=false:=by simp[interactive,I.ok.kind]
def KR(te:TE):TS:=λD σ H=>te σ H λ_ H1=>D.nx σ H1
theorem cA(he:PE X e te)(hs:swapsWith e none pos.line X.env=pure false:=by rfl):PS X (.Expr e pos) (KR te):=by
 intro z06 s σ H D I h;exact wpAny_Expr_any (thn (he z06 s σ H _ I h) λv s1=>by rintro⟨x,H1,I1,r1,q1⟩;exact⟨σ,H1,I1,q1⟩) I.quiet hs
def Jp(te:TE):TS:=λD σ H=>te σ H D.rt
theorem aN(he:PE X e te):PS X (.Return (some e) pos) (Jp te):=by
 intro z06 s σ H D I h;exact wpAny_Return_some (thn (he z06 s σ H _ I h) λv s1=>by rintro⟨x,H1,I1,r1,q1⟩;exact⟨x,σ,H1,I1,r1,q1⟩)
def KY(c:TT)(t u:TS):TS:=λD σ H=>c σ H λb H1=>if b=true then t D σ H1 else u D σ H1
theorem bR(hc:PT X c tc)(ha:PSs X a t)(hb:PSs X b u):PS X (.If c a b pos) (KY tc t u):=by
 intro z06 s σ H D I h;refine wpAny_If (thn (hc z06 s σ H _ I h) λd s1=>?_);rintro⟨H1,I1,q1⟩
 cases d with
 |true=>exact ha z06 s1 σ H1 D I1 q1
 |false=>exact hb z06 s1 σ H1 D I1 q1
def Cm:TS:=λ_ _ _=>False
theorem dO:PS X st Cm:=λ_ _ _ _ _ _ h=>h.elim
theorem gK:PSs X HK Cm:=λ_ _ _ _ _ _ h=>h.elim
end
abbrev TG:=V->St->Hp->(St->Hp->Prop)->Prop
abbrev TGs:=List V->St->Hp->(St->Hp->Prop)->Prop
def PG(X:Cx)(target:Expr)(t:TG):Prop:=
 ∀z06 s (σ:St) H v u Q,Inv X z06 σ H s->RelV v u->t v σ H Q->
  wpAny (model X.prog X.w) X.A (assign target X.env u) (λ_ s'=>∃ah H',Inv X z06 ah H' s'/\Q ah H') X.xe s
def PGs(X:Cx)(ts:List Expr)(t:TGs):Prop:=
 ∀z06 s (σ:St) H vs us Q,Inv X z06 σ H s->Vals vs us->t vs σ H Q->
  wpAny (model X.prog X.w) X.A (assignInOrder ((assignEach ts X.env).map (·.2)) us) (λ_ s'=>∃ah H',Inv X z06 ah H' s'/\Q ah H') X.xe s
abbrev Cp:=V->V->V->Hp->(Hp->Prop)->Prop
def Jq(X:Cx)(t:Cp):Prop:=
 ∀z06 s (σ:St) H o i v ov iv u Q,Inv X z06 σ H s->RelV o ov->RelV i iv->RelV v u->t o i v H Q->
  wpAny (model X.prog X.w) X.A (setItem ov iv u) (λ_ s'=>∃H',Inv X z06 σ H' s'/\Q H') X.xe s
abbrev TIp:=V->V->Hp->VK->Prop
def PIp(X:Cx)(op:Operator)(t:TIp):Prop:=
 ∀z06 s (σ:St) H x y v u Q,Inv X z06 σ H s->RelV x v->RelV y u->t x y H Q->
  wpAny (model X.prog X.w) X.A (inplaceOp op v u) (EP X z06 σ Q) X.xe s
section
variable{pos:Pos}
def bG(i:Nat):TG:=λv σ H Q=>Q (σ.set i (some v)) H
theorem bw(hN:X.N.Nodup)(hi:X.N[i]?=some x)(hx:Loc X.env.scope x)(hf:X.fn x=true\/X.env.scope.names.lookup x=some .local:=by first|exact .inl rfl|exact .inr rfl|assumption):PG X (.Name x pos) (bG i):=by
 intro z06 s σ H v u Q I r h;exact wpAny_assign_Name (jl I hN hi hx r (λs' I'=>⟨_,H,I',h⟩) hf)
def mQ:TGs:=λvs σ H Q=>vs=[]/\Q σ H
def bY(t:TG)(u:TGs):TGs:=λvs σ H Q=>∃v r,vs=v::r/\t v σ H λah H'=>u r ah H' Q
theorem aV:PGs X [] mQ:=by
 intro z06 s σ H vs us Q I r h;obtain⟨e,h⟩:=h;exact assignInOrder_nil ⟨σ,H,I,h⟩
theorem ao(h1:PG X e t)(h2:PGs X es u)
  (hs:(assignEach (e::es) X.env).map (·.2)=assign e X.env::(assignEach es X.env).map (·.2):=by rfl):PGs X (e::es) (bY t u):=by
 intro z06 s σ H vs us Q I r h;obtain⟨v,vr,e1,h⟩:=h;subst e1
 cases r with
 |cons r rr=>
  rw[hs];refine assignInOrder_cons (thn (h1 z06 s σ H _ _ _ I r h) λ_ s1=>?_);rintro⟨uk,H1,I1,q1⟩;exact h2 z06 s1 uk H1 _ _ Q I1 rr q1
inductive GTupI(K:Frag)(n:Nat)(t:TGs)(v:V)(σ:St)(H:Hp)(Q:St->Hp->Prop):Prop
 |mk:∀a xs,(v=.ref a)->(SqT K H a xs)->(xs.length=n)->(t xs σ H Q)->GTupI K n t v σ H Q
def lA(K:Frag)(n:Nat)(t:TGs):TG:=λv σ H Q=>GTupI K n t v σ H Q
theorem bQ{k:Nat}(hc:X.calm=true)(h:PGs X es t)
  (hn:(assignEach es X.env).length=n:=by rfl) (bE:(assignEach es X.env).findIdx? (·.1)=none:=by rfl):PG X (.Tuple es k pos) (lA X.K n t):=by
 intro z06 s σ H v u Q I r hw;obtain⟨a,xs,e1,hq,hl,hw⟩:=hw;subst e1;cases r;obtain⟨its,rv,ht,hz⟩:=I.tuple hq;refine assign_Tuple_tuple (I.ok.hd hc) ht (by simp[hn,<-hl,rv.length]) bE λh' hx=>?_;have I1:Inv X z06 σ H {s with heap:=h'}:=I.kept (t':=s.toks) λb o e=>hx b o (zB5 (zB0 e)) e;exact h z06 _ σ H xs _ Q I1 (by simpa using rv) hw
def Nk(to ti:TE)(t:Cp):TG:=λv σ H Q=>to σ H λo H1=>ti σ H1 λi H2=>t o i v H2 λH3=>Q σ H3
theorem mR(ho:PE X o to)(hi:PE X i ti)(hs:Jq X t)
  (ha:∀v,assign (.Subscript o i pos) X.env v=(do
   let ov <-holding [v] (eval o X.env)
   let iv <-holding [v,ov] (eval i X.env)
   standAt pos
   holding [v,ov,iv] (setItem ov iv v)
   release [v,ov,iv] []):=by intro _;rfl):PG X (.Subscript o i pos) (Nk to ti t):=by
 intro z06 s σ H v u Q I r h;rw[ha];refine zAt (wpAny_holding (thn (ho z06 s σ H _ I h) λov s1=>?_));rintro⟨x,H1,I1,r1,q1⟩;refine zAt (wpAny_holding (thn (hi z06 s1 σ H1 _ I1 q1) λiv s2=>?_));rintro⟨y,H2,I2,r2,q2⟩;refine zAt (wpAny_standAt (zAt (wpAny_holding (thn (hs z06 s2 σ H2 x y v ov iv u _ I2 r1 r2 r q2) λ_ s3=>?_))));rintro⟨H3,I3,q3⟩;exact wpAny_release ⟨σ,H3,I3,q3⟩
def wX(te:TE)(g:TG):TS:=λD σ H=>te σ H λx H1=>g x σ H1 D.nx
theorem cN(he:PE X e te)(hg:PG X tg g)(hs:swapsWithSole [tg] e pos.line X.env=pure false:=by rfl)(hw:swappedStores [tg] e X.env=pure none:=by rfl)
  (h1:(assignEach [tg] X.env).map (·.2)=[assign tg X.env]:=by rfl):PS X (.Assign [tg] e pos) (wX te g):=by
 intro z06 s σ H D I h;refine wpAny_Assign_stores (thn (he z06 s σ H _ I h) λv s1=>?_) hs hw;rintro⟨x,H1,I1,r1,q1⟩;rw[h1];exact thn (hg z06 s1 σ H1 x v _ I1 r1 q1) λ_ s2 q=>q
theorem tE(hN:X.N.Nodup)(hi:X.N[i]?=some x)(hx:Loc X.env.scope x)(he:PE X e te)(hs:swapsWith e (some (.Name x pos')) pos.line X.env=pure false:=by rfl)(hf:X.fn x=true\/X.env.scope.names.lookup x=some .local:=by first|exact .inl rfl|exact .inr rfl|assumption):
  PS X (.Assign [.Name x pos'] e pos) (wX te (bG i)):=by
 intro z06 s σ H D I h;refine wpAny_Assign_Name (thn (he z06 s σ H _ I h) λv s1=>?_) hs;rintro⟨y,H1,I1,r1,q1⟩;exact jl I1 hN hi hx r1 (λs2 I2=>⟨_,H1,I2,q1⟩) hf
def Nm(i j:Nat)(ta:TA):TS:=λD σ H=>ta σ H λvs H1=>∃v w,vs=[v,w]/\D.nx ((σ.set i (some v)).set j (some w)) H1
theorem wY{kt k2 pt2}(hc:X.calm=true)(hN:X.N.Nodup)(hi:X.N[i]?=some x)(hj:X.N[j]?=some y)(Bn:i≠j)
  (hx:X.env.scope.names.lookup x=some .local) (hy:X.env.scope.names.lookup y=some .local) (ha:PA X [a,b] ta)
  (hw:swappedStores [.Tuple [.Name x px,.Name y py] kt pt] (.Tuple [a,b] k2 pt2) X.env=pure (some [x,y]))
  (hs:swapsWithSole [.Tuple [.Name x px,.Name y py] kt pt] (.Tuple [a,b] k2 pt2) pos.line X.env=pure false:=by rfl):
  PS X (.Assign [.Tuple [.Name x px,.Name y py] kt pt] (.Tuple [a,b] k2 pt2) pos) (Nm i j ta):=by
 intro z06 s σ H D I h;rw[exec_Assign_arm];refine zAt (wpAny_standAt ?_);rw[hs];refine zAt (zAx ?_);rw[zAy z02];refine zAt (Tuple_ (thn (ha _ z06 s σ H _ I h) λus s1=>?_));rintro⟨vs,H1,I1,r1,q1⟩;obtain⟨v,w,e1,q1⟩:=q1;subst e1
 obtain⟨u1,u2,rfl,rv,hU⟩:∃u1 u2,us=[u1,u2]/\RelV v u1/\RelV w u2:=by
  cases r1 with
  |cons p q=>
   cases q with
   |cons p' q'=>
    cases q';exact⟨_,_,rfl,p,p'⟩
 refine Zac ?_ (by show 2<=sizeLine;decide);have I2:Inv X z06 σ H1 {s1 with heap:=s1.heap.push {cls:=.type "tuple",data:=.seq [u1,u2].toArray}}:=I1.kept (t':=s1.toks) λb o e=>zAv _ e;rw[hw];refine zAt (zAx ?_);show wpAny (model X.prog X.w) X.A (do rule "assign.swapped-stores";let items <-unpackItems (.ref s1.heap.objs.size) 2 none;assignInOrder [λv=>bindName X.env y v,λv=>bindName X.env x v] items.reverse;pure Flow.next) _ _ _;refine zAt (wpAny_rule (zAt (unpackItems_tuple (items:=#[u1,u2]) (I.ok.hd hc) (IsTup.new s1.heap _) λh' cS=>?_)));have I3:=I2.kept (h':=h') (t':=s1.toks) λb o e=>cS b o (zB5 (zB0 e)) e;show wpAny _ _ (assignInOrder [λv=>bindName X.env y v,λv=>bindName X.env x v] [u2,u1]>>=λ_=>pure Flow.next) _ _ _;refine zAt (assignInOrder_cons (wpAny_bindName (jl I3 hN hj (.inl hy) hU (λs2 I4=>?_) (.inr hy))));refine assignInOrder_cons (wpAny_bindName (jl I4 hN hi (.inl hx) rv (λs3 I5=>assignInOrder_nil (zAx ?_)) (.inr hx)));rw[List.set_comm _ _ (Ne.symm Bn)]at I5;exact⟨_,H1,I5,q1⟩
inductive TAugI(i:Nat)(te:TE)(ti:TIp)(D:Ends)(σ:St)(H:Hp):Prop
 |mk:∀x,(σ[i]?=some (some x))->(te σ H λy H1=>ti x y H1 λz H2=>D.nx (σ.set i (some z)) H2)->TAugI i te ti D σ H
def Np(i:Nat)(te:TE)(ti:TIp):TS:=λD σ H=>TAugI i te ti D σ H
theorem jX(hN:X.N.Nodup)(hi:X.N[i]?=some x)(hx:Loc X.env.scope x)(he:PE X e te)(ho:PIp X op ti)(hf:X.fn x=true\/X.env.scope.names.lookup x=some .local:=by first|exact .inl rfl|exact .inr rfl|assumption):
  PS X (.AugAssign (.Name x pos') op e pos) (Np i te ti):=by
 intro z06 s σ H D I h;obtain⟨v,e1,h⟩:=h;obtain⟨m,hn,hl⟩:=I.loc;have RD:Vis X.env.scope x:=by rcases hx with k|k;exact .inl k;exact .inr (.inl k)
 obtain⟨u,r,l⟩:=hl i x v hi e1 RD;refine wpAny_AugAssign_Name ?_
 have go:wpAny (model X.prog X.w) X.A (eval e X.env) (λw s₂=>wpAny (model X.prog X.w) X.A (inplaceOp op u w) (λr s₃=>wpAny (model X.prog X.w) X.A (storeName X.env x r) (λ_=>SP X z06 D .next) X.xe s₃) X.xe s₂) X.xe s:=by
  refine thn (he z06 s σ H _ I h) λw s1=>?_;rintro⟨y,H1,I1,r1,q1⟩;refine thn (ho z06 s1 σ H1 v y u w _ I1 r r1 q1) λz s2=>?_;rintro⟨zv,H2,I2,r2,q2⟩;exact jl I2 hN hi hx r2 (λs3 I3=>⟨_,H2,I3,q2⟩) hf
 rcases l with⟨hk,hm⟩|⟨hk,c,hc,hcell⟩
 .exact wpAny_loadName_local I.ok.kind hk hn hm go
 .rcases hk with hk|hk
  .exact wpAny_loadName_cell I.ok.kind hk hc hcell go
  .rcases hx with k|k
   .have:X.env.scope.names.lookup x=some .free:=hk;rw[k]at this;cases this
   .have:X.env.scope.names.lookup x=some .free:=hk;rw[k]at this;cases this
def KZ(to ti te:TE)(pT:V->V->Hp->VK->Prop)(E5:TIp)(pV:Cp):TS:=λD σ H=>to σ H λo H1=>ti σ H1 λi H2=>pT o i H2 λx H3=>te σ H3 λy H4=>E5 x y H4 λz H5=>pV o i z H5 λH6=>D.nx σ H6
def La(X:Cx)(t:V->V->Hp->VK->Prop):Prop:=
 ∀z06 s (σ:St) H o i ov iv Q,Inv X z06 σ H s->RelV o ov->RelV i iv->t o i H Q->
  wpAny (model X.prog X.w) X.A (getItem ov iv) (EP X z06 σ Q) X.xe s
theorem jF(ho:PE X o to)(hi:PE X i ti)(hg:La X pT)(he:PE X e te)(hp:PIp X op E5)(hs:Jq X pV)
  (ha:∀ov iv new,augStore i ov iv new=(do holding [new,ov,iv] (setItem ov iv new);release [new,ov,iv] [];pure .next):=by intros;rfl):PS X (.AugAssign (.Subscript o i uu) op e pos) (KZ to ti te pT E5 pV):=by
 intro z06 s σ H D I h;refine wpAny_AugAssign_SubscriptAny (thn (ho z06 s σ H _ I h) λov s1=>?_) ha;rintro⟨x1,H1,I1,r1,q1⟩;refine thn (hi z06 s1 σ H1 _ I1 q1) λiv s2=>?_;rintro⟨x2,H2,I2,r2,q2⟩;refine thn (hg z06 s2 σ H2 x1 x2 ov iv _ I2 r1 r2 q2) λold s3=>?_;rintro⟨x3,H3,I3,r3,q3⟩;refine thn (he z06 s3 σ H3 _ I3 q3) λv s4=>?_;rintro⟨x4,H4,I4,r4,q4⟩;refine thn (hp z06 s4 σ H4 x3 x4 old v _ I4 r3 r4 q4) λnew s5=>?_;rintro⟨x5,H5,I5,r5,q5⟩
 exact thn (hs z06 s5 σ H5 x1 x2 x5 ov iv new _ I5 r1 r2 r5 q5) λ_ s6=>by rintro⟨H6,I6,q6⟩;exact⟨σ,H6,I6,q6⟩
def ipI(f:Int->Int->Int):TIp:=λx y H Q=>∃i j,x=.int i/\y=.int j/\Q (.int (f i j)) H
theorem pA:PIp X .Add (ipI λi j=>i+j):=by
 intro z06 s σ H x y v u Q I r1 r2 h;obtain⟨i,j,e1,e2,q⟩:=h;subst e1;subst e2;obtain⟨t,rfl⟩:=r1;obtain⟨t',rfl⟩:=r2;exact iadd_int ⟨.int _,H,I.tok _,⟨_,rfl⟩,q⟩
theorem Cq:PIp X .Sub (ipI λi j=>i-j):=by
 intro z06 s σ H x y v u Q I r1 r2 h;obtain⟨i,j,e1,e2,q⟩:=h;subst e1;subst e2;obtain⟨t,rfl⟩:=r1;obtain⟨t',rfl⟩:=r2;exact isub_int ⟨.int _,H,I.tok _,⟨_,rfl⟩,q⟩
end
section
end
structure It where
 go:Nat->Hp->Prop
 yld:Nat->Hp->V->Hp->Prop
 stop:Nat->Hp->Prop
def mU(X:Cx)(z06:List (Addr×Obj))(H:Hp)(b:Addr):Prop:=
 H b=none/\b≠X.env.locals/\b∉X.fs/\(b∈X.ex\/X.s₀.heap.objs.size<=b)/\(∀x c,X.env.cells.lookup x=some c->c≠b)/\∀p∈X.pn++z06,p.1≠b
theorem Inv.fpOk{σ:St}{b:Addr}(I:Inv X z06 σ H s)(hb:s.heap.objs.size<=b)(hn:H' b=none):mU X z06 H' b:=by
 refine⟨hn,Zar (zB4 I.lt hb),I.nofs hb,.inr (Zah I.sz hb),λx c e z=>?_,λp hp z=>?_⟩
 .obtain⟨v,q⟩:=I.cell x c e;exact absurd (zB4 q.lt (by rw[z];exact hb)) (Zak _)
 .exact absurd (zB4 (zB0 (I.pin p hp).1) (by rw[z];exact hb)) (Zak _)
structure Turn(P:Program)(w:World)(K:Frag)(tg:Expr)(J:It)(fp:List Addr)(it:Addr)(tn:Nat->Heap->Prop):Prop where
 mem:it∈fp
 obj:∀i h,tn i h->∀b∈fp,∃o,h.get? b=some o/\∀v,o.data≠.cell v
 keep:∀i h h',tn i h->(∀b∈fp,∀o,h.get? b=some o->h'.get? b=some o)->tn i h'
 item:∀X,X.prog=P->X.w=w->X.K=K->X.calm=true->∀i z06 s (σ:St) H E,Inv X z06 σ H s->(∀b∈fp,mU X z06 H b)->tn i s.heap->J.go i H->
  wpAny (model P w) X.A (pyNext (.ref it)) (λr s1=>∃u,r=some u /\
   wpAny (model P w) X.A (letOwnedTupleGo tg (.ref it) u) (λ_ s2=>∃x H',Inv X z06 σ H' s2/\RelV x u/\J.yld i H x H'/\tn (i+1) s2.heap/\∀b∈fp,H' b=none) E s1) E s
 done:∀X,X.prog=P->X.w=w->X.K=K->X.calm=true->∀i z06 s (σ:St) (H:Hp) (E:Value->Shared->Prop),Inv X z06 σ H s->(∀b∈fp,mU X z06 H b)->tn i s.heap->J.stop i H->
  wpAny (model P w) X.A (pyNext (.ref it)) (λr s1=>r=none/\Inv X z06 σ H s1) E s
 self:∀(A:Around) (i:Nat) (s:Shared) (Q:Value->Shared->Prop) (E:Value->Shared->Prop),tn i s.heap->Q (.ref it) s->wpAny (model P w) A (pyIter (.ref it)) Q E s
abbrev TI:=St->Hp->(It->Hp->Prop)->Prop
def PIE(X:Cx)(z06:List (Addr×Obj))(σ:St)(tg:Expr)(R:It->Hp->Prop)(E6:Value)(s2:Shared):Prop:=
 ∃(it:Addr) (fp:List Addr) (tn:Nat->Heap->Prop) (J:It) (H':Hp),E6=.ref it/\Inv X z06 σ H' s2/\Turn X.prog X.w X.K tg J fp it tn/\tn 0 s2.heap/\(∀b∈fp,mU X z06 H' b)/\R J H'
def PI(X:Cx)(tg iter:Expr)(wi:TI):Prop:=
 ∀z06 s (σ:St) H R,Inv X z06 σ H s->wi σ H R->
  wpAny (model X.prog X.w) X.A (eval iter X.env) (λv s1=>wpAny (model X.prog X.w) X.A (pyIter v) (PIE X z06 σ tg R) X.xe s1) X.xe s
theorem uW(ho:s.heap.get? it=some o)(hc:o.cls=.type n)(hd:o.data=.fields vs)
  (hn:["enumerate","zip","dict_itemiterator","dict_reverseitemiterator","odict_iterator","itertools.zip_longest","itertools.pairwise"].contains n=false) (hQ:Q () s):wpAny M A (letOwnedTupleGo tg (.ref it) u) Q E s:=by
 cases tg<;>first
  |exact zAx hQ
  | (cases u<;>first
    |exact zAx hQ
    | (refine zAt (wpAny_load ho ?_)
       rw[hc,hd];show wpAny M A (if(["enumerate","zip","dict_itemiterator","dict_reverseitemiterator","odict_iterator","itertools.zip_longest","itertools.pairwise"].contains n&&vs[0]?==some (rawInt _))=true then _ else _) Q E s;rw[zAy (by intro h;rw[hn]at h;cases h)]
       exact zAx hQ))
def Itl(K:Frag)(a:Addr):It:=
 ⟨λi H=>∃xs x,SqL K H a xs/\xs[i]?=some x,λi H x H'=>H'=H/\∀xs,SqL K H a xs->xs[i]?=some x,λi H=>∃xs,SqL K H a xs/\xs.length<=i⟩
def Itt(K:Frag)(a:Addr):It:=
 ⟨λi H=>∃xs x,SqT K H a xs/\xs[i]?=some x,λi H x H'=>H'=H/\∀xs,SqT K H a xs->xs[i]?=some x,λi H=>∃xs,SqT K H a xs/\xs.length<=i⟩
def Itr(lo:Int)(n:Nat):It:=⟨λi _=>i<n,λi H x H'=>H'=H/\x=.int (lo+i),λi _=>n<=i⟩
theorem Ac{K:Frag}(a it:Addr):Turn P w K tg (Itl K a) [it] it (λi h=>h.IsListIter it a i) where
 mem:=by simp
 obj:=λi h st b hb=>by
  have e:b=it:=by simpa using hb
  subst e;obtain⟨o,e,c,d⟩:=st;exact⟨o,e,λv z=>by rw[d]at z;cases z⟩
 keep:=λi h h' st k=>st.at λo e=>k it z01 o e
 item:=by
  intro X hP hw hK hc i z06 s σ H E I hf st hg;subst hP hw hK;obtain⟨xs,x,hq,hx⟩:=hg;obtain⟨its,rv,p,hz⟩:=I.list hq;obtain⟨u,hu,ru⟩:=rv.get hx;obtain⟨f0,f1,f2,f3,f4,f5⟩:=hf it z01;refine wpAny_pyNext_list_item st p.isList (x:=u) (by simpa using hu) λh' z07 sb=>?_;have I1:Inv X z06 σ H {s with heap:=h'}:=I.turned (t':=s.toks) (λb o hb e=>(sb.2 b hb).trans e) f0 f1 f3 f4 f5;obtain⟨o,e,c,d⟩:=id z07;exact⟨u,rfl,uW (s:={s with heap:=h'}) e c d z02 ⟨x,H,I1,ru,⟨rfl,λys hy=>by rw[I.list_inj hy hq];exact hx⟩,z07,λb hb=>(hf b hb).1⟩⟩
 done:=by
  intro X hP hw hK hc i z06 s σ H E I hf st hg;subst hP hw hK;obtain⟨xs,hq,hx⟩:=hg;obtain⟨its,rv,p,hz⟩:=I.list hq;obtain⟨f0,f1,f2,f3,f4,f5⟩:=hf it z01;have hl:=rv.length
  exact wpAny_pyNext_list_end (I.ok.hd hc) st p.isList (by simp;lia) λh' eb=>⟨rfl,I.turned (t':=s.toks) (λb o hb e=>eb b o hb e) f0 f1 f3 f4 f5⟩
 self:=λ_ _ _ _ _ st h=>wpAny_pyIter_listiter st h
theorem wZ{K:Frag}(a it:Addr):Turn P w K tg (Itt K a) [it] it (λi h=>h.IsTupleIter it a i) where
 mem:=by simp
 obj:=λi h st b hb=>by
  have e:b=it:=by simpa using hb
  subst e;obtain⟨o,e,c,d⟩:=st;exact⟨o,e,λv z=>by rw[d]at z;cases z⟩
 keep:=λi h h' st k=>st.at λo e=>k it z01 o e
 item:=by
  intro X hP hw hK hc i z06 s σ H E I hf st hg;subst hP hw hK;obtain⟨xs,x,hq,hx⟩:=hg;obtain⟨its,rv,p,hz⟩:=I.tuple hq;obtain⟨u,hu,ru⟩:=rv.get hx;obtain⟨f0,f1,f2,f3,f4,f5⟩:=hf it z01;refine wpAny_pyNext_tuple_item st (show s.heap.IsTuple a its.toArray from p) (x:=u) (by simpa using hu) λh' z07 sb=>?_;have I1:Inv X z06 σ H {s with heap:=h'}:=I.turned (t':=s.toks) (λb o hb e=>(sb.2 b hb).trans e) f0 f1 f3 f4 f5;obtain⟨o,e,c,d⟩:=id z07;exact⟨u,rfl,uW (s:={s with heap:=h'}) e c d z02 ⟨x,H,I1,ru,⟨rfl,λys hy=>by rw[I.tuple_inj hy hq];exact hx⟩,z07,λb hb=>(hf b hb).1⟩⟩
 done:=by
  intro X hP hw hK hc i z06 s σ H E I hf st hg;subst hP hw hK;obtain⟨xs,hq,hx⟩:=hg;obtain⟨its,rv,p,hz⟩:=I.tuple hq;obtain⟨f0,f1,f2,f3,f4,f5⟩:=hf it z01;have hl:=rv.length
  exact wpAny_pyNext_tuple_end (I.ok.hd hc) st (show s.heap.IsTuple a its.toArray from p) (by simp;lia) λh' eb=>⟨rfl,I.turned (t':=s.toks) (λb o hb e=>eb b o hb e) f0 f1 f3 f4 f5⟩
 self:=λ_ _ _ _ _ st h=>wpAny_pyIter_tupleiter st h
theorem xf{K:Frag}(it:Addr)(lo:Int)(n:Nat):Turn P w K tg (Itr lo n) [it] it (λi h=>IsRangeIter h it (lo+(i:Nat)*1) ((n:Int)-(i:Nat)) 1) where
 mem:=by simp
 obj:=λi h st b hb=>by
  have e:b=it:=by simpa using hb
  subst e
  exact⟨_,st,λv z=>by
   have z':Data.fields _=Data.cell v:=z
   cases z'⟩
 keep:=λi h h' st k=>k it z01 _ st
 item:=by
  intro X hP hw hK hc i z06 s σ H E I hf st hg;subst hP hw hK;obtain⟨f0,f1,f2,f3,f4,f5⟩:=hf it z01;have W:=Walks.range (prog:=X.prog) (w:=X.w) (I.ok.hd hc) it lo 1 n;refine W.item i s _ _ hg st λv h' tk hv z07 kk=>?_;obtain⟨t,rfl⟩:=hv;have I1:Inv X z06 σ H {s with heap:=h',toks:=tk}:=I.turned (λb o hb e=>kk b o (by simpa using hb) e) f0 f1 f3 f4 f5;refine⟨_,rfl,uW (s:={s with heap:=h',toks:=tk}) (n:="range_iterator") z07 rfl rfl z02 ⟨.int (lo+i),H,I1,⟨t,?_⟩,⟨rfl,rfl⟩,z07,λb hb=>(hf b hb).1⟩⟩;rw[Int.mul_one]
 done:=by
  intro X hP hw hK hc i z06 s σ H E I hf st hg;subst hP hw hK;obtain⟨f0,f1,f2,f3,f4,f5⟩:=hf it z01
  exact wpAny_pyNext_range_end (I.ok.hd hc) st (by have:n<=i:=hg;lia) λh' eb=>⟨rfl,I.turned (t':=s.toks) (λb o hb e=>eb b o hb e) f0 f1 f3 f4 f5⟩
 self:=λ_ _ _ _ _ st h=>wpAny_pyIter_rangeiter st h
section
variable{tg:Expr}
def IV(K:Frag)(tl:TE):TI:=λσ H R=>tl σ H λx H1=>∃a,x=.ref a/\(∃xs,SqL K H1 a xs)/\R (Itl K a) H1
def Jr(K:Frag)(tl:TE):TI:=λσ H R=>tl σ H λx H1=>∃a,x=.ref a/\(∃xs,SqT K H1 a xs)/\R (Itt K a) H1
theorem dC(hl:PE X l tl):PI X tg l (IV X.K tl):=by
 intro z06 s σ H R I h;refine thn (hl z06 s σ H _ I h) λv s1=>?_;rintro⟨x,H1,I1,r1,q1⟩;obtain⟨a,e,⟨xs,hq⟩,q⟩:=q1;subst e;cases r1;obtain⟨its,rv,p,hz⟩:=I1.list hq;refine wpAny_pyIter_list p.isList ?_;refine⟨s1.heap.objs.size,[s1.heap.objs.size],_,_,H1,rfl,I1.kept (t':=s1.toks) λb o e=>zAv _ e,Ac a _,⟨_,zB1 _ rfl,rfl,rfl⟩,λb hb=>?_,q⟩;have e:b=s1.heap.objs.size:=by simpa using hb
 subst e;exact I1.fpOk (zA3 _) (I1.hok.fresh (zA3 _))
theorem gF(hl:PE X l tl):PI X tg l (Jr X.K tl):=by
 intro z06 s σ H R I h;refine thn (hl z06 s σ H _ I h) λv s1=>?_;rintro⟨x,H1,I1,r1,q1⟩;obtain⟨a,e,⟨xs,hq⟩,q⟩:=q1;subst e;cases r1;obtain⟨its,rv,p,hz⟩:=I1.tuple hq;refine wpAny_pyIter_tuple (p) ?_;refine⟨s1.heap.objs.size,[s1.heap.objs.size],_,_,H1,rfl,I1.kept (t':=s1.toks) λb o e=>zAv _ e,wZ a _,⟨_,zB1 _ rfl,rfl,rfl⟩,λb hb=>?_,q⟩;have e:b=s1.heap.objs.size:=by simpa using hb
 subst e;exact I1.fpOk (zA3 _) (I1.hok.fresh (zA3 _))
theorem uX{σ:St}{lo hi:Int}(I:Inv X z06 σ H s)(h1:-(2^62)<=lo)(h2:lo<2^62)(h3:-(2^62)<=hi)(h4:hi<2^62)
  (q:R (Itr lo (hi-lo).toNat) H):wpAny (model X.prog X.w) X.A (pyIter (.ref s.heap.objs.size)) (PIE X z06 σ tg R) E {s with heap:=s.heap.push {cls:=.type "range",data:=.fields #[.int lo t,.int hi u,.int 1 v]},toks:=tk}:=by
 refine wpAny_pyIter_range (IsRange.new ..) (small_one h1 h2 h3 h4) ?_;have I1:Inv X z06 σ H {s with heap:=s.heap.push {cls:=.type "range",data:=.fields #[.int lo t,.int hi u,.int 1 v]},toks:=tk}:=I.kept λb o e=>zAv _ e
 refine⟨(s.heap.push {cls:=.type "range",data:=.fields #[.int lo t,.int hi u,.int 1 v]}).objs.size,[(s.heap.push {cls:=.type "range",data:=.fields #[.int lo t,.int hi u,.int 1 v]}).objs.size],_,_,H,rfl,
  I1.kept (t':=tk) λb o e=>zAv _ e,xf _ lo (hi-lo).toNat,?_,λb hb=>?_,q⟩
 .have e1:lo+((0:Nat):Int)*1=lo:=by simp
  have e2:(((hi-lo).toNat:Nat):Int)-((0:Nat):Int)=Builtin.Range.rangeSize lo hi 1:=by rw[rangeSize_one];split<;>lia
  rw[e1,e2];exact zB1 _ rfl
 .have e:b=(s.heap.push {cls:=.type "range",data:=.fields #[.int lo t,.int hi u,.int 1 v]}).objs.size:=by simpa using hb
  subst e;exact I1.fpOk (zA3 _) (I1.hok.fresh (zA3 _))
def Lb(ta:TA):TI:=λσ H R=>ta σ H λvs H1=>∃j,vs=[.int j]/\-(2^62)<=j/\j<2^62/\R (Itr 0 j.toNat) H1
def Ld(ta:TA):TI:=λσ H R=>ta σ H λvs H1=>∃i j,vs=[.int i,.int j]/\(-(2^62)<=i/\i<2^62/\-(2^62)<=j/\j<2^62)/\R (Itr i (j-i).toNat) H1
theorem cY(hg:Gl X "range")(hm:X.mg "range"=none)(ha:PA X [a] ta)(hs:starEach [a] X.env=[(false,eval a X.env)]:=by rfl):PI X tg (.Call (.Name "range" p) [a] [] pos) (Lb ta):=by
 intro z06 s σ H R I h;refine Call_ (j6 I hg hm boot_range (PyProof.Rows.callWith_type1 (thn (ha pos z06 s σ H _ I h) λus s1=>?_) hs rfl));rintro⟨vs,H1,I1,r1,q1⟩;obtain⟨j,e,q1,q2,q⟩:=q1;subst e
 cases r1 with
 |cons r rr=>
  cases rr;obtain⟨t,rfl⟩:=r;exact call_range_1 (uX I1 z00 z00 q1 q2 (by simpa using q))
theorem rC{p pos:Pos}(hg:Gl X "range")(hm:X.mg "range"=none)(ha:PA X [a,b] ta)(hs:starEach [a,b] X.env=[(false,eval a X.env),(false,eval b X.env)]:=by rfl)(se:starEach [b] X.env=[(false,eval b X.env)]:=by rfl):
  PI X tg (.Call (.Name "range" p) [a,b] [] pos) (Ld ta):=by
 intro z06 s σ H R I h;refine Call_ (j6 I hg hm boot_range (PyProof.Rows.callWith_type1 (thn (ha pos z06 s σ H _ I h) λus s1=>?_) (by rw[hs,se]) (by rw[se];rfl)));rintro⟨vs,H1,I1,r1,q1⟩;obtain⟨i,j,e,⟨q1,q2,q3,q4⟩,q⟩:=q1;subst e
 cases r1 with
 |cons r rr=>
  cases rr with
  |cons r' rr=>
   cases rr;obtain⟨t,rfl⟩:=r;obtain⟨t',rfl⟩:=r';exact call_range_2 (uX I1 q1 q2 q3 q4 q)
def Nq(wi:TI)(g:TG)(tb:TS):TS:=λD σ H=>wi σ H λJ H1=>∃W:Nat->Nat->St->Hp->Prop,(∃m,W 0 m σ H1)/\∀i m σ H,W i m σ H->
 (J.stop i H/\D.nx σ H)\/(J.go i H/\∃N,(∀ah H',N ah H'->∃m',m'<m/\W (i+1) m' ah H')/\∀x H',J.yld i H x H'->g x σ H' λaw H2=>tb {D with nx:=N,ct:=N,bk:=D.nx} aw H2)
def dI(fp:List Addr)(h:Heap):List (Addr×Obj):=fp.filterMap λb=>(h.get? b).map λo=>(b,o)
theorem j8(hb:b∈fp)(e:h.get? b=some o):(b,o)∈dI fp h:=List.mem_filterMap.mpr ⟨b,hb,by rw[e];rfl⟩
theorem mV(hp:p∈dI fp h):p.1∈fp/\h.get? p.1=some p.2:=by
 obtain⟨b,hb,e⟩:=List.mem_filterMap.mp hp
 cases q:h.get? b with
 |none=>rw[q]at e;cases e
 |some o=>
  rw[q]at e;have e':(b,o)=p:=zAl e;subst e';exact⟨hb,q⟩
theorem Inv.pinned{σ:St}(I:Inv X z06 σ H s)(hf:∀b∈fp,mU X z06 H b)(ho:∀b∈fp,∃o,s.heap.get? b=some o/\∀v,o.data≠.cell v):Inv X (z06++dI fp s.heap) σ H s:=
 I.pins_of λp hp=>(zA6.mp hp).elim (λz=>I.pin p (zB3 _ z)) λz=>by
  obtain⟨hb,e⟩:=mV z;obtain⟨f0,f1,f2,_⟩:=hf p.1 hb;obtain⟨o,e',d⟩:=ho p.1 hb;rw[e]at e';cases e';exact⟨e,f0,f1,f2,d⟩
theorem Inv.unpinned{σ:St}(I:Inv X (z06++pl) σ H s):Inv X z06 σ H s:=I.pins_of λp hp=>I.pin p (zB3 _ (Zat _ hp))
theorem cG(hp:PassesOwn (model X.prog X.w) X.A X.env X.xe)(hc:X.calm=true)(hi:PI X tg iter wi)(hg:PG X tg g)(hb:PSs X body tb)
  (hs:∀x,foldedSetIterable iter X.env x=pure x:=by intro _;rfl):PS X (.For tg iter body [] pos) (Nq wi g tb):=by
 intro z06 s σ H D I h;refine wpAny_For (thn (hi z06 s σ H _ I h) λv s1 h1=>thn h1 λE6 s2 h2=>?_) hs;obtain⟨it,fp,tn,J,H2,e,I2,T,st2,f2,W,⟨m0,w0⟩,turn⟩:=h2;subst e
 have uS:∀{H':Hp},(∀b∈fp,H' b=none)->∀b∈fp,mU X z06 H' b:=λhn b hb=>⟨hn b hb,(f2 b hb).2⟩
 refine codeAny_forLoop_any (λn s'=>∃i ah H',Inv X z06 ah H' s'/\tn i s'.heap/\(∀b∈fp,H' b=none)/\W i n ah H') ?_ m0 ⟨0,σ,H2,I2,st2,λb hb=>(f2 b hb).1,w0⟩;rintro n s3 ⟨i,kq,H3,I3,gT,Bz,w3⟩;rcases turn i n kq H3 w3 with⟨stop,qn⟩|⟨go,N,hN,step⟩
 .refine wpAny_passesOwn hp (thn (T.done X rfl rfl rfl hc i z06 s3 kq H3 X.xe I3 (uS Bz) gT stop) λr s4=>?_);rintro⟨hr,I4⟩;subst hr;exact wpAny_execs_nil ⟨kq,H3,I4,qn⟩
 .refine wpAny_passesOwn hp (thn (T.item X rfl rfl rfl hc i z06 s3 kq H3 X.xe I3 (uS Bz) gT go) λr s4=>?_);rintro⟨u,hr,h4⟩;subst hr;refine wpAny_passesOwn hp (thn h4 λ_ s5=>?_);rintro⟨x,H5,I5,r5,y5,u7,HL⟩;have HM:=I5.pinned (uS HL) (T.obj _ _ u7);refine wpAny_passesOwn hp (thn (hg _ s5 kq H5 x u _ HM r5 (step x H5 y5)) λ_ s6=>?_);rintro⟨y9,H6,I6,q6⟩;refine wpAny_passesOwn hp (thn (hb _ s6 y9 H6 _ I6 q6) λf s7 q7=>?_)
  have again:∀{lT:St} {H7:Hp},Inv X (z06++dI fp s5.heap) lT H7 s7->N lT H7->∃m,m<n/\∃i ah H',Inv X z06 ah H' s7/\tn i s7.heap/\(∀b∈fp,H' b=none)/\W i m ah H':=λ{lT H7} I7 n7=>by
   obtain⟨m',hm,w7⟩:=hN lT H7 n7;refine⟨m',hm,i+1,lT,H7,I7.unpinned,T.keep _ _ _ u7 λb hb o e=>(I7.pin (b,o) (zB3 _ (zB3 _ (j8 hb e)))).1,λb hb=>?_,w7⟩;obtain⟨o,e,d⟩:=T.obj _ _ u7 b hb;exact(I7.pin (b,o) (zB3 _ (zB3 _ (j8 hb e)))).2.1
  cases f with
  |next=>obtain⟨lT,H7,I7,n7⟩:=q7;exact again I7 n7
  |cont=>obtain⟨lT,H7,I7,n7⟩:=q7;exact again I7 n7
  |brk=>obtain⟨lT,H7,I7,q7⟩:=q7;exact⟨lT,H7,I7.unpinned,q7⟩
  |ret v=>obtain⟨x7,lT,H7,I7,r7,q7⟩:=q7;exact⟨x7,lT,H7,I7.unpinned,r7,q7⟩
end
theorem gQ{K:Frag}{g:TG}{tb:TS}{D:Ends}{σ:St}{H:Hp}(Pv:Nat->St->Hp->Prop)(h0:Pv 0 σ H)(hl:∀i σ H,i<=xs.length->Pv i σ H->SqL K H a xs)
  (hs:∀i x σ H,xs[i]?=some x->Pv i σ H->g x σ H λaw H2=>tb {D with nx:=Pv (i+1),ct:=Pv (i+1),bk:=D.nx} aw H2) (hd:∀σ H,Pv xs.length σ H->D.nx σ H):
  ∃W:Nat->Nat->St->Hp->Prop,(∃m,W 0 m σ H)/\∀i m σ H,W i m σ H->
   ((Itl K a).stop i H/\D.nx σ H)\/((Itl K a).go i H/\∃N,(∀ah H',N ah H'->∃m',m'<m/\W (i+1) m' ah H')/\∀x H',(Itl K a).yld i H x H'->g x σ H' λaw H2=>tb {D with nx:=N,ct:=N,bk:=D.nx} aw H2):=by
 refine⟨λi m σ H=>m=xs.length-i/\i<=xs.length/\Pv i σ H,⟨xs.length,by simp,zAp _,h0⟩,?_⟩;rintro i m σ H ⟨rfl,hi,p⟩;have q:=hl i σ H hi p;by_cases ay:i<xs.length
 .refine .inr ⟨⟨xs,xs[i],q,by simp[ay]⟩,Pv (i+1),λah H' p'=>⟨xs.length-(i+1),z00,rfl,ay,p'⟩,λx H' y=>?_⟩;obtain⟨e,y⟩:=y;subst e;exact hs i x σ _ (y xs q) p
 .have e:i=xs.length:=z00
  subst e;exact .inl ⟨⟨xs,q,zA3 _⟩,hd σ H p⟩
theorem tG{K:Frag}{g:TG}{tb:TS}{D:Ends}{σ:St}{H:Hp}(Pv:Nat->St->Hp->Prop)(h0:Pv 0 σ H)(hl:∀i σ H,i<=xs.length->Pv i σ H->SqT K H a xs)
  (hs:∀i x σ H,xs[i]?=some x->Pv i σ H->g x σ H λaw H2=>tb {D with nx:=Pv (i+1),ct:=Pv (i+1),bk:=D.nx} aw H2) (hd:∀σ H,Pv xs.length σ H->D.nx σ H):
  ∃W:Nat->Nat->St->Hp->Prop,(∃m,W 0 m σ H)/\∀i m σ H,W i m σ H->
   ((Itt K a).stop i H/\D.nx σ H)\/((Itt K a).go i H/\∃N,(∀ah H',N ah H'->∃m',m'<m/\W (i+1) m' ah H')/\∀x H',(Itt K a).yld i H x H'->g x σ H' λaw H2=>tb {D with nx:=N,ct:=N,bk:=D.nx} aw H2):=by
 refine⟨λi m σ H=>m=xs.length-i/\i<=xs.length/\Pv i σ H,⟨xs.length,by simp,zAp _,h0⟩,?_⟩;rintro i m σ H ⟨rfl,hi,p⟩;have q:=hl i σ H hi p;by_cases ay:i<xs.length
 .refine .inr ⟨⟨xs,xs[i],q,by simp[ay]⟩,Pv (i+1),λah H' p'=>⟨xs.length-(i+1),z00,rfl,ay,p'⟩,λx H' y=>?_⟩;obtain⟨e,y⟩:=y;subst e;exact hs i x σ _ (y xs q) p
 .have e:i=xs.length:=z00
  subst e;exact .inl ⟨⟨xs,q,zA3 _⟩,hd σ H p⟩
theorem eQ{lo:Int}{g:TG}{tb:TS}{D:Ends}(Pv:Nat->St->Hp->Prop)(h0:Pv 0 σ H)
  (hs:∀i σ H,i<n->Pv i σ H->g (.int (lo+i)) σ H λaw H2=>tb {D with nx:=Pv (i+1),ct:=Pv (i+1),bk:=D.nx} aw H2) (hd:∀σ H,Pv n σ H->D.nx σ H):
  ∃W:Nat->Nat->St->Hp->Prop,(∃m,W 0 m σ H)/\∀i m σ H,W i m σ H->
   ((Itr lo n).stop i H/\D.nx σ H)\/((Itr lo n).go i H/\∃N,(∀ah H',N ah H'->∃m',m'<m/\W (i+1) m' ah H')/\∀x H',(Itr lo n).yld i H x H'->g x σ H' λaw H2=>tb {D with nx:=N,ct:=N,bk:=D.nx} aw H2):=by
 refine⟨λi m σ H=>m=n-i/\i<=n/\Pv i σ H,⟨n,by simp,zAp _,h0⟩,?_⟩;rintro i m σ H ⟨rfl,hi,p⟩;by_cases ay:i<n
 .refine .inr ⟨ay,Pv (i+1),λah H' p'=>⟨n-(i+1),z00,rfl,ay,p'⟩,λx H' y=>?_⟩;obtain⟨e,y⟩:=y;subst e y;exact hs i σ _ ay p
 .have e:i=n:=z00
  subst e;exact .inl ⟨zA3 _,hd σ H p⟩
abbrev R2:=V->V->Hp->VK->Prop
def OpR(X:Cx)(f:Value->Value->Sem Value)(r:R2):Prop:=
 ∀z06 s (σ:St) H x y v u Q,Inv X z06 σ H s->RelV x v->RelV y u->r x y H Q->
  wpAny (model X.prog X.w) X.A (f v u) (EP X z06 σ Q) X.xe s
def UnR(X:Cx)(f:Value->Sem Value)(r:V->Hp->VK->Prop):Prop:=
 ∀z06 s (σ:St) H x v Q,Inv X z06 σ H s->RelV x v->r x H Q->
  wpAny (model X.prog X.w) X.A (f v) (EP X z06 σ Q) X.xe s
def dH(X:Cx)(f:Value)(r:List V->Hp->VK->Prop):Prop:=
 ∀z06 s (σ:St) H xs us Q,Inv X z06 σ H s->Vals xs us->r xs H Q->
  wpAny (model X.prog X.w) X.A (call f us) (EP X z06 σ Q) X.xe s
def tOp(r:R2)(ta tb:TE):TE:=λσ H Q=>ta σ H λx H1=>tb σ H1 λy H2=>r x y H2 Q
def tUn(r:V->Hp->VK->Prop)(ta:TE):TE:=λσ H Q=>ta σ H λx H1=>r x H1 Q
inductive RII(C:Int->Int->Prop)(g:Int->Int->V)(x:V)(y:V)(H:Hp)(Q:VK):Prop
 |mk:∀i j,(x=.int i)->(y=.int j)->(C i j)->(Q (g i j) H)->RII C g x y H Q
def rI(C:Int->Int->Prop)(g:Int->Int->V):R2:=λx y H Q=>RII C g x y H Q
inductive RI0I(g:Int->Int->V)(x:V)(y:V)(H:Hp)(Q:VK):Prop
 |mk:∀i j,(x=.int i)->(y=.int j)->(Q (g i j) H)->RI0I g x y H Q
def rI0(g:Int->Int->V):R2:=λx y H Q=>RI0I g x y H Q
inductive RUI(g:Int->V)(x:V)(H:Hp)(Q:VK):Prop
 |mk:∀i,(x=.int i)->(Q (g i) H)->RUI g x H Q
def rU(g:Int->V):V->Hp->VK->Prop:=λx H Q=>RUI g x H Q
section
theorem Js(ha:PE X a ta)(hb:PE X b tb){σ:St}{R:V->V->Hp->Prop}(I:Inv X z06 σ H s)
  (h:ta σ H λx H1=>tb σ H1 λy H2=>R x y H2) {Q:Value->Shared->Prop} {f:Value->Value->Sem Value}
  (hf:∀v u s2 x y H2,Inv X z06 σ H2 s2->RelV x v->RelV y u->R x y H2->wpAny (model X.prog X.w) X.A (f v u) Q X.xe s2):
  wpAny (model X.prog X.w) X.A (eval a X.env) (λv s₁=>wpAny (model X.prog X.w) X.A (eval b X.env) (λu s₂=>wpAny (model X.prog X.w) X.A (f v u) Q X.xe s₂) X.xe s₁) X.xe s:=by
 refine thn (ha z06 s σ H _ I h) λv s1=>?_;rintro⟨x,H1,I1,r1,q1⟩;refine thn (hb z06 s1 σ H1 _ I1 q1) λu s2=>?_;rintro⟨y,H2,I2,r2,q2⟩;exact hf v u s2 x y H2 I2 r1 r2 q2
theorem aO(ho:OpR X (binaryOp op) r)(ha:PE X a ta)(hb:PE X b tb):PE X (.BinOp a op b pos) (tOp r ta tb):=by
 intro z06 s σ H Q I h;exact wpAny_BinOp (Js ha hb I h λv u s2 x y H2 I2 rx ry q=>ho z06 s2 σ H2 x y v u Q I2 rx ry q)
theorem uY(ho:UnR X (unaryOp op) r)(ha:PE X a ta):PE X (.UnaryOp op a pos) (tUn r ta):=by
 intro z06 s σ H Q I h;exact UnaryOp_ (thn (ha z06 s σ H _ I h) λv s1=>by rintro⟨x,H1,I1,r1,q1⟩;exact ho z06 s1 σ H1 x v Q I1 r1 q1)
theorem opI{g:Int->Int->Int}
  (rule:∀i j t u s Q E,C i j->Q (.int (g i j) s.toks) {s with toks:=s.toks+1}->wpAny (model X.prog X.w) X.A (f (.int i t) (.int j u)) Q E s):
  OpR X f (rI C λi j=>.int (g i j)):=by
 intro z06 s σ H x y v u Q I rx ry h;obtain⟨i,j,rfl,rfl,hc,q⟩:=h;obtain⟨t,rfl⟩:=rx;obtain⟨t',rfl⟩:=ry;exact rule i j t t' s _ _ hc ⟨.int (g i j),H,I.tok _,⟨_,rfl⟩,q⟩
theorem Le{g:Int->Int->Int}
  (rule:∀i j t u s Q E,Q (.int (g i j) s.toks) {s with toks:=s.toks+1}->wpAny (model X.prog X.w) X.A (f (.int i t) (.int j u)) Q E s):
  OpR X f (rI0 λi j=>.int (g i j)):=by
 intro z06 s σ H x y v u Q I rx ry h;obtain⟨i,j,rfl,rfl,q⟩:=h;obtain⟨t,rfl⟩:=rx;obtain⟨t',rfl⟩:=ry;exact rule i j t t' s _ _ ⟨.int (g i j),H,I.tok _,⟨_,rfl⟩,q⟩
theorem Gg{g:Int->Int->Bool}
  (rule:∀i j t u s Q E,Q (.bool (g i j)) s->wpAny (model X.prog X.w) X.A (f (.int i t) (.int j u)) Q E s):
  OpR X f (rI0 λi j=>.bl (g i j)):=by
 intro z06 s σ H x y v u Q I rx ry h;obtain⟨i,j,rfl,rfl,q⟩:=h;obtain⟨t,rfl⟩:=rx;obtain⟨t',rfl⟩:=ry;exact rule i j t t' s _ _ ⟨.bl (g i j),H,I,rfl,q⟩
def Nr(i j:Int):Prop:=0<j/\j<1073741824
def xj(i j:Int):Prop:=0<=j/\j<=1000000/\i.natAbs<2^64
def CMul(i j:Int):Prop:=(-(2^64)<i/\i<2^64)\/(-(2^64)<j/\j<2^64)
theorem CMul.ok(h:CMul i j):IntMulOk i j:=by
 rcases h with⟨h1,h2⟩|⟨h1,h2⟩
 .exact .of_left (intBits_le_64 h1 h2)
 .exact .of_right (intBits_le_64 h1 h2)
theorem bT:OpR X (binaryOp .Add) (rI0 λi j=>.int (i+j)):=Le λ_ _ _ _ _ _ _ q=>add_int q
theorem dY:OpR X (binaryOp .Sub) (rI0 λi j=>.int (i-j)):=Le λ_ _ _ _ _ _ _ q=>sub_int q
theorem gR:OpR X (binaryOp .Mult) (rI CMul λi j=>.int (i*j)):=opI λ_ _ _ _ _ _ _ hc q=>mul_int q hc.ok
theorem tH:OpR X (binaryOp .FloorDiv) (rI Nr λi j=>.int (i / j)):=opI λi j _ _ _ _ _ hc q=>by
 have h1:(0:Int)<j:=hc.1;have h2:j<1073741824:=hc.2;exact floordiv_int z00 (by rw[Int.fdiv_eq_ediv_of_nonneg i z00];exact q) (.inl (PyProof.noPylong_small z00))
theorem jY:OpR X (binaryOp .Mod) (rI (λ_ j=>0<j) λi j=>.int (i % j)):=opI λi j _ _ _ _ _ hc q=>by
 exact mod_int' z00 (by rw[Int.fmod_eq_emod_of_nonneg i z00];exact q)
theorem tK:OpR X (binaryOp .Pow) (rI xj λi j=>.int (i^j.toNat)):=opI λ_ _ _ _ _ _ _ hc q=>pow_int_small hc.1 hc.2.1 hc.2.2 q
theorem unI{g:Int->Int}
  (rule:∀i t s Q E,Q (.int (g i) s.toks) {s with toks:=s.toks+1}->wpAny (model X.prog X.w) X.A (f (.int i t)) Q E s):
  UnR X f (rU λi=>.int (g i)):=by
 intro z06 s σ H x v Q I rx h;obtain⟨i,rfl,q⟩:=h;obtain⟨t,rfl⟩:=rx;exact rule i t s _ _ ⟨.int (g i),H,I.tok _,⟨_,rfl⟩,q⟩
theorem pB:UnR X (unaryOp .USub) (rU λi=>.int (-i)):=unI λ_ _ _ _ _ q=>neg_int q
end
def Lf:V->V->Bool
 |.non,.non=>true|.non,.int _=>true|.int _,.non=>true|.non,.bl _=>true|.bl _,.non=>true|.non,.str _=>true|.str _,.non=>true
 |.int _,.int _=>true|.bl _,.bl _=>true|.str _,.str _=>true|.byt _,.byt _=>true
 |.int _,.str _=>true|.str _,.int _=>true|.bl _,.str _=>true|.str _,.bl _=>true
 |_,_=>false
def rEq:R2:=λx y H Q=>Lf x y=true/\Q (.bl (decide (x=y))) H
def rNe:R2:=λx y H Q=>Lf x y=true/\Q (.bl (!decide (x=y))) H
theorem yq:decide (V.int i=V.int j)=(i==j):=by
 rw[Zau];simp
theorem Cr:decide (V.bl i=V.bl j)=(i==j):=by
 rw[Zau];simp
theorem yr:decide (V.str i=V.str j)=(i==j):=by
 rw[Zau];simp
theorem yt:decide (V.byt i=V.byt j)=(i.toList==j.toList):=by
 rw[Zau];cases i;cases j;simp
section
theorem bJ{σ:St}(I:Inv X z06 σ H s)(q:Q (.bl k) H)(e:k=k'):EP X z06 σ Q (.bool k') s:=by
 subst e;exact⟨.bl k,H,I,rfl,q⟩
theorem iH:OpR X (compareOp .Eq) rEq:=by
 intro z06 s σ H x y v u Q I rx ry h;obtain⟨hs,q⟩:=h
 cases x with
 |non=>
  cases rx
  cases y with
  |non=>cases ry;exact PySem.EqNone.eq_none_none (bJ I q z01)
  |bl j=>cases ry;exact PySem.EqNone.eq_none_bool (bJ I q z01)
  |int j=>obtain⟨t',rfl⟩:=ry;exact PySem.EqNone.eq_none_int (bJ I q z01)
  |str j=>obtain⟨t',rfl⟩:=ry;exact PySem.EqNone.eq_none_str (bJ I q z01)
  |_=>exact absurd (show false=true from hs) zAg
 |bl i=>
  cases rx
  cases y with
  |non=>cases ry;exact PySem.EqNone.eq_bool_none (bJ I q z01)
  |bl j=>cases ry;exact eq_bool (bJ I q Cr)
  |str j=>obtain⟨t',rfl⟩:=ry;exact PySem.EqMixed.eq_bool_str (bJ I q z01)
  |_=>exact absurd (show false=true from hs) zAg
 |int i=>
  obtain⟨t,rfl⟩:=rx
  cases y with
  |non=>cases ry;exact PySem.EqNone.eq_int_none (bJ I q z01)
  |int j=>obtain⟨t',rfl⟩:=ry;exact eq_int (bJ I q yq)
  |str j=>obtain⟨t',rfl⟩:=ry;exact PySem.EqMixed.eq_int_str (bJ I q z01)
  |_=>exact absurd (show false=true from hs) zAg
 |str i=>
  obtain⟨t,rfl⟩:=rx
  cases y with
  |non=>cases ry;exact PySem.EqNone.eq_str_none (bJ I q z01)
  |bl j=>cases ry;exact PySem.EqMixed.eq_str_bool (bJ I q z01)
  |int j=>obtain⟨t',rfl⟩:=ry;exact PySem.EqMixed.eq_str_int (bJ I q z01)
  |str j=>obtain⟨t',rfl⟩:=ry;exact eq_str (bJ I q yr)
  |_=>exact absurd (show false=true from hs) zAg
 |byt i=>
  obtain⟨t,rfl⟩:=rx
  cases y with
  |byt j=>obtain⟨t',rfl⟩:=ry;exact PySem.W.eq_bytes (bJ I q yt)
  |_=>exact absurd (show false=true from hs) zAg
 |_=>cases y<;>exact absurd (show false=true from hs) zAg
theorem lB:OpR X (compareOp .NotEq) rNe:=by
 intro z06 s σ H x y v u Q I rx ry h;obtain⟨hs,q⟩:=h
 cases x with
 |non=>
  cases rx
  cases y with
  |non=>cases ry;exact PySem.EqNone.ne_none_none (bJ I q z01)
  |bl j=>cases ry;exact PySem.EqNone.ne_none_bool (bJ I q z01)
  |int j=>obtain⟨t',rfl⟩:=ry;exact PySem.EqNone.ne_none_int (bJ I q z01)
  |str j=>obtain⟨t',rfl⟩:=ry;exact PySem.EqNone.ne_none_str (bJ I q z01)
  |_=>exact absurd (show false=true from hs) zAg
 |bl i=>
  cases rx
  cases y with
  |non=>cases ry;exact PySem.EqNone.ne_bool_none (bJ I q z01)
  |bl j=>cases ry;exact ne_bool (bJ I q (congrArg not Cr))
  |str j=>obtain⟨t',rfl⟩:=ry;exact PySem.EqMixed.ne_bool_str (bJ I q z01)
  |_=>exact absurd (show false=true from hs) zAg
 |int i=>
  obtain⟨t,rfl⟩:=rx
  cases y with
  |non=>cases ry;exact PySem.EqNone.ne_int_none (bJ I q z01)
  |int j=>obtain⟨t',rfl⟩:=ry;exact ne_int (bJ I q (congrArg not yq))
  |str j=>obtain⟨t',rfl⟩:=ry;exact PySem.EqMixed.ne_int_str (bJ I q z01)
  |_=>exact absurd (show false=true from hs) zAg
 |str i=>
  obtain⟨t,rfl⟩:=rx
  cases y with
  |non=>cases ry;exact PySem.EqNone.ne_str_none (bJ I q z01)
  |bl j=>cases ry;exact PySem.EqMixed.ne_str_bool (bJ I q z01)
  |int j=>obtain⟨t',rfl⟩:=ry;exact PySem.EqMixed.ne_str_int (bJ I q z01)
  |str j=>obtain⟨t',rfl⟩:=ry;exact ne_str (bJ I q (congrArg not yr))
  |_=>exact absurd (show false=true from hs) zAg
 |byt i=>
  obtain⟨t,rfl⟩:=rx
  cases y with
  |byt j=>obtain⟨t',rfl⟩:=ry;exact PySem.W.ne_bytes (bJ I q (congrArg not yt))
  |_=>exact absurd (show false=true from hs) zAg
 |_=>cases y<;>exact absurd (show false=true from hs) zAg
theorem o7:OpR X (compareOp .Lt) (rI0 λi j=>.bl (decide (i<j))):=Gg λ_ _ _ _ _ _ _ q=>lt_int q
theorem cD:OpR X (compareOp .LtE) (rI0 λi j=>.bl (decide (i<=j))):=Gg λ_ _ _ _ _ _ _ q=>le_int q
theorem jm:OpR X (compareOp .Gt) (rI0 λi j=>.bl (decide (j<i))):=Gg λ_ _ _ _ _ _ _ q=>gt_int q
theorem IW:OpR X (compareOp .GtE) (rI0 λi j=>.bl (decide (j<=i))):=Gg λ_ _ _ _ _ _ _ q=>ge_int q
theorem xm:OpR X (compareOp .Is) (λx y H Q=>y=.non/\Q (.bl (decide (x=.non))) H):=by
 intro z06 s σ H x y v u Q I rx ry h;obtain⟨rfl,q⟩:=h;cases ry;refine is_none_gen (bJ I q ?_)
 cases x<;>first
  | (cases rx;rfl)
  | (obtain⟨t,rfl⟩:=rx;rfl)
theorem aU(b:Expr)(h:op≠.In:=by decide)(h2:op≠.NotIn:=by decide):behindInMarks op b=false:=by
 have e1:(op==CmpOp.In)=false:=by cases op<;>first|rfl|exact absurd rfl h
 have e2:(op==CmpOp.NotIn)=false:=by cases op<;>first|rfl|exact absurd rfl h2
 cases b<;>simp[behindInMarks,e1,e2]
theorem fZ(ho:OpR X (compareOp op) r)(ha:PE X a ta)(hb:PE X b tb)(hm:behindInMarks op b=false):PE X (.Compare a [op] [b] pos) (tOp r ta tb):=by
 intro z06 s σ H Q I h;exact wpAny_Compare1 (Js ha hb I h λv u s2 x y H2 I2 rx ry q=>ho z06 s2 σ H2 x y v u Q I2 rx ry q) hm
def pC(t:TE):TT:=λσ H Q=>t σ H λx H'=>∃k,x=.bl k/\Q k H'
theorem aW(ho:OpR X (compareOp op) r)(ha:PE X a ta)(hb:PE X b tb)(hm:behindInMarks op b=false):PT X (.Compare a [op] [b] pos) (pC (tOp r ta tb)):=by
 intro z06 s σ H Q I h
 refine wpAny_isTrue_Compare1 (thn (ha z06 s σ H _ I h) λv s1 ⟨x,H1,I1,r1,q1⟩=>thn (hb z06 s1 σ H1 _ I1 q1) λu s2 ⟨y,H2,I2,r2,q2⟩=>
  thn (ho z06 s2 σ H2 x y v u _ I2 r1 r2 q2) λc s3 ⟨z,H3,I3,r3,k,e,q3⟩=>?_) hm
 subst e;cases r3;exact wpAny_truthy_bool ⟨H3,I3,q3⟩
def xn(r r':R2)(ta tb tc:TE):TE:=λσ H Q=>ta σ H λx H1=>tb σ H1 λy H2=>r x y H2 λz H3=>∃k,z=.bl k /\
 (if k=true then tc σ H3 λw' H4=>r' y w' H4 Q else Q (.bl false) H3)
theorem cW(ho:OpR X (compareOp op) r)(gN:OpR X (compareOp va) r')(ha:PE X a ta)(hb:PE X b tb)(hc:PE X c tc)
  (hm:lastMarks [op,va] [b,c]=false:=by with_unfolding_all rfl):PE X (.Compare a [op,va] [b,c] pos) (xn r r' ta tb tc):=by
 intro z06 s σ H Q I h
 refine Compare_chain (thn (ha z06 s σ H _ I h) λv s1 ⟨x,H1,I1,r1,q1⟩=>chain_link (thn (hb z06 s1 σ H1 _ I1 q1) λu s2 ⟨y,H2,I2,r2,q2⟩=>
  thn (ho z06 s2 σ H2 x y v u _ I2 r1 r2 q2) λd s3 ⟨z,H3,I3,r3,k,e,q3⟩=>?_)) hm
 subst e;cases r3;refine wpAny_truthy_bool ?_
 cases k with
 |false=>exact ite_ff ⟨.bl false,H3,I3,rfl,q3⟩
 |true=>exact ite_tt (chain_last (thn (hc z06 s3 σ H3 _ I3 q3) λw' s4=>by rintro⟨z',H4,I4,r4,q4⟩;exact gN z06 s4 σ H4 y z' u w' Q I4 r2 r4 q4))
theorem pF(ho:OpR X (compareOp op) r)(gN:OpR X (compareOp va) r')(ha:PE X a ta)(hb:PE X b tb)(hc:PE X c tc)
  (hm:lastMarks [op,va] [b,c]=false:=by with_unfolding_all rfl):PT X (.Compare a [op,va] [b,c] pos) (pC (xn r r' ta tb tc)):=by
 intro z06 s σ H Q I h
 refine isTrue_chain (thn (ha z06 s σ H _ I h) λv s1 ⟨x,H1,I1,r1,q1⟩=>test_link (thn (hb z06 s1 σ H1 _ I1 q1) λu s2 ⟨y,H2,I2,r2,q2⟩=>
  thn (ho z06 s2 σ H2 x y v u _ I2 r1 r2 q2) λd s3 ⟨z,H3,I3,r3,k,e,q3⟩=>?_)) hm
 subst e;cases r3;refine wpAny_truthy_bool ?_
 cases k with
 |false=>
  obtain⟨k',e',q'⟩:=q3;cases e';exact ite_ff ⟨H3,I3,q'⟩
 |true=>
  refine ite_tt (test_last (thn (hc z06 s3 σ H3 _ I3 q3) λw' s4 ⟨z',H4,I4,r4,q4⟩=>thn (gN z06 s4 σ H4 y z' u w' _ I4 r2 r4 q4) λd' s5=>?_));rintro⟨z2,H5,I5,r5,k2,e2,q5⟩;subst e2;cases r5;exact wpAny_truthy_bool ⟨H5,I5,q5⟩
theorem pG:(sizeLine:Nat)<2^63:=by rw[sizeLine_eq];decide
theorem vals1(r:Vals [x] us):∃u,us=[u]/\RelV x u:=by
 cases r with
 |cons r1 r2=>cases r2;exact⟨_,rfl,r1⟩
theorem vals2(r:Vals [x,y] us):∃u w',us=[u,w']/\RelV x u/\RelV y w':=by
 cases r with
 |cons r1 r2=>
  cases r2 with
  |cons r3 r4=>cases r4;exact⟨_,_,rfl,r1,r3⟩
theorem jG(hc:X.calm=true):dH X (.builtin "max") (λxs H Q=>∃i j,xs=[.int i,.int j]/\Q (.int (if j>i then j else i)) H):=by
 intro z06 s σ H xs us Q I r h;obtain⟨i,j,rfl,q⟩:=h;obtain⟨u,w',rfl,⟨t,rfl⟩,⟨t',rfl⟩⟩:=vals2 r
 refine max_two_ints (I.ok.hd hc) λh' tk k=>⟨_,H,I.kept k,?_,q⟩
 by_cases hj:j>i
 .rw[zAz hj,zAz hj];exact⟨_,rfl⟩
 .rw[zAy hj,zAy hj];exact⟨_,rfl⟩
theorem iI(hc:X.calm=true):dH X (.builtin "min") (λxs H Q=>∃i j,xs=[.int i,.int j]/\Q (.int (if j<i then j else i)) H):=by
 intro z06 s σ H xs us Q I r h;obtain⟨i,j,rfl,q⟩:=h;obtain⟨u,w',rfl,⟨t,rfl⟩,⟨t',rfl⟩⟩:=vals2 r
 refine min_two_ints (I.ok.hd hc) λh' tk k=>⟨_,H,I.kept k,?_,q⟩
 by_cases hj:j<i
 .rw[zAz hj,zAz hj];exact⟨_,rfl⟩
 .rw[zAy hj,zAy hj];exact⟨_,rfl⟩
theorem Ad:dH X (.type "int") (λxs H Q=>(∃i,xs=[.int i]/\Q (.int i) H)\/∃k,xs=[.bl k]/\Q (.int (if k then 1 else 0)) H):=by
 intro z06 s σ H xs us Q I r h;rcases h with⟨i,rfl,q⟩|⟨k,rfl,q⟩
 .obtain⟨u,rfl,t,rfl⟩:=vals1 r;exact call_int_int ⟨.int i,H,I,⟨_,rfl⟩,q⟩
 .obtain⟨u,rfl,r1⟩:=vals1 r;cases r1;exact call_int_bool ⟨.int (if k then 1 else 0),H,I.tok _,⟨_,rfl⟩,q⟩
theorem tL:dH X (.type "str") (λxs H Q=>∃i,xs=[.int i]/\i.natAbs.log2<1920/\Q (.str (toString i)) H):=by
 intro z06 s σ H xs us Q I r h;obtain⟨i,rfl,hz,q⟩:=h;obtain⟨u,rfl,t,rfl⟩:=vals1 r;exact PySem.P.str_of_int hz ⟨.str _,H,I.tok _,⟨_,rfl⟩,q⟩
end
structure ObjM(h:Heap)(x dx C:Addr)(mA:Str->Option Value):Prop where
 obj:h.get? x=some (PySem.W.instObj C dx)
 ns:h.Ns1 dx mA
 ne:dx≠x
theorem Ae{h:Heap}(n:h.Ns1 dx mA):∃od,h.get? dx=some od/\∀name,PySem.W.lookIn name od=some (mA name):=by
 obtain⟨o,es,ep,ho,hd,hk,_,hm⟩:=n;refine⟨o,ho,λname=>?_⟩;have e:=hm name;unfold nsFind findBy at e;rw[<-Array.find?_toList]at e;unfold PySem.W.lookIn;rw[hd];dsimp only;split
 .rename_i y q
  rw[q]at e;exact congrArg some e
 .rename_i q
  rw[q]at e
  have a:es.toList.any (·.refKey)=false:=by
   rw[List.any_eq_false];intro y hy;obtain⟨z,t,HP⟩:=hk y (Array.mem_toList_iff.mp hy);simp[DictEntry.refKey,HP]
  have a':¬es.toList.any (·.refKey)=true:=by rw[a];exact zAg
  rw[zAy a'];exact congrArg some e
theorem ObjM.look(I:ObjM h x dx C mA):∃od,PySem.W.InstAt h x (PySem.W.instObj C dx) C (some od)/\∀name,PySem.W.lookIn name od=some (mA name):=
 let⟨od,ho,hl⟩:=Ae I.ns
 ⟨od,⟨I.obj,rfl,rfl,ho⟩,hl⟩
section
end
theorem RelO.some_of(r:RelO (some v) o):∃u,o=some u/\RelV v u:=by
 cases o with
 |none=>exact(r).elim
 |some u=>exact⟨u,rfl,r⟩
section
theorem Gh(hok:HOk P w H h)(e:H a=some (.ins C dx fs)):∃mA,ObjM h a dx C mA/\(∀f,RelO (fs.lookup f) (mA f))/\PySem.Within mA (fs.map (·.1))/\fs.length<=1000/\H dx=some (.own a):=by
 obtain⟨d,z,ne,ob,mA,n,r,q⟩:=(hok a _ e)
 exact⟨mA,⟨ob,n,ne⟩,r,q,z,d⟩
end
structure Cls(K:Frag)(C:Addr):Prop where
 pg:PySem.W.plainGet K C Str.empty=true
 hd:PySem.W.hasDictIn K C=true
 po:PySem.W.plainOver K C=true
 sa:PySem.W.findIn K (.ref C) "__setattr__"=some (some (.builtin "object.__setattr__"))
theorem Cls.get{K:Frag}(c:Cls K C)(f:Str):PySem.W.plainGet K C f=true:=c.pg
section
end
section
end
section
variable{σ:St}
inductive TyOf(K:Frag)(H:Hp):V->Value->Prop where
 |non:TyOf K H .non (.type "NoneType")
 |bl (x:Bool):TyOf K H (.bl x) (.type "bool")
 |int (i:Int):TyOf K H (.int i) (.type "int")
 |str (x:Str):TyOf K H (.str x) (.type "str")
 |flt (x:UInt64):TyOf K H (.flt x) (.type "float")
 |lst {a:Addr} {xs:List V} (e:H a=some (.lst xs)):TyOf K H (.ref a) (.type "list")
 |frz {a:Addr} {o:Obj} {xs:List V} (e:H a=some (.frz o (.lst xs))):TyOf K H (.ref a) (.type "list")
 |tup {a:Addr} {xs:List V} (e:H a=some (.tup xs)):TyOf K H (.ref a) (.type "tuple")
 |dK {a:Addr} {kvs:List (Key×V)} (e:H a=some (.dK kvs)):TyOf K H (.ref a) (.type "dict")
 |dT {a:Addr} {kvs:List (List Key×V)} (e:H a=some (.dT kvs)):TyOf K H (.ref a) (.type "dict")
 |ins {a C dx:Addr} {fs:List (Str×V)} (e:H a=some (.ins C dx fs)) (cl:Cls K C) (ha:PySem.W.findIn K (.ref C) "__class__"=some (some (.builtin "object.__class__")))
   (hn:PySem.W.specialIn K (.builtin "object.__class__") "__get__"=some (some (.builtin "getset_descriptor.__get__"))) (sf:PySem.W.takesIn K (.builtin "object.__class__")=some true)
   (hm:PySem.W.mroIn K C (.type "object")=some true):TyOf K H (.ref a) (.ref C)
theorem Af(I:Inv X z06 σ H s)(rx:RelV x u)(ty:TyOf X.K H x t)(e:PySem.W.kitOne X.K t c=some b)(h:∀tk,Q (.bool b) {s with toks:=tk}):
  wpAny (model X.prog X.w) A (call (.builtin "isinstance") [u,c]) Q E s:=by
 cases ty with
 |non=>cases(show u=Value.none from rx);exact PySem.W.kia_one PySem.W.kitx_none I.kIn True.intro e (λz=>nomatch z) h
 |bl y=>cases(show u=Value.bool y from rx);exact PySem.W.kia_one PySem.W.kitx_bool I.kIn True.intro e (λz=>nomatch z) h
 |int i=>obtain⟨t,q⟩:=(show ∃t,u=Value.int i t from rx);cases q;exact PySem.W.kia_one PySem.W.kitx_int I.kIn True.intro e (λz=>nomatch z) h
 |str y=>obtain⟨t,q⟩:=(show ∃t,u=Value.str y t from rx);cases q;exact PySem.W.kia_one PySem.W.kitx_str I.kIn True.intro e (λz=>nomatch z) h
 |flt y=>obtain⟨t,q⟩:=(show ∃t,u=Value.float y t from rx);cases q;exact PySem.W.kia_one PySem.W.kitx_float I.kIn True.intro e (λz=>nomatch z) h
 |@lst a xs ea=>
  cases(show u=Value.ref a from rx)
  obtain⟨_,_,n,_,h1⟩:=(show ObjOk X.prog X.w H s.heap a (.lst xs)from I.hok a _ ea)
  exact PySem.W.kia_one PySem.W.kitx_list I.kIn ⟨_,h1,rfl⟩ e (λz=>nomatch z) h
 |@frz a ob xs ea=>
  cases(show u=Value.ref a from rx)
  obtain⟨_,_,_,n,_,h1⟩:=(show ObjOk X.prog X.w H s.heap a (.frz ob (.lst xs))from I.hok a _ ea)
  exact PySem.W.kia_one PySem.W.kitx_list I.kIn ⟨_,h1,rfl⟩ e (λz=>nomatch z) h
 |@tup a xs ea=>
  cases(show u=Value.ref a from rx)
  obtain⟨_,_,_,p⟩:=(show ObjOk X.prog X.w H s.heap a (.tup xs)from I.hok a _ ea)
  obtain⟨o,h1,h2,_⟩:=p;exact PySem.W.kia_one PySem.W.kitx_tuple I.kIn ⟨o,h1,h2⟩ e (λz=>nomatch z) h
 |@dK a kvs ea=>
  cases(show u=Value.ref a from rx)
  obtain⟨_,_,vs,_,p⟩:=(show ObjOk X.prog X.w H s.heap a (.dK kvs)from I.hok a _ ea)
  obtain⟨o,es,ep,h1,h2,_⟩:=p;exact PySem.W.kia_one PySem.W.kitx_dict I.kIn ⟨o,h1,h2.1⟩ e (λz=>nomatch z) h
 |@dT a kvs ea=>
  cases(show u=Value.ref a from rx)
  obtain⟨_,_,xs,_,o,es,ep,h1,h2,_⟩:=(show ObjOk X.prog X.w H s.heap a (.dT kvs)from I.hok a _ ea)
  exact PySem.W.kia_one PySem.W.kitx_dict I.kIn ⟨o,h1,h2.1⟩ e (λz=>nomatch z) h
 |@ins a C dx fs ea cl ha hn sf hm=>
  cases(show u=Value.ref a from rx);obtain⟨mA,O,_⟩:=Gh I.hok ea;obtain⟨od,J,_⟩:=O.look;exact PySem.W.kia_one (PySem.W.kitx_own (cl.get _) cl.hd ha hn sf hm) I.kIn J e (λz=>nomatch z) h
end
structure Room(k:Nat)(A:Around):Prop where
 hd:A.handled=none
 dp:A.depth+3*k+5<recursionLimit
 un:A.units+16*k+200<cLine
 gd:A.guards=some []
theorem Room.mono(r:Room k A)(h:j<=k):Room j A:=⟨r.hd,by have:=r.dp;lia,by have:=r.un;lia,r.gd⟩
theorem Room.deeper(r:Room (k+1) A)(env:Env):Room k (A.deeper env):=
 ⟨r.hd,by have:=r.dp;show A.depth+1+3*k+5<_;lia,by have:=r.un;show A.units+3+16*k+200<_;lia,r.gd⟩
theorem Room.depth(r:Room k A):A.depth<recursionLimit:=by have:=r.dp;lia
theorem Room.units(r:Room k A):A.units+64<cLine:=by have:=r.un;lia
def gW:TA:=λ_ H Q=>Q [] H
def bU(ta:TE)(tr:TA):TA:=λσ H Q=>ta σ H λx H1=>tr σ H1 λxs H2=>Q (x::xs) H2
section
theorem aj:PA X [] gW:=λ_ _ _ _ H Q I h=>Calls.spliced_nil ⟨[],H,I,.nil,h⟩
theorem aM(ha:PE X e te)(hr:PA X es t)(hs:starEach (e::es) X.env=(false,eval e X.env)::starEach es X.env:=by rfl):PA X (e::es) (bU te t):=by
 intro pos z06 s σ H Q I h;rw[hs];show wpAny _ _ (spliced ((false,eval e X.env)::backTo pos (starEach es X.env))) _ _ s;refine Calls.spliced_cons (thn (ha z06 s σ H _ I h) λu s1=>?_);rintro⟨x,H1,I1,r1,q1⟩
 exact thn (hr pos z06 s1 σ H1 _ I1 q1) λus s2=>by rintro⟨xs,H2,I2,r2,q2⟩;exact⟨x::xs,H2,I2,.cons r1 r2,q2⟩
def mW(t:TA):TE:=λσ H Q=>t σ H λxs H1=>xs.length<=sizeLine/\∀p,H1 p=none->Q (.ref p) (upd H1 p (.tup xs))
def xq(t:TA):TE:=λσ H Q=>t σ H λxs H1=>xs.length<=sizeLine/\∀p,H1 p=none->Q (.ref p) (upd H1 p (.lst xs))
theorem bA{x1}(h:PA X es t):PE X (.Tuple es x1 pos) (mW t):=by
 intro z06 s σ H Q I hq;refine wpAny_Tuple_spliced (thn (h pos z06 s σ H _ I hq) λus s1 ⟨xs,H1,I1,r,z,q⟩=>⟨by rw[<-r.length];exact z,?_⟩);have hf:H1 s1.heap.objs.size=none:=I1.hok.fresh (zA3 _);refine⟨.ref s1.heap.objs.size,upd H1 s1.heap.objs.size (.tup xs),I1.laid (t':=s1.toks) (λb u e=>zAv _ e) (zA3 _) ?_,rfl,q _ hf⟩;exact⟨z,us,r,⟨_,zB1 _ rfl,rfl,_,rfl⟩⟩
theorem dJ(h:PA X es t):PE X (.List es pos) (xq t):=by
 intro z06 s σ H Q I hq;refine wpAny_List_spliced (thn (h pos z06 s σ H _ I hq) λus s1 ⟨xs,H1,I1,r,z,q⟩=>⟨by rw[<-r.length];exact z,?_⟩);have hf:H1 s1.heap.objs.size=none:=I1.hok.fresh (zA3 _);refine⟨.ref s1.heap.objs.size,upd H1 s1.heap.objs.size (.lst xs),I1.laid (t':=s1.toks) (λb u e=>zAv _ e) (zA3 _) ?_,rfl,q _ hf⟩;exact⟨z,us,0,r,zB1 _ rfl⟩
end
abbrev Sp:=List V->Hp->VK->XK->Prop
abbrev CXT:=List Env->Hp->Shared->XK->Value->Shared->Prop
structure Env0(P:Program)(w:World)(K:Frag)(mg:Str->Option Value)(base:Heap)(A:Around)(outer:List Env)(s:Shared)(H:Hp):Prop where
 frames:A.frames=some outer
 mod:Mod K mg base
 bs:∀b o,base.get? b=some o->s.heap.get? b=some o/\H b=none
 bsz:base.objs.size<=s.heap.objs.size
 funs:s.heap.FunFrames base outer
 frf:∀b∈frs outer,H b=none
 hok:HOk P w H s.heap
 bare:AllBare s.gens
def CE(outer:List Env)(P:Program)(w:World)(H:Hp)(s:Shared)(Q:VK)(u:Value)(s':Shared):Prop:=
 ∃v H',s'.os=s.os/\AllBare s'.gens/\Un (frs outer) [] H H' s.heap s'.heap/\HOk P w H' s'.heap/\RelV v u/\Q v H'
def CR(CX:CXT)(outer:List Env)(P:Program)(w:World)(H:Hp)(s:Shared)(Q:VK)(E:XK)(r:Result)(s':Shared):Prop:=
 match r with
 |.ok (.ret u)=>CE outer P w H s Q u s'
 |.ok _=>False
 |.error e=>CX outer H s E e s'
structure FnOk(P:Program)(w:World)(K:Frag)(mg:Str->Option Value)(base:Heap)(CX:CXT)(k:Nat)(f:Addr)(fd:FuncData)(ps:List Str)(sp:Sp):Prop where
 len:∀vs H Q E,sp vs H Q E->vs.length=ps.length
 run:∀A outer s H args us vs Q E,Room k A->Env0 P w K mg base A outer s H->BindsTo s fd args (ps.zip us)->Vals vs us->sp vs H Q E->
  codeAny (model P w) A (.call (.ref f) args) (CR CX outer P w H s Q E) s
theorem FnOk.mono{K:Frag}(F:FnOk P w K mg base CX j f fd ps sp)(h:j<=k):
  FnOk P w K mg base CX k f fd ps sp:=⟨F.len,λA outer s H args us vs Q E hr=>F.run A outer s H args us vs Q E (hr.mono h)⟩
theorem FnOk.imp{K:Frag}(F:FnOk P w K mg base CX k f fd ps sp)
  (h:∀vs H Q E,sp' vs H Q E->sp vs H Q E):FnOk P w K mg base CX k f fd ps sp':=
 ⟨λvs H Q E q=>F.len vs H Q E (h _ _ _ _ q),λA outer s H args us vs Q E hr he hb hv hs=>F.run A outer s H args us vs Q E hr he hb hv (h _ _ _ _ hs)⟩
section
variable{σ:St}
theorem Inv.env0(I:Inv X z06 σ H s):Env0 X.prog X.w X.K X.mg X.base X.A X.stack s H:=
 ⟨I.ok.frames,I.ok.mod,I.bs,Zah I.ok.bsz I.sz,I.stack,I.stkFree,I.hok,I.bare⟩
theorem Inv.after(I:Inv X z06 σ H s)(h:CE X.stack X.prog X.w H s Q u s'):EP X z06 σ Q u s':=by
 obtain⟨v,H',os,bare,un,hok,r,q⟩:=h;obtain⟨hh,g,d,t,RE⟩:=s';obtain rfl:RE=s.os:=os;exact⟨v,H',I.call (h':=hh) (g':=g) (d':=d) (t':=t) (ch:=[]) un hok bare (λb z=>absurd z z01),r,q⟩
end
def uZ(sp:Sp)(si:List V)(E:XK)(t:TA):TE:=λσ H Q=>t σ H λvs H1=>sp (vs++si) H1 Q E
def Binds(K:Frag)(fd:FuncData)(ps:List Str)(ds:List Value):Prop:=
 ∀s us,K.In s.heap->(us++ds).length=ps.length->BindsTo s fd ⟨us,[]⟩ (ps.zip (us++ds))
theorem Binds.all{K:Frag}(h:∀us,us.length=ps.length->bindArgs fd ⟨us,[]⟩=pure (ps.zip us)):Binds K fd ps []:=λs us _ hl=>by
 rw[zAn]at hl⊢;exact .of_eq (h us hl)
def tM(CX:CXT)(X:Cx)(E:XK):Prop:=∀z06 (σ:St) H s e s',Inv X z06 σ H s->CX X.stack H s E e s'->X.xe e s'
section
variable{p pos apos:Pos}
theorem Jt{σ:St}(F:FnOk X.prog X.w X.K X.mg X.base CX k f fd ps sp)(hr:Room k X.A)(hb:Binds X.K fd ps ds)(hd:Vals si ds)(hx:tM CX X E)
  (I:Inv X z06 σ H s) (r:Vals vs us) (h:sp (vs++si) H Q E):wpAny (model X.prog X.w) X.A (call (.ref f) us) (EP X z06 σ Q) X.xe s:=by
 have r2:Vals (vs++si) (us++ds):=r.append hd;have hl:(us++ds).length=ps.length:=by rw[<-r2.length];exact F.len _ _ _ _ h
 refine wpAny_call (codeAny_mono (F.run X.A X.stack s H ⟨us,[]⟩ (us++ds) (vs++si) Q E hr I.env0 (hb s us I.kIn hl) r2 h) λr s' hq=>?_)
 cases r with
 |error e=>exact hx z06 σ H s e s' I hq
 |ok fl=>
  cases fl with
  |ret u=>exact I.after hq
  |next=>exact False.elim hq
  |brk=>exact False.elim hq
  |cont=>exact False.elim hq
theorem yu(F:FnOk X.prog X.w X.K X.mg X.base CX k f fd ps sp)(hr:Room k X.A)(hg:Gl X x)(hm:X.mg x=some (.ref f))(hk:PySem.W.keepIn X.K (.ref f)=true)(hb:Binds X.K fd ps ds)(hd:Vals si ds)(hx:tM CX X E)
  (ha:PA X (e::es) t) (eC:(x==("__debug__":Str))=false:=by decide) (he:starEach (e::es) X.env=(false,eval e X.env)::starEach es X.env:=by rfl) (dP:(backTo pos (starEach es X.env)).any (·.1)=false:=by rfl):
  PE X (.Call (.Name x p) (e::es) [] pos) (uZ sp si E t):=by
 intro z06 s σ H Q I h;refine wpAny_Call_Name_kw (jD I hg hm ?_ eC);refine PySem.W.callWith_K (h₀:=X.base) I.ok.mod.kin hk (thn (ha pos z06 s σ H _ I h) λus s1 ⟨vs,H1,I1,r,q⟩=>⟨I1.kIn,?_⟩) he dP;exact Jt F hr hb hd hx I1 r q
end
section
end
structure FnScope(N P:List Str)(sc:Scope):Prop where
 kind:sc.kind=.function
 co:sc.isCoroutine=false
 gen:sc.isGenerator=false
 nd:N.Nodup
 pre:N.take P.length=P
 par:∀x∈P,sc.names.lookup x=some .local\/sc.names.lookup x=some .cell
 nofree:∀y∈sc.names,y.2≠.free
theorem rD{kindOf:Str->Option NameKind}:∀{binds:List (Str×Value)} {m:Str->Option Value},(∀v,(x,v)∉binds)->bindL kindOf binds m x=m x
 |[],_,_=>rfl
 | (n,v)::r,m,h=>by
  unfold bindL;rw[rD λw hw=>h w (Zai _ hw)];split
  .have:x≠n:=by rintro rfl;exact h v Zap
   simp[this]
  .rfl
theorem rE{kindOf:Str->Option NameKind}:∀{binds:List (Str×Value)} {m:Str->Option Value},(∀v,(x,v)∉binds)->bindC kindOf binds m x=m x
 |[],_,_=>rfl
 | (n,v)::r,m,h=>by
  unfold bindC;rw[rE λw hw=>h w (Zai _ hw)];split
  .rfl
  .have:x≠n:=by rintro rfl;exact h v Zap
   simp[this]
theorem rF{kindOf:Str->Option NameKind}:∀{P:List Str} {vs:List Value} {i:Nat} {m:Str->Option Value},P.Nodup->P[i]?=some x->vs[i]?=some v->kindOf x=some .local->
  bindL kindOf (P.zip vs) m x=some v
 |[],_,_,_,_,h,_,_=>by simp at h
 |_::_,[],_,_,_,_,h,_=>by simp at h
 |p::P,w::vs,0,m,nd,h1,h2,hk=>by
  simp at h1 h2;subst h1;subst h2;show bindL kindOf ((p,w)::P.zip vs) m p=_;unfold bindL;rw[rD λv hv=>(Za6.mp nd).1 (List.of_mem_zip hv).1,zAz hk];simp
 |p::P,w::vs,i+1,m,nd,h1,h2,hk=>by
  show bindL kindOf ((p,w)::P.zip vs) m x=_;unfold bindL;exact rF (i:=i) (Za6.mp nd).2 (by simpa using h1) (by simpa using h2) hk
theorem rG{kindOf:Str->Option NameKind}:∀{P:List Str} {vs:List Value} {i:Nat} {m:Str->Option Value},P.Nodup->P[i]?=some x->vs[i]?=some v->kindOf x≠some .local->
  bindC kindOf (P.zip vs) m x=some v
 |[],_,_,_,_,h,_,_=>by simp at h
 |_::_,[],_,_,_,_,h,_=>by simp at h
 |p::P,w::vs,0,m,nd,h1,h2,hk=>by
  simp at h1 h2;subst h1;subst h2;show bindC kindOf ((p,w)::P.zip vs) m p=_;unfold bindC;rw[rE λv hv=>(Za6.mp nd).1 (List.of_mem_zip hv).1,zAy hk];simp
 |p::P,w::vs,i+1,m,nd,h1,h2,hk=>by
  show bindC kindOf ((p,w)::P.zip vs) m x=_;unfold bindC;exact rG (i:=i) (Za6.mp nd).2 (by simpa using h1) (by simpa using h2) hk
def start(N:List Str)(vs:List V):St:=vs.map some++List.replicate (N.length-vs.length) none
def iJ(CX:CXT)(P:Program)(w:World)(K:Frag)(mg:Str->Option Value)(base:Heap)(N:List Str)(qual:Str)(scope:Scope)(f:Addr)(cd:Value)(A:Around)(outer:List Env)(s:Shared)(H:Hp)(E:XK):Cx where
 prog:=P
 w:=w
 K:=K
 mg:=mg
 base:=base
 A:=A.deeper (envOfC qual scope s.heap.objs.size f cd)
 N:=N
 s₀:=s
 H₀:=H
 env:=envOfC qual scope s.heap.objs.size f cd
 outer:=outer
 stack:=envOfC qual scope s.heap.objs.size f cd::outer
 ex:=[]
 calm:=true
 fn:=λ_=>true
 pn:=[]
 xe:=λe s'=>wpAny (model P w) (A.deeper (envOfC qual scope s.heap.objs.size f cd)) (leaving (envOfC qual scope s.heap.objs.size f cd) e) (λ_ kK=>CX outer H s E e kK) (λe' kK=>CX outer H s E e' kK) s'
theorem v7{sc:Scope}(h:sc.names.lookup x=some .cell):∃c,(cellsFrom n sc.names []).lookup x=some c:=by
 have q:=PySem.W.cellsFrom_some sc.names n [] (.inl h);exact Zas.mp q
theorem rH{K:Frag}
  (S:FnScope N ps scope) (hd:A.handled=none) (e0:Env0 P w K mg base A outer s H) (hl:vs.length=ps.length) (r:Vals vs us)
  (x:InCallC s s.heap.objs.size (bindL (envOfC qual scope s.heap.objs.size f cd).kindOf (ps.zip us) λ_=>none) (cellsFrom (s.heap.objs.size+1) scope.names []) (bindC (envOfC qual scope s.heap.objs.size f cd).kindOf (ps.zip us) λ_=>none) s1):
  Inv (iJ CX P w K mg base N qual scope f cd A outer s H E) [] (start N vs) H s1:=by
 have dP:ps.length<=N.length:=by have:=congrArg List.length S.pre;rw[zAd]at this;lia
 obtain⟨h1,tk,rfl,hk⟩:=x.done;have BB:∀b:Addr,b∉(iJ CX P w K mg base N qual scope f cd A outer s H E).ex:=λb z=>absurd (show b∈([]:List Addr)from z) z01
 refine⟨⟨e0.mod,S.kind,rfl,rfl,zA3 _,λy z c h1 h2=>?_,λy hy=>?_,λy c _ h=>?_,λ_=>hd,Around.frames_deeper e0.frames,.inr ⟨rfl,rfl⟩,λb z=>absurd z (BB b),e0.bs,e0.bsz,λb _ _=>BB b,λb z=>absurd z (BB b),e0.funs,e0.frf⟩,
  rfl,e0.bare,Un.kept hk,⟨_,x.toInCall.ns,λi y v h1 h2 h3=>?_⟩,λy c h=>⟨_,x.cell y c h⟩,e0.hok.fresh (zA3 _),λy c h=>?_,λp hp=>absurd (show p∈([]:List (Addr×Obj))from hp) z01,e0.hok.kept hk,?_⟩
 .exact name_of_addr x.apart (PySem.mem_of_lookup h1) (PySem.mem_of_lookup h2)
 .have hy:scope.names.lookup y=some .cell\/scope.names.lookup y=some .free:=hy;rcases hy with hy|hy
  .exact v7 hy
  .exact absurd rfl (S.nofree _ (PySem.mem_of_lookup hy))
 .exact Za4 (x.above y c (PySem.mem_of_lookup h))
 .have hi:i<vs.length:=by
   unfold start at h2;by_cases hi:i<vs.length
   .exact hi
   .rw[zB9 (by simpa using hi)]at h2;rw[List.getElem?_replicate]at h2;split at h2<;>cases h2
  have ha:vs[i]?=some v:=by
   unfold start at h2;rw[zBa (by simpa using hi),zAb]at h2
   cases e:vs[i]? with
   |none=>rw[e]at h2;cases h2
   |some a=>rw[e]at h2;cases h2;rfl
  obtain⟨u,hu,rv⟩:=r.get ha
  have hp:ps[i]?=some y:=by
   rw[<-S.pre,List.getElem?_take_of_lt z00];exact h1
  have NH:ps.Nodup:=by rw[<-S.pre];exact S.nd.sublist (List.take_sublist _ _)
  refine⟨u,rv,?_⟩;rcases S.par y (zB6 hp)with k|k
  .exact .inl ⟨k,rF NH hp hu k⟩
  .obtain⟨c,e⟩:=v7 (n:=s.heap.objs.size+1) k;refine .inr ⟨.inl k,c,e,?_⟩;have q:=x.cell y c e;rw[rG NH hp hu (by show scope.names.lookup y≠_;rw[k];decide)]at q;exact q
 .exact e0.hok.fresh (Za4 (x.above y c (PySem.mem_of_lookup h)))
 .unfold start;show _=N.length;rw[zA2,zA1,Zax];lia
theorem Cu{K:Frag}{dV kV doc pm cdv ct oc:Value}{an od:Option Addr}
  {kM:Array (Option Value)} {N ps:List Str} {sp:Sp} (lk:K.lookup f=some ⟨oc,od,.func (PySem.W.fnOf name qual params body scope dV kV doc pm an cdv ct),kM⟩) (eB:PySem.W.codeIn K cdv qual=true) (S:FnScope N ps scope)
  (len:∀vs H Q E,sp vs H Q E->vs.length=ps.length)
  (ar:∀A outer s H vs Q E,Room k (A.deeper (envOfC qual scope s.heap.objs.size f cdv))->sp vs H Q E->
   ∃t,PSs (iJ CX P w K mg base N qual scope f cdv A outer s H E) body t/\t {nx:=λ_ H'=>Q .non H',rt:=Q} (start N vs) H):
  FnOk P w K mg base CX (k+1) f (PySem.W.fnOf name qual params body scope dV kV doc pm an cdv ct) ps sp:=by
 refine⟨len,λA outer s H args us vs Q E hr e0 hb r hV=>?_⟩;have hl:=len _ _ _ _ hV;have KX:K.In s.heap:=e0.mod.kin.keeps λb o e=>(e0.bs b o e).1;have lim:s.heap.NoLimit:=e0.mod.nolimit.keeps λb o e=>(e0.bs b o e).1
 have l9:∀y∈ps.zip us,scope.names.lookup y.1=some .local\/(scope.names.lookup y.1=some .cell/\((cellsFrom (s.heap.objs.size+1) scope.names []).lookup y.1).isSome=true):=λ⟨n,v⟩ hy=>by
  rcases S.par n (List.of_mem_zip hy).1 with q|q
  .exact .inl q
  .exact .inr ⟨q,PySem.W.cellsFrom_some _ _ _ (.inl q)⟩
 refine codeAny_call_function hr.depth (KX _ _ lk) rfl S.co S.gen rfl (PySem.W.codeRec_of KX eB) (hb _ _ _ _ ?_);refine wpAny_newFunctionEnv_cells S.kind l9 λenv he s1 x=>?_;subst he;refine⟨lim.keeps x.toInCall.keep,codeAny_func ?_⟩;obtain⟨t,ht,hq⟩:=ar A outer s H vs Q E (hr.deeper _) hV;have I:Inv (iJ CX P w K mg base N qual scope f cdv A outer s H E) [] (start N vs) H s1:=rH S hr.hd e0 hl r x;refine wpAny_mono (ht [] s1 (start N vs) H _ I hq) (λfl s' hs=>?_) λe s' hs=>hs
 have fin:∀{ah:St} {H':Hp} {v:V} {u:Value},Inv (iJ CX P w K mg base N qual scope f cdv A outer s H E) [] ah H' s'->RelV v u->Q v H'->CE outer P w H s Q u s':=
  λ{ah H' v u} J rv q=>⟨v,H',J.os,J.bare,J.base,J.hok,rv,q⟩
 cases fl with
 |ret u=>
  obtain⟨v,ah,H',J,rv,q⟩:=hs;exact fin J rv q
 |next=>
  obtain⟨ah,H',J,q⟩:=hs;exact fin (v:=V.non) (u:=Value.none) J rfl q
 |brk=>
  obtain⟨_,_,_,q⟩:=hs;exact False.elim q
 |cont=>
  obtain⟨_,_,_,q⟩:=hs;exact False.elim q
section
variable{p pos:Pos}{id T:String}
def tCB(r:List V->Hp->VK->Prop)(t:TA):TE:=λσ H Q=>t σ H λvs H1=>r vs H1 Q
theorem aK(hc:dH X (.builtin id) r)(hg:Gl X x)(hm:X.mg x=none)(hv:bootBuiltins x=some (.builtin id))(ha:PA X (e::es) t)(hn:x≠"__name__":=by decide)(eC:(x==("__debug__":Str))=false:=by decide)
  (he:starEach (e::es) X.env=(false,eval e X.env)::starEach es X.env:=by rfl) (dP:(backTo pos (starEach es X.env)).any (·.1)=false:=by rfl):PE X (.Call (.Name x p) (e::es) [] pos) (tCB r t):=by
 intro z06 s σ H Q I h;refine wpAny_Call_Name_kw (j6 I hg hm hv ?_ hn eC);exact PyProof.Rows.callWith_builtin1 (thn (ha pos z06 s σ H _ I h) λus s1=>by rintro⟨vs,H1,I1,r1,q1⟩;exact hc z06 s1 σ H1 vs us Q I1 r1 q1) he dP
theorem cH(hc:dH X (.type T) r)(hg:Gl X x)(hm:X.mg x=none)(hv:bootBuiltins x=some (.type T))(ha:PA X (e::es) t)(hn:x≠"__name__":=by decide)(eC:(x==("__debug__":Str))=false:=by decide)
  (he:starEach (e::es) X.env=(false,eval e X.env)::starEach es X.env:=by rfl) (dP:(backTo pos (starEach es X.env)).any (·.1)=false:=by rfl):PE X (.Call (.Name x p) (e::es) [] pos) (tCB r t):=by
 intro z06 s σ H Q I h;refine wpAny_Call_Name_kw (j6 I hg hm hv ?_ hn eC);exact PyProof.Rows.callWith_type1 (thn (ha pos z06 s σ H _ I h) λus s1=>by rintro⟨vs,H1,I1,r1,q1⟩;exact hc z06 s1 σ H1 vs us Q I1 r1 q1) he dP
end
end L2
namespace HT
open PySem PyProof.Rows
section
open PySem.SeqAt
open PySem.AutoSeq1 (wpAny_loadPart')
open PySem.MeetsSeq PySem.MeetsSeq2 PySem.MeetsSeq3
end
section
theorem cat_tup(ht:IsTup s.heap t vs.toArray)(hb:IsTup s.heap b ws.toArray)(hv:vs≠[])
  (h1:ws=[]->Q (.ref t) s) (h2:ws≠[]->Q (.ref s.heap.objs.size) {s with heap:=s.heap.push {cls:=.type "tuple",data:=.seq (vs++ws).toArray}})
  (hsz:vs.length+ws.length<=sizeLine):wpAny (model prog w) A (binaryOp .Add (.ref t) (.ref b)) Q E s:=by
 obtain⟨⟨cls,dd,data,sl⟩,ho,hc,n,hd⟩:=id ht;obtain⟨⟨HU,ma,data2,kr⟩,vb,vc,n2,hd2⟩:=id hb;simp only at hc hd vc hd2;subst hc hd vc hd2;have e:vs.toArray++ws.toArray=(vs++ws).toArray:=by simp
 by_cases hw:ws=[]
 .exact concat_meets ⟨_,ho,rfl⟩ ⟨_,vb,rfl⟩ noFill_tuple_add seq_tuple_add PySem.F.slot_tuple_add PySem.F.entry_tuple_add (PySem.F.args_tuple_add_2 _ _)
   (tuple_addW1 t b vs.toArray ws.toArray n n2 dd ma sl kr (by simpa using hv) (by simp[hw])) ⟨ho,vb,h1 hw⟩
 .refine concat_meets ⟨_,ho,rfl⟩ ⟨_,vb,rfl⟩ noFill_tuple_add seq_tuple_add PySem.F.slot_tuple_add PySem.F.entry_tuple_add (PySem.F.args_tuple_add_2 _ _)
   (tuple_addW2 t b vs.toArray ws.toArray n n2 dd ma sl kr (by simpa using hv) (by simpa using hw) (by rw[zA8];exact hsz)) ⟨ho,vb,?_⟩
  rw[e];exact h2 hw
def sIx(n d:Nat):Option Int->Nat
 |none=>d
 |some v=>if v<0 then(v+(n:Int)).toNat else min v.toNat n
theorem sIx_none(n d:Nat):sIx n d none=d:=rfl
theorem sIx_nat(n d k:Nat):sIx n d (some (k:Int))=min k n:=by rfl
theorem Ju(n d:Nat)(hd:d<=n)(o:Option Int):sIx n d o<=n:=by
 cases o with
 |none=>exact hd
 |some v=>
  show(if v<0 then(v+(n:Int)).toNat else min v.toNat n)<=n;by_cases hv:v<0
  .rw[zAz hv];lia
  .rw[zAy hv];exact Nat.min_le_right _ _
theorem oU(v:Int)(n d:Nat):(if v<0 then max (v+(n:Int)) 0 else min v (n:Int))=((sIx n d (some v):Nat):Int):=by
 show(if v<0 then max (v+(n:Int)) 0 else min v (n:Int))=(((if v<0 then(v+(n:Int)).toNat else min v.toNat n):Nat):Int);by_cases hv:v<0
 .simp only[if_pos hv];lia
 .simp only[if_neg hv];lia
theorem xu(lo hi:Option Int)(n:Nat):Builtin.Slice.sliceAdjust lo hi 1 (n:Int)=(((sIx n 0 lo:Nat):Int),((sIx n n hi:Nat):Int)):=by
 refine Prod.ext ?_ ?_
 .cases lo with
  |none=>rfl
  |some v=>exact oU v n 0
 .cases hi with
  |none=>rfl
  |some v=>exact oU v n n
theorem xx(i j:Nat):Builtin.Slice.slicePlaces (i:Int) (j:Int) 1=j-i:=by
 unfold Builtin.Slice.slicePlaces;split<;>lia
theorem pH(p:IsPart v o)(h:Q o s):wpAny (model prog w) A (Builtin.Slice.slicePartIndex v) Q E s:=by
 cases p with
 |none=>exact slicePart_none h
 |int i t=>exact slicePart_int h
theorem iK{lo hi:Option Int}{Q:Int×Int×Nat->Shared->Prop}(hs:s.heap.IsSliceOf sl vl vu .none)(pl:IsPart vl lo)(pu:IsPart vu hi)
  (h:Q (((sIx n 0 lo:Nat):Int),1,sIx n n hi-sIx n 0 lo) s):wpAny (model prog w) A (Builtin.Slice.sliceApplied (.ref sl) (pure (n:Int))) Q E s:=by
 obtain⟨os,kN,ze,qa⟩:=id hs;unfold Builtin.Slice.sliceApplied Builtin.Slice.sliceFields;refine zAt (zAt (wpAny_field kN qa (x:=vl) rfl (zAt (wpAny_field kN qa (x:=vu) rfl (zAt (wpAny_field kN qa (x:=.none) rfl (zAx ?_)))))));refine zAt (slicePart_none ?_);show wpAny _ _ (if((1:Int)==0)=true then _ else _) _ _ s;rw[zAy z02];refine zAt (pH pl (zAt (pH pu (zAt (zAx ?_)))));show wpAny _ _ (match Builtin.Slice.sliceAdjust lo hi 1 (n:Int)with | (lo,hi)=>pure (lo,(1:Int),Builtin.Slice.slicePlaces lo hi 1)) _ _ s;rw[xu lo hi n];show wpAny _ _ (pure (((sIx n 0 lo:Nat):Int),(1:Int),Builtin.Slice.slicePlaces ((sIx n 0 lo:Nat):Int) ((sIx n n hi:Nat):Int) 1)) _ _ s;rw[xx];exact zAx h
theorem v8(xs:Array Value)(i k:Nat):((List.range k).filterMap λ(m:Nat)=>xs[((i:Int)+(m:Int)*1).toNat]?).toArray=((xs.toList.drop i).take k).toArray:=by
 have e:(λ(m:Nat)=>xs[((i:Int)+(m:Int)*1).toNat]?)=λm=>xs[i+m]?:=by grind
 rw[e];have:=pick_run xs i k;rw[List.filterMap_map]at this;have e2:((λx=>xs[x]?)∘λx=>i+x)=λm=>xs[i+m]?:=rfl;rw[e2]at this;rw[this]
theorem getItem_tuple_cut{lo hi:Option Int}(ht:IsTup s.heap t items)(hs:s.heap.IsSliceOf sl vl vu .none)(pl:IsPart vl lo)(pu:IsPart vu hi)
  (hw:¬(sIx items.size 0 lo=0/\sIx items.size items.size hi=items.size))
  (h:Q (.ref s.heap.objs.size) {s with heap:=s.heap.push {cls:=.type "tuple",data:=.seq ((items.toList.drop (sIx items.size 0 lo)).take (sIx items.size items.size hi-sIx items.size 0 lo)).toArray}})
  (hsz:items.size<=sizeLine):wpAny (model prog w) A (getItem (.ref t) (.ref sl)) Q E s:=by
 have cm:sizeOk (.seq ((items.toList.drop (sIx items.size 0 lo)).take (sIx items.size items.size hi-sIx items.size 0 lo)).toArray):=by
  show((items.toList.drop (sIx items.size 0 lo)).take (sIx items.size items.size hi-sIx items.size 0 lo)).toArray.size<=sizeLine;rw[zA8,zAd,Za2,zA9];lia
 have hj:sIx items.size items.size hi<=items.size:=Ju _ _ (zA3 _) hi;obtain⟨os,kN,ze,qa⟩:=id hs
 have BD:s.TypeIs (.ref sl) "slice":=⟨os,kN,ze⟩
 unfold getItem
 try with_reducible refine wpAny_holding ?_
 first|refine zAt (zAx ?_)|skip
 refine zAt (wpAny_sequenceKey ht.typeIs z02 ?_)
 refine zAt (wpAny_callSpecial?_slot (name:=Str.ofString "__getitem__") ht.typeIs PyProof.Rows.slot_tuple_getitem
  (wpAny_call_entry PyProof.Rows.slot_tuple_getitem ht.typeIs entry_tuple_getitem ?_ (args_tuple_getitem _ _)))
 show wpAny _ _ (Builtin.Tuple.tupleItemsOf (.ref t)>>=_) _ _ s;refine zAt (tupleItemsOf_ ht ?_);refine zAt (wpAny_typeOf BD ?_);rw[zAz z02];refine zAt (iK hs pl pu ?_)
 have HV:¬((((sIx items.size 0 lo:Nat):Int)==0&&(1:Int)==1&&(sIx items.size items.size hi-sIx items.size 0 lo)==items.size)=true):=by
  intro q;rw[zAc,zAc]at q;have q1:((sIx items.size 0 lo:Nat):Int)=0:=eq_of_beq q.1.1;have q2:sIx items.size items.size hi-sIx items.size 0 lo=items.size:=eq_of_beq q.2;exact hw ⟨z00,z00⟩
 show wpAny _ _ (if(((sIx items.size 0 lo:Nat):Int)==0&&(1:Int)==1&&(sIx items.size items.size hi-sIx items.size 0 lo)==items.size)=true then _ else _) _ _ s;rw[zAy HV,v8]
 first
  |exact zAt (m:=Builtin.Tuple.tupleExact _) (Zac (zAx ⟨_,rfl,zAx h⟩) cm)
  |exact zAt (m:=Builtin.Tuple.tupleExact _) (Zac (zAt (zAx (zAx ⟨_,rfl,zAx h⟩))) cm)
  |exact zAt (zAt (m:=Builtin.Tuple.tupleExact _) (Zac (zAx (zAx ⟨_,rfl,zAx h⟩)) cm))
  |exact zAt (zAt (m:=Builtin.Tuple.tupleExact _) (Zac (zAx ⟨_,rfl,zAx h⟩) cm))
end
end HT
namespace L2
open PySem PySem.Spec PyProof.Rows
abbrev TO:=St->Hp->(Option Int->Hp->Prop)->Prop
def PO(X:Cx)(e:Option Expr)(t:TO):Prop:=
 ∀z06 s (σ:St) H Q,Inv X z06 σ H s->t σ H Q->
  wpAny (model X.prog X.w) X.A (evalPart e X.env) (λu s'=>∃o H',Inv X z06 σ H' s'/\IsPart u o/\Q o H') X.xe s
def yw:TO:=λ_ H Q=>Q none H
def rJ(t:TE):TO:=λσ H Q=>t σ H λx H1=>∃i,x=.int i/\Q (some i) H1
theorem intsAre_of{ns:UV}:∀{us:List Value},Vals (ns.map V.int) us->IntsAre us ns:=by
 induction ns with
 |nil=>intro us r;rw[List.map_nil]at r;cases r;exact .nil
 |cons n ns ih=>
  intro us r
  cases r with
  |cons r1 r2=>
   obtain⟨t,e⟩:=r1;subst e;exact .cons n t (ih r2)
section
variable{lo hi:Option Expr}
theorem cR:PO X none yw:=by
 intro z06 s σ H Q I h;exact zAx ⟨none,H,I,.none,h⟩
theorem cU(h:PE X e te):PO X (some e) (rJ te):=by
 intro z06 s σ H Q I hw;refine thn (h z06 s σ H _ I hw) λu s1=>?_;rintro⟨x,H1,I1,r1,q1⟩;obtain⟨i,rfl,q⟩:=q1;obtain⟨t,rfl⟩:=r1;exact⟨some i,H1,I1,.int i t,q⟩
def SlR(X:Cx)(r:V->Option Int->Option Int->Hp->VK->Prop):Prop:=
 ∀z06 s (σ:St) H x v vl vu lo hi sl Q,Inv X z06 σ H s->RelV x v->s.heap.IsSliceOf sl vl vu .none->IsPart vl lo->IsPart vu hi->r x lo hi H Q->
  ∃T id,typeLookup (.type T) "__getitem__"=pure (some (.builtin id))/\s.TypeIs v T/\wpAny (model X.prog X.w) X.A (getItem v (.ref sl)) (EP X z06 σ Q) X.xe s
def tSl(r:V->Option Int->Option Int->Hp->VK->Prop)(te:TE)(tl th:TO):TE:=λσ H Q=>te σ H λx H1=>tl σ H1 λl H2=>th σ H2 λu H3=>r x l u H3 Q
theorem cu(hr:SlR X r)(he:PE X e te)(hl:PO X lo tl)(hu:PO X hi th):PE X (.Subscript e (.Slice lo hi none p2) pos) (tSl r te tl th):=by
 intro z06 s σ H Q I h;refine Subscript_ (thn (he z06 s σ H _ I h) λv s1=>?_);rintro⟨x,H1,I1,r1,q1⟩;refine wpAny_Slice (thn (hl z06 s1 σ H1 _ I1 q1) λvl s2 ⟨l,H2,I2,pl,q2⟩=>thn (hu z06 s2 σ H2 _ I2 q2) λvu s3=>?_);rintro⟨u,H3,I3,pu,q3⟩;refine zAx ?_;have I4:Inv X z06 σ H3 {s3 with heap:=s3.heap.push {cls:=.type "slice",data:=.fields #[vl,vu,.none]}}:=I3.kept (t':=s3.toks) λb ob q=>zAv _ q;obtain⟨T,id,hT,ht,hg⟩:=hr z06 {s3 with heap:=s3.heap.push {cls:=.type "slice",data:=.fields #[vl,vu,.none]}} σ H3 x v vl vu l u s3.heap.objs.size Q I4 r1 (Heap.IsSliceOf.new ..) pl pu q3;exact tail_any (ops:=[.ref s3.heap.objs.size,v]) ht hT hg (by with_unfolding_all rfl)
def jn(xs:List V)(lo hi:Option Int):List V:=(xs.drop (HT.sIx xs.length 0 lo)).take (HT.sIx xs.length xs.length hi-HT.sIx xs.length 0 lo)
theorem gh(xs:List V)(lo hi:Option Int):(jn xs lo hi).length<=xs.length:=by
 unfold jn;rw[zAd,Za2];lia
inductive RSlTI(K:Frag)(x:V)(lo:Option Int)(hi:Option Int)(H:Hp)(Q:VK):Prop
 |mk:∀a xs,(x=.ref a)->(SqT K H a xs)->(¬(HT.sIx xs.length 0 lo=0/\HT.sIx xs.length xs.length hi=xs.length))->(∀p,H p=none->Q (.ref p) (upd H p (.tup (jn xs lo hi))))->RSlTI K x lo hi H Q
def Nt(K:Frag):V->Option Int->Option Int->Hp->VK->Prop:=λx lo hi H Q=>RSlTI K x lo hi H Q
theorem Jv:SlR X (Nt X.K):=by
 intro z06 s σ H x v vl vu lo hi sl Q I rx hs pl pu h;obtain⟨a,xs,rfl,hx,hw,q⟩:=h;cases rx;obtain⟨its,r,ht,hz⟩:=I.tuple hx;have hlen:its.toArray.size=xs.length:=by rw[zA8];exact r.length.symm
 refine⟨"tuple",_,PyProof.Rows.slot_tuple_getitem.lookup,ht.typeIs,?_⟩;refine HT.getItem_tuple_cut ht hs pl pu (by rw[hlen];exact hw) ?_ (by rw[hlen];exact hz);rw[hlen];refine⟨.ref s.heap.objs.size,_,I.laid (t':=s.toks) (o:=.tup (jn xs lo hi)) (λb ob q=>zAv _ q) (zA3 _) ?_,rfl,q _ (I.hok.fresh (zA3 _))⟩;exact⟨Zah (gh xs lo hi) hz,_,(r.drop (HT.sIx xs.length 0 lo)).take (HT.sIx xs.length xs.length hi-HT.sIx xs.length 0 lo),IsTup.new _ _⟩
inductive RCatTI(K:Frag)(x:V)(y:V)(H:Hp)(Q:VK):Prop
 |mk:∀a b xs ys,(x=.ref a)->(y=.ref b)->(SqT K H a xs)->(SqT K H b ys)->(xs≠[])->(xs.length+ys.length<=sizeLine)->((ys=[]->Q (.ref a) H))->((ys≠[]->∀p,H p=none->Q (.ref p) (upd H p (.tup (xs++ys)))))->RCatTI K x y H Q
def Lg(K:Frag):R2:=λx y H Q=>RCatTI K x y H Q
theorem Vals.nil_iff(r:Vals xs us):us=[]↔xs=[]:=by
 cases r with
 |nil=>simp
 |cons _ _=>simp
theorem yx:OpR X (binaryOp .Add) (Lg X.K):=by
 intro z06 s σ H x y v u Q I rx ry h;obtain⟨a,b,xs,ys,rfl,rfl,ha,hb,hx,hz,q1,q2⟩:=h;cases rx;cases ry;obtain⟨its,r1,p1,_⟩:=I.tuple ha;obtain⟨aT,r2,p2,_⟩:=I.tuple hb;refine HT.cat_tup p1 p2 (λz=>hx (r1.nil_iff.mp z)) (λz=>⟨.ref a,H,I,rfl,q1 (r2.nil_iff.mp z)⟩) (λz=>?_) (by rw[<-r1.length,<-r2.length];exact hz);refine⟨.ref s.heap.objs.size,_,I.laid (t':=s.toks) (o:=.tup (xs++ys)) (λb ob q=>zAv _ q) (zA3 _) ?_,rfl,q2 (λw=>z (r2.nil_iff.mpr w)) _ (I.hok.fresh (zA3 _))⟩;exact⟨by rw[zA2];exact hz,_,r1.append r2,IsTup.new _ _⟩
end
def ixN(n:Nat)(i:Int):Option Nat:=if 0<=i then(if i<n then some i.toNat else none)else if -(n:Int)<=i then some (i+n).toNat else none
def atI{α:Type}(xs:List α)(i:Int):Option α:=(ixN xs.length i).bind λj=>xs[j]?
theorem yz(h:ixN n i=some j):seqIndex? i n=some j/\j<n/\-(n:Int)<=i/\i<n:=by
 unfold ixN at h;by_cases h0:0<=i
 .rw[zAz h0]at h;by_cases h1:i<n
  .rw[zAz h1]at h;have e:i.toNat=j:=zAl h;exact⟨by rw[seqIndex_of h0 h1,e],z00,z00,h1⟩
  .rw[zAy h1]at h;cases h
 .rw[zAy h0]at h;by_cases h1:-(n:Int)<=i
  .rw[zAz h1]at h;have e:(i+n).toNat=j:=zAl h;exact⟨by rw[seqIndex_neg z00 h1,e],z00,h1,z00⟩
  .rw[zAy h1]at h;cases h
theorem yC{v:α}(h:atI xs i=some v):∃j,seqIndex? i xs.length=some j/\xs[j]?=some v/\j<xs.length/\-(xs.length:Int)<=i/\i<xs.length:=by
 unfold atI at h
 cases e:ixN xs.length i with
 |none=>rw[e]at h;cases h
 |some j=>
  rw[e]at h;obtain⟨h1,h2,h3,h4⟩:=yz e;exact⟨j,h1,h,h2,h3,h4⟩
theorem dD{j:Nat}{v:α}(h:xs[j]?=some v):atI xs (j:Int)=some v:=by
 have hj:j<xs.length:=(zAa.mp h).1
 have e:ixN xs.length (j:Int)=some j:=by
  unfold ixN;rw[zAz z00,zAz z00];simp
 unfold atI;rw[e];exact h
def tO(b:Expr):Prop:=∀o i,subscripted b false o i=operate [o,i] (getItem o i)
def IxR(X:Cx)(r:R2):Prop:=
 ∀value slice z06 s (σ:St) H x y v u Q,Inv X z06 σ H s->RelV x v->RelV y u->r x y H Q->
  subscripted slice false v u=operate [v,u] (getItem v u)->wpAny (model X.prog X.w) X.A (subscriptTail value slice v u) (EP X z06 σ Q) X.xe s
def MtR(X:Cx)(id:String)(r:V->List V->Hp->VK->Prop):Prop:=
 ∀z06 s (σ:St) H x xs v us Q,Inv X z06 σ H s->RelV x v->Vals xs us->r x xs H Q->
  wpAny (model X.prog X.w) X.A (call (.builtin id) (v::us)) (EP X z06 σ Q) X.xe s
section
variable{ta tb:TE}
theorem J0(hr:IxR X r)(ha:PE X a ta)(hb:PE X b tb)(hs:tO b):PE X (.Subscript a b pos) (tOp r ta tb):=by
 intro z06 s σ H Q I h;exact Subscript_ (Js ha hb I h λv u s2 x y H2 I2 rx ry q=>hr a b z06 s2 σ H2 x y v u Q I2 rx ry q (hs _ _))
inductive RIxLI(K:Frag)(x:V)(y:V)(H:Hp)(Q:VK):Prop
 |mk:∀p xs i v,(x=.ref p)->(y=.int i)->(SqL K H p xs)->(atI xs i=some v)->(Q v H)->RIxLI K x y H Q
def Jw(K:Frag):R2:=λx y H Q=>RIxLI K x y H Q
inductive RIxTI(K:Frag)(x:V)(y:V)(H:Hp)(Q:VK):Prop
 |mk:∀p xs i v,(x=.ref p)->(y=.int i)->(SqT K H p xs)->(atI xs i=some v)->(Q v H)->RIxTI K x y H Q
def Jx(K:Frag):R2:=λx y H Q=>RIxTI K x y H Q
theorem bM:IxR X (Jw X.K):=by
 intro value slice z06 s σ H x y v u Q I rx ry h hs;obtain⟨p,xs,i,z,rfl,rfl,hq,he,q⟩:=h;cases rx;obtain⟨t,rfl⟩:=ry;obtain⟨its,r,pl,hz⟩:=I.list hq;obtain⟨j,h1,h2,h3,h4,h5⟩:=yC he;obtain⟨w,ew,hU⟩:=r.get h2;have hl:=r.length;have hn:=pG
 have fin:EP X z06 σ Q w s:=⟨z,H,I,hU,q⟩
 by_cases h0:0<=i
 .have hj:i.toNat=j:=by
   rw[seqIndex_of h0 h5]at h1;exact zAl h1
  exact item_listR pl.isList h0 z00 (by rw[hj];simpa using ew) fin hs
 .have hj:(i+(its.toArray.size:Int)).toNat=j:=by
   rw[seqIndex_neg z00 h4]at h1;rw[zA8,<-hl];exact zAl h1
  exact subscriptTail_builtinR (x:=w) pl.isList.typeIs slot_list_getitem.lookup
   (wpAny_getItem_list_neg (Q:=λr s'=>r=w/\EP X z06 σ Q r s') pl.isList z00 (by rw[zA8]<;>lia) z00 (by rw[hj];simpa using ew) ⟨rfl,fin⟩) hs
theorem bj:IxR X (Jx X.K):=by
 intro value slice z06 s σ H x y v u Q I rx ry h hs;obtain⟨p,xs,i,z,rfl,rfl,hq,he,q⟩:=h;cases rx;obtain⟨t,rfl⟩:=ry;obtain⟨its,r,pl,hz⟩:=I.tuple hq;obtain⟨j,h1,h2,h3,h4,h5⟩:=yC he;obtain⟨w,ew,hU⟩:=r.get h2;have hl:=r.length;have hn:=pG
 have fin:EP X z06 σ Q w s:=⟨z,H,I,hU,q⟩
 exact subscriptTail_builtinR (x:=w) pl.typeIs slot_tuple_getitem.lookup
  (getItem_tuple (j:=j) (Q:=λr s'=>r=w/\EP X z06 σ Q r s') pl z00 z00 (by rw[zA8,<-hl];exact h1) (by simpa using ew) ⟨rfl,fin⟩) hs
theorem xF(its:List Value)(n j:Nat)(u:Value):Obj.mapSeq (·.setIfInBounds j u) {cls:=.type "list",data:=.seq its.toArray n}={cls:=.type "list",data:=.seq (its.set j u).toArray n}:=by
 simp[Obj.mapSeq]
theorem Inv.lst{σ:St}(I:Inv X z06 σ H s)(h:H p=some (.lst xs)):
  ∃(its:List Value) (n:Nat),Vals xs its/\s.heap.get? p=some {cls:=.type "list",data:=.seq its.toArray n}/\xs.length<=sizeLine:=by
 obtain⟨z,its,n,r,e⟩:=I.hok p _ h;exact⟨its,n,r,e,z⟩
theorem Inv.lstUpd{σ:St}{its its':List Value}(I:Inv X z06 σ H s)(h:H p=some (.lst xs))
  (ho:s.heap.get? p=some {cls:=.type "list",data:=.seq its.toArray n}) (hf:f {cls:=.type "list",data:=.seq its.toArray n}={cls:=.type "list",data:=.seq its'.toArray n'}) (r:Vals ys its') (hz:ys.length<=sizeLine) (t:Nat):
  Inv X z06 σ (upd H p (.lst ys)) {s with heap:=s.heap.update p f,toks:=t}:=by
 have e:(s.heap.update p f).get? p=some {cls:=.type "list",data:=.seq its'.toArray n'}:=by
  rw[Heap.get?_update_self f ho (by rw[hf]<;>rfl),hf]
 refine I.write (x:=p) (e:=p) (by rw[h];trivial) (.inl rfl) (λb u hb q=>(Heap.get?_update_other _ _ (Ne.symm hb)).trans q) ⟨_,e⟩ ?_;exact⟨hz,its',n',r,e⟩
inductive RSetLI(o:V)(i:V)(v:V)(H:Hp)(Q:Hp->Prop):Prop
 |mk:∀p xs k j,(o=.ref p)->(i=.int k)->(H p=some (.lst xs))->(ixN xs.length k=some j)->(Q (upd H p (.lst (xs.set j v))))->RSetLI  o i v H Q
def Lh:V->V->V->Hp->(Hp->Prop)->Prop:=λo i v H Q=>RSetLI  o i v H Q
theorem set_list:Jq X Lh:=by
 intro z06 s σ H o i v ov iv u Q I ro ri rv h;obtain⟨p,xs,k,j,rfl,rfl,hp,hj,q⟩:=h;cases ro;obtain⟨t,rfl⟩:=ri;obtain⟨its,n,r,ho,hz⟩:=I.lst hp;obtain⟨h1,h2,h3,h4⟩:=yz hj;have hl:=r.length;have hn:=pG
 have I':Inv X z06 σ (upd H p (.lst (xs.set j v))) {s with heap:=s.heap.update p (Obj.mapSeq (·.setIfInBounds j u))}:=
  I.lstUpd hp ho (xF its n j u) (r.set rv j) (by rw[Zao];exact hz) s.toks
 by_cases h0:0<=k
 .have hk:k.toNat=j:=by
   rw[seqIndex_of h0 h4]at h1;exact zAl h1
  exact PySem.W.ki_setAt ho h0 z00 (by rw[zA8,<-hl];exact h4) (by rw[hk];exact⟨_,I',q⟩)
 .have hk:(k+(its.toArray.size:Int)).toNat=j:=by
   rw[seqIndex_neg z00 h3]at h1;rw[zA8,<-hl];exact zAl h1
  exact PySem.W.ki_setBack ho z00 (by rw[zA8,<-hl];exact h3) z00 (by rw[hk];exact⟨_,I',q⟩)
theorem tQ(lo hi:Option Int)(n:Nat):(sliceBounds lo hi none n).1=((HT.sIx n 0 lo:Nat):Int)/\(sliceBounds lo hi none n).2.1=((HT.sIx n n hi:Nat):Int)/\(sliceBounds lo hi none n).2.2=1:=by
 refine⟨?_,?_,rfl⟩
 .cases lo with
  |none=>simp[sliceBounds,HT.sIx]
  |some i=>
   simp only[sliceBounds,HT.sIx,Option.getD_none,show(1:Int)>0 by decide,if_true];by_cases h:i<0
   .simp only[h,if_true]<;>lia
   .simp only[h,if_false]<;>lia
 .cases hi with
  |none=>simp[sliceBounds,HT.sIx]
  |some i=>
   simp only[sliceBounds,HT.sIx,Option.getD_none,show(1:Int)>0 by decide,if_true];by_cases h:i<0
   .simp only[h,if_true]<;>lia
   .simp only[h,if_false]<;>lia
theorem qM(its:List Value)(lo hi:Option Int):slicePick its.toArray lo hi none=((its.drop (HT.sIx its.length 0 lo)).take (HT.sIx its.length its.length hi-HT.sIx its.length 0 lo)).toArray:=by
 obtain⟨h1,h2,h3⟩:=tQ lo hi its.toArray.size;unfold slicePick;rw[h1,h2,h3];simp only[sliceRange_one,pick_run]<;>rfl
inductive RSlLI(K:Frag)(x:V)(lo:Option Int)(hi:Option Int)(H:Hp)(Q:VK):Prop
 |mk:∀a xs,(x=.ref a)->(SqL K H a xs)->(∀p,H p=none->Q (.ref p) (upd H p (.lst (jn xs lo hi))))->RSlLI K x lo hi H Q
def Nu(K:Frag):V->Option Int->Option Int->Hp->VK->Prop:=λx lo hi H Q=>RSlLI K x lo hi H Q
theorem Gi:SlR X (Nu X.K):=by
 intro z06 s σ H x v vl vu lo hi sl Q I rx hs pl pu h;obtain⟨a,xs,rfl,hx,q⟩:=h;cases rx;obtain⟨its,r,ht,hz⟩:=I.list hx;have hlen:=r.length;refine⟨"list",_,slot_list_getitem.lookup,ht.isList.typeIs,?_⟩;refine wpAny_getItem_list_slice ht.isList hs pl pu .none z01 ?_ (by rw[zA8]<;>lia);rw[qM,<-hlen];refine⟨.ref s.heap.objs.size,_,I.laid (t':=s.toks) (o:=.lst (jn xs lo hi)) (λb ob q=>zAv _ q) (zA3 _) ?_,rfl,q _ (I.hok.fresh (zA3 _))⟩;exact⟨Zah (gh xs lo hi) hz,_,0,(r.drop (HT.sIx xs.length 0 lo)).take (HT.sIx xs.length xs.length hi-HT.sIx xs.length 0 lo),zB1 _ rfl⟩
theorem aZ:dH X (.builtin "len") (λxs H Q=>∃p ys,xs=[.ref p]/\(SqL X.K H p ys\/SqT X.K H p ys)/\Q (.int ys.length) H):=by
 intro z06 s σ H xs us Q I r h;obtain⟨p,ys,rfl,hq,q⟩:=h;obtain⟨u,rfl,rx⟩:=vals1 r;cases rx;have hn:=pG;rcases hq with hq|hq
 .obtain⟨its,r',pl,hz⟩:=I.list hq;have hlen:=r'.length;exact Calls.call_len_list pl.isList (by simp only[List.size_toArray]<;>lia) ⟨.int ys.length,H,I.tok _,⟨s.toks+1,by rw[zA8,hlen]⟩,q⟩
 .obtain⟨its,r',pl,hz⟩:=I.tuple hq;have hlen:=r'.length;exact len_tuple pl (by simp only[List.size_toArray]<;>lia) ⟨.int ys.length,H,I.tok _,⟨s.toks+1,by rw[zA8,hlen]⟩,q⟩
theorem tR:dH X (.type "list") (λxs H Q=>∃p ys,xs=[.ref p]/\(SqL X.K H p ys\/SqT X.K H p ys)/\∀l,H l=none->Q (.ref l) (upd H l (.lst ys))):=by
 intro z06 s σ H xs us Q I r h;obtain⟨p,ys,rfl,hq,q⟩:=h;obtain⟨u,rfl,rx⟩:=vals1 r;cases rx
 have fin:∀(its:List Value),Vals ys its->ys.length<=sizeLine->∀(h':Heap) (c':Nat),(∀b o',s.heap.get? b=some o'->h'.get? b=some o')->
   h'.get? s.heap.objs.size=some {cls:=.type "list",dict:=none,data:=.seq its.toArray c',slots:=#[]}->EP X z06 σ Q (.ref s.heap.objs.size) {s with heap:=h'}:=λits r' hz h' c' kp e=>
  ⟨.ref s.heap.objs.size,_,I.laid (t':=s.toks) kp (zA3 _) (show ObjOk X.prog X.w _ h' _ (.lst ys)from⟨hz,its,c',r',e⟩),rfl,q _ (I.hok.fresh (zA3 _))⟩
 rcases hq with hq|hq
 .obtain⟨its,r',pl,hz⟩:=I.list hq;have hlen:=r'.length;obtain⟨o,ho,hc,n,hd⟩:=pl.isList;exact call_list_seq p (.inl rfl) ho hc hd (λh' c' kp e=>fin its r' hz h' c' kp e) (by simp only[List.size_toArray]<;>lia)
 .obtain⟨its,r',pl,hz⟩:=I.tuple hq;have hlen:=r'.length;obtain⟨o,ho,hc,n,hd⟩:=pl;exact call_list_seq p (.inr rfl) ho hc hd (λh' c' kp e=>fin its r' hz h' c' kp e) (by simp only[List.size_toArray]<;>lia)
theorem cZ:dH X (.type "tuple") (λxs H Q=>∃p ys,xs=[.ref p]/\((SqL X.K H p ys/\∀l,H l=none->Q (.ref l) (upd H l (.tup ys)))\/(SqT X.K H p ys/\Q (.ref p) H))):=by
 intro z06 s σ H xs us Q I r h;obtain⟨p,ys,rfl,h⟩:=h;obtain⟨u,rfl,rx⟩:=vals1 r;cases rx;rcases h with⟨hq,q⟩|⟨hq,q⟩
 .obtain⟨its,r',pl,hz⟩:=I.list hq;have hlen:=r'.length;refine call_tuple_list pl.isList (λh' kp=>?_) (by simp only[List.size_toArray]<;>lia);have I1:Inv X z06 σ H {s with heap:=h'}:=I.kept (t':=s.toks) kp
  have I2:Inv X z06 σ (upd H h'.objs.size (.tup ys)) {s with heap:=h'.push {cls:=.type "tuple",data:=.seq its.toArray}}:=
   I1.laid (t':=s.toks) (λb o e=>zAv _ e) (zA3 _) (⟨hz,its,r',IsTup.new _ _⟩)
  exact⟨.ref h'.objs.size,_,I2,rfl,q _ (I1.hok.fresh (zA3 _))⟩
 .obtain⟨its,r',pl,hz⟩:=I.tuple hq;exact call_tuple_same pl ⟨.ref p,H,I,rfl,q⟩
def tyV(K:Frag)(T:String)(x:V)(H:Hp):Prop:=match x with
 |.str _=>T="str"
 |.int _=>T="int"
 |.ref p=>(T="list"/\∃xs,SqL K H p xs)\/(T="tuple"/\∃o,K.lookup p=some o/\o.cls=.type "tuple"/\o.dict=none) \/
   (T="dict"/\((∃kvs,H p=some (.dK kvs))\/∃kvs,H p=some (.dT kvs)))\/(T="set"/\∃S n,H p=some (.set S n))
 |_=>False
theorem Jy{σ:St}(I:Inv X z06 σ H s)(r:RelV x v)(ty:tyV X.K T x H):
  s.TypeIs v T/\∀a,v=.ref a->∃ob,s.heap.get? a=some ob/\ob.dict=none:=by
 cases x with
 |str z=>
  obtain⟨t,rfl⟩:=r;cases(ty);exact⟨typeIs_str s z t,λ_ e=>nomatch e⟩
 |int i=>
  obtain⟨t,rfl⟩:=r;cases(ty);exact⟨typeIs_int s i t,λ_ e=>nomatch e⟩
 |ref p=>
  cases r;rcases ty with⟨rfl,xs,hq⟩|⟨rfl,o,hk,hc,hd⟩|⟨rfl,hk⟩|⟨rfl,S,n,hk⟩
  .obtain⟨its,_,pl,_⟩:=I.list hq;refine⟨pl.isList.typeIs,λa e=>?_⟩;cases e;obtain⟨o,n,e,c,hd,_⟩:=pl;exact⟨o,e,hd⟩
  .refine⟨⟨o,I.kIn p o hk,hc⟩,λa e=>?_⟩;cases e;exact⟨o,I.kIn _ o hk,hd⟩
  .have z:∃o,s.heap.get? p=some o/\o.ExactDict:=by
    rcases hk with⟨kvs,hk⟩|⟨kvs,hk⟩
    .obtain⟨_,_,_,_,o,_,_,e,ex,_⟩:=I.hok p _ hk;exact⟨o,e,ex⟩
    .obtain⟨_,_,_,_,o,_,_,e,ex,_⟩:=I.hok p _ hk;exact⟨o,e,ex⟩
   obtain⟨o,e,ex⟩:=z;refine⟨⟨o,e,ex.1⟩,λa e2=>?_⟩;cases e2;exact⟨o,e,ex.2.1⟩
  .obtain⟨o,_,_,_,e,ex,_⟩:=I.hok p _ hk;refine⟨⟨o,e,ex.1⟩,λa e2=>?_⟩;cases e2;exact⟨o,e,ex.2.1⟩
 |_=>exact False.elim ty
def tBM(K:Frag)(T:String)(r:V->List V->Hp->VK->Prop)(to:TE)(t:TA):TE:=λσ H Q=>to σ H λx H1=>tyV K T x H1/\t σ H1 λxs H2=>r x xs H2 Q
variable{apos dA:Pos}{T id:String}
theorem pI(pa:PlainAttrs T)(slot:Slot T name id)(RG:typeOf (.builtin id)=pure (.type "method_descriptor"))(hm:MtR X id r)(ho:PE X o to)(ha:PA X (e::es) t)
  (BF:attributeBase o name X.env (eval o X.env)=eval o X.env:=by rfl)
  (HZ:((backTo dA (starEach (e::es) X.env)).all (λx=>!x.1)&&(backToKw dA (keywordEach [] X.env)).all (λx=>x.1.isSome)
   && decide ((e::es).length+([]:List Keyword).length+(if([]:List Keyword).isEmpty then 0 else 1)<30))=true:=by rfl)
  (hline:(apos.endLine==dA.line)=true:=by rfl) (hs:starEach (e::es) X.env=(false,eval e X.env)::starEach es X.env:=by rfl) (Ic:(backTo dA (starEach es X.env)).any (·.1)=false:=by rfl):
  PE X (.Call (.Attribute o name apos) (e::es) [] dA) (tBM X.K T r to t):=by
 intro z06 s σ H Q I h;refine wpAny_Call_method_late BF HZ hline rfl (thn (ho z06 s σ H _ I h) λv s1=>?_);rintro⟨x,H1,I1,r1,ty,q1⟩;obtain⟨h1,h2⟩:=Jy I1 r1 ty;refine⟨T,id,pa,slot,RG,h1,h2,?_⟩;have hA:=ha dA z06 s1 σ H1 _ I1 q1;rw[hs]at hA⊢;refine Calls.callWith_builtin (by assumption) (Calls.evalArgs_plain ?_);exact thn hA λus s2=>by rintro⟨vs,H2,I2,r2,q2⟩;exact hm z06 s2 σ H2 x vs v us Q I2 r1 r2 q2
end
def MtM(X:Cx)(id:String)(r:V->List V->Hp->VK->Prop):Prop:=
 ∀z06 s (σ:St) H x xs v us Q,Inv X z06 σ H s->RelV x v->Vals xs us->r x xs H Q->
  wpAny (model X.prog X.w) X.A (call (.builtin id) (v::us)) (EP X z06 σ Q) X.xe s
theorem Vals.one:∀{x:V} {us:List Value},Vals [x] us->∃u,us=[u]/\RelV x u
 |_,_,.cons r .nil=>⟨_,rfl,r⟩
theorem Vals.zero:∀{us:List Value},Vals [] us->us=[]
 |_,.nil=>rfl
theorem Vals.reverse(h:Vals xs us):Vals xs.reverse us.reverse:=by
 induction h with
 |nil=>exact .nil
 |cons r t ih=>rw[List.reverse_cons,List.reverse_cons];exact Vals.append ih (.cons r .nil)
theorem Vals.rep(h:Vals xs us):∀k,Vals (List.replicate k xs).flatten (List.replicate k us).flatten
 |0=>.nil
 |k+1=>by
  exact Vals.append h (Vals.rep h k)
theorem foldl_rep(its:List Value):∀k acc,
  List.foldl (λx1 x2=>x1++x2) acc.toArray (List.replicate k its.toArray)=(acc++(List.replicate k its).flatten).toArray
 |0,acc=>by simp
 |k+1,acc=>by
  have e:acc.toArray++its.toArray=(acc++its).toArray:=by simp
  have e2:(acc++its)++(List.replicate k its).flatten=acc++(List.replicate (k+1) its).flatten:=by
   rw[List.replicate_succ,List.flatten_cons,zAf]
  rw[<-e2,<-foldl_rep its k (acc++its),<-e,List.replicate_succ,List.foldl_cons]
section
variable{σ:St}
theorem Inv.lset{its its':List Value}(I:Inv X z06 σ H s)(hH:H l=some (.lst xs))
  (e:s.heap.get? l=some {cls:=.type "list",data:=.seq its.toArray n}) (hf:f its.toArray=its'.toArray) (hv:Vals ys its') (hz:ys.length<=sizeLine):
  Inv X z06 σ (upd H l (.lst ys)) {s with heap:=s.heap.update l (Obj.mapSeq f),toks:=t'}:=by
 have q:=PySem.IsL.update e f;rw[hf]at q;refine I.write (x:=l) (e:=l) (by rw[hH];exact trivial) (.inl rfl) (λb' u hb hu=>(Heap.get?_update_other s.heap (Obj.mapSeq f) (Ne.symm hb)).trans hu) ⟨_,q⟩ ?_;exact⟨hz,its',_,hv,q⟩
theorem Inv.lnew(I:Inv X z06 σ H s)(hv:Vals ys its)(hz:ys.length<=sizeLine):
  Inv X z06 σ (upd H s.heap.objs.size (.lst ys)) {s with heap:=s.heap.push {cls:=.type "list",data:=.seq its.toArray},toks:=t'}:=
 I.laid (λ_ _ q=>zAv _ q) (zA3 _) ⟨hz,its,0,hv,zB1 _ rfl⟩
theorem Inv.fresh(I:Inv X z06 σ H s):H s.heap.objs.size=none:=I.hok.fresh (zA3 _)
theorem Inv.lstM(I:Inv X z06 σ H s)(hH:H l=some (.lst xs)):xs.length<=sizeLine/\∃(its:List Value) (n:Nat),Vals xs its/\xs.length=its.length/\s.heap.get? l=some {cls:=.type "list",data:=.seq its.toArray n}:=by
 obtain⟨z,its,n,r,e⟩:=I.hok l _ hH;exact⟨z,its,n,r,r.length,e⟩
theorem lC(h:n<=sizeLine):Builtin.List.listTooLong n=false:=by
 exact zB2 z00
end
section
inductive RAppendI(x:V)(vs:List V)(H:Hp)(Q:VK):Prop
 |mk:∀l xs y,(x=.ref l)->(vs=[y])->(H l=some (.lst xs))->(xs.length<sizeLine)->(Q .non (upd H l (.lst (xs++[y]))))->RAppendI  x vs H Q
def Gj:V->List V->Hp->VK->Prop:=λx vs H Q=>RAppendI  x vs H Q
theorem iM:MtM X "list.append" Gj:=by
 intro z06 s σ H x vs v us Q I rx rv h;obtain⟨l,xs,y,rfl,rfl,hH,hz,q⟩:=h;cases rx;obtain⟨u,rfl,ru⟩:=rv.one;obtain⟨z,its,n,r,hl,e⟩:=I.lstM hH;refine call_meets F.slot_list_append ⟨_,e,rfl⟩ F.entry_list_append (F.args_list_append_2 _ _) (PySem.list_append l its.toArray n u (by rw[zA8];lia)) ⟨e,?_⟩;refine⟨.non,_,I.lset (its':=its++[u]) hH e z01 (r.append (.cons ru .nil)) ?_,rfl,q⟩;rw[zA2,List.length_singleton];lia
inductive RExtendI(x:V)(vs:List V)(H:Hp)(Q:VK):Prop
 |mk:∀l b xs zs,(x=.ref l)->(vs=[.ref b])->(H l=some (.lst xs))->(H b=some (.lst zs))->(xs.length+zs.length<=sizeLine)->(Q .non (upd H l (.lst (xs++zs))))->RExtendI  x vs H Q
def Gk:V->List V->Hp->VK->Prop:=λx vs H Q=>RExtendI  x vs H Q
theorem KD:MtM X "list.extend" Gk:=by
 intro z06 s σ H x vs v us Q I rx rv h;obtain⟨l,b,xs,zs,rfl,rfl,hH,hB,hz,q⟩:=h;cases rx;obtain⟨u,rfl,ru⟩:=rv.one;cases ru;obtain⟨z,its,n,r,hl,e⟩:=I.lstM hH;obtain⟨z2,aT,n2,r2,cx,e2⟩:=I.lstM hB;have hsz:its.toArray.size+aT.toArray.size<=sizeLine:=by rw[zA8,zA8];lia
 have eJ:¬(!its.toArray.isEmpty&&Builtin.List.listTooLong (its.toArray.size+aT.toArray.size))=true:=by
  rw[lC hsz,Bool.and_false];exact zAg
 refine call_meets F.slot_list_extend ⟨_,e,rfl⟩ F.entry_list_extend (F.args_list_extend_2 _ _)
  (AutoSeq1.list_extend_list_list_0 l its.toArray n b aT.toArray n2 eJ (by rw[zA8];lia) z00) ⟨e,e2,?_⟩
 refine⟨.non,_,I.lset (its':=its++aT) hH e z01 (r.append r2) ?_,rfl,q⟩;rw[zA2];lia
inductive RCatI(x:V)(y:V)(H:Hp)(Q:VK):Prop
 |mk:∀l b xs zs,(x=.ref l)->(y=.ref b)->(H l=some (.lst xs))->(H b=some (.lst zs))->(xs.length+zs.length<=sizeLine)->(∀p,H p=none->Q (.ref p) (upd H p (.lst (xs++zs))))->RCatI  x y H Q
def Nv:R2:=λx y H Q=>RCatI  x y H Q
theorem j9:OpR X (binaryOp .Add) Nv:=by
 intro z06 s σ H x y v u Q I rx ry h;obtain⟨l,b,xs,zs,rfl,rfl,hH,hB,hz,q⟩:=h;cases rx;cases ry;obtain⟨z,its,n,r,hl,e⟩:=I.lstM hH;obtain⟨z2,aT,n2,r2,cx,e2⟩:=I.lstM hB;refine PySem.P.add_list e e2 ?_ (by rw[zA8,zA8];lia);have ea:its.toArray++aT.toArray=(its++aT).toArray:=by simp
 rw[ea];exact⟨.ref _,_,I.lnew (t':=s.toks) (r.append r2) (by rw[zA2];lia),rfl,q _ I.fresh⟩
inductive RRepI(x:V)(y:V)(H:Hp)(Q:VK):Prop
 |mk:∀l k xs,(x=.ref l)->(y=.int k)->(H l=some (.lst xs))->(-(2^63)<=k)->(k<2^63)->(xs.length*k.toNat<=sizeLine)->(∀p,H p=none->Q (.ref p) (upd H p (.lst (List.replicate k.toNat xs).flatten)))->RRepI  x y H Q
def Jz:R2:=λx y H Q=>RRepI  x y H Q
theorem len_rep{α:Type}(xs:List α)(k:Nat):(List.replicate k xs).flatten.length=k*xs.length:=by simp
theorem Cv:OpR X (binaryOp .Mult) Jz:=by
 intro z06 s σ H x y v u Q I rx ry h;obtain⟨l,k,xs,rfl,rfl,hH,h1,h2,hz,q⟩:=h;cases rx;obtain⟨t,rfl⟩:=ry;obtain⟨z,its,n,r,hl,e⟩:=I.lstM hH;have hlen:its.toArray.size*k.toNat<=sizeLine:=by rw[zA8,<-hl];exact hz
 have vi:¬its.toArray.size*k.toNat>(2^63-1) / 8:=by
  have:(sizeLine:Nat)<=(2^63-1) / 8:=by decide
  lia
 have vj:¬(!Builtin.List.listFitsIndex k)=true:=by
  rw[fitsIndex_both h1 h2];exact zAg
 have eJ:¬Builtin.List.listTooLong (its.toArray.size*k.toNat)=true:=by
  rw[lC hlen];exact zAg
 have gc:List.foldl (λx1 x2=>x1++x2) #[] (List.replicate (if its.toArray.isEmpty=true then 0 else k.toNat) its.toArray)=(List.replicate k.toNat its).flatten.toArray:=by
  have f0:∀m:Nat,List.foldl (λx1 x2=>x1++x2) #[] (List.replicate m its.toArray)=(List.replicate m its).flatten.toArray:=λm=>by
   have:=foldl_rep its m [];rw[List.nil_append]at this;exact this
  rw[f0]
  cases its with
  |nil=>simp
  |cons a r'=>rw[zAy z01]
 refine wpAny_binaryOp_repeat_ref (T:="list") (U:="int") z02 ⟨_,e,rfl⟩ (λs'=>typeIs_int s' k t) noFill_list_mul F.fills_int_mul F.slot_int_rmul repeat_list F.slot_int_index.lookup
  (call_meets F.slot_int_rmul (typeIs_int s k t) F.entry_int_rmul (F.args_int_rmul_2 _ _) (int___rmul___int_list k t l its.toArray n)
   ⟨e,rfl,⟨_,e,rfl⟩,call_meets F.slot_list_mul ⟨_,e,rfl⟩ F.entry_list_mul (F.args_list_mul_2 _ _) (AutoListH.list___mul___list_int_3 l its.toArray n k t vj vi eJ) ⟨e,?_⟩⟩)
 rw[gc];exact⟨.ref _,_,I.lnew (t':=s.toks) (r.rep k.toNat) (by rw[len_rep,Nat.mul_comm];exact hz),rfl,q _ I.fresh⟩
end
section
set_option maxRecDepth 100000 in
end
section
end
end L2
namespace Att
open PySem PySem.W PySem.Calls PyProof.Rows
theorem oJ:∀(ns:UV) vs,WellAll P h vs (ns.map WData.int)->IntsAre vs ns:=by
 intro ns
 induction ns with
 |nil=>
  intro vs w;cases w;exact .nil
 |cons n ns ih=>
  intro vs w
  cases w with
  |cons a b=>
   cases a;exact .cons _ _ (ih _ b)
theorem Ag{l:OpenLaw}(hn:l.most=some n)
  (qf:l.row.toRowW.claim.pre args=true) (Iq:WellAll P h vals args):
  ∃a vs ns,vals=[Value.ref a]/\args=[WData.list (ns.map WData.int)]/\h.get? a=some {cls:=.type "list",data:=.seq vs.toArray}/\IntsAre vs ns/\ns.length<=n:=by
 have RH:WShape.hasAll [] args [.list .int]=true:=(pre_splitW qf).1;have hc:l.pre.holds [] {args:=args}=true:=(pre_splitW qf).2;obtain⟨d,r,rfl,h1,h2⟩:=hasAllW_cons RH;obtain rfl:=hasAllW_nil h2;obtain⟨xs,rfl,h3⟩:=hasW_list h1;obtain⟨ns,rfl⟩:=items_int h3
 have hlen:ns.length<=n:=by
  unfold OpenLaw.pre at hc
  have h4:(WTm.not (.lt (.lit (.int (n:Int))) (.len (.arg 0)))).holds [] {args:=[.list (ns.map .int)]}=true:=by
   have h4:=(holds_andW hc).1;rw[hn]at h4;exact h4
  have h5:=condW_of h4 (w_not (w_lt w_lit (w_len_list (w_arg rfl))));rw[zA1]at h5;refine Nat.le_of_not_lt λq=>?_;have q':(n:Int)<((ns.length:Nat):Int):=z00
  first
   | (rw[zAu q']at h5;exact absurd h5 z02)
   | (simp at h5;lia)
 cases Iq with
 |cons w1 w2=>
  cases w2
  cases w1 with
  |list ho hall=>exact⟨_,_,ns,rfl,rfl,ho,oJ ns _ hall,hlen⟩
theorem Ah(l:OpenLaw)(args:List WData):l.row.toRowW.claim.post args (.bool true) args=true:=
 postW_of (r:=l.row.toRowW) (X:=(true==true))
  (show WShape.has [] (.bool true) .bool=true by first|rfl|decide|simp[WShape.has])
  (w_eq_bool (w_res rfl) w_lit) rfl
theorem attach_call{l:OpenLaw}
  (hn:l.most=some n) (qh:d.params.defaults=[])
  (call:∀w s₀ s₁ mg mb fa o pm cd doc a vs (ns:UV),
   Ground q loose [] XP w s₀ mg mb s₁.heap->YP w s₁.heap->
   s₁.heap.get? fa=some o->o.data=.func (docDef d.name d.params d.body d.scope pm cd doc)->s₁.heap.CodeRec cd d.name->mg d.name=some (.ref fa)->
   s₁.heap.get? a=some {cls:=.type "list",data:=.seq vs.toArray}->IntsAre vs ns->ns.length<=n->s₁.gens=#[]->
   codeAny (model l.prog w) callerA (.call (.ref fa) ⟨[.ref a],[]⟩) (λr s'=>r=.ok (.ret (.bool true))/\OldK s₁.heap s'.heap/\s'.os=s₁.os/\AllBare s'.gens) s₁):
  WalkO q loose XP YP l.row.toRowW d [] (λf vs=>PySem.call f vs):=by
 intro w s₀ s₁ mg mb G Y fa o pm cd doc dV kV ho hd eB hD hmg hg args vals as qf RI Yo Iq mf;obtain rfl:dV=.none:=Dflts.none hD qh;obtain rfl:kV=.none:=Dflts.noKw hD;obtain⟨a,vs,ns,rfl,rfl,vk,hints,hlen⟩:=Ag hn qf Iq;refine enter_call (codeAny_mono (call w s₀ s₁ mg mb fa o pm cd doc a vs ns G Y ho (fd_plain hd) eB hmg vk hints hlen hg) λr s' hq=>?_);obtain⟨rfl,h2,h3,h4⟩:=hq;exact⟨.inl ⟨.bool true,.bool true,[],rfl,λ_=>rfl,.bool true,Ah l _,λ_=>⟨List.Pairwise.nil,λ_ hm=>(nomatch hm)⟩⟩,h2,h3,h4⟩
section
end
end Att
namespace L2
open PySem PySem.Spec PyProof.Rows
theorem rK:∀{vs:List Value} {ns:UV},IntsAre vs ns->Vals (ns.map V.int) vs
 |_,_,.nil=>.nil
 |_,_,.cons n t h=>.cons ⟨t,rfl⟩ (rK h)
def gH(s:Stmt):Arguments:=match s with
 |.FunctionDef _ a _ _ _ _ _ _ _ _=>a
 |_=>{posonlyargs:=[],args:=[],vararg:=none,kwonlyargs:=[],kw_defaults:=[],kwarg:=none,defaults:=[]}
def cB(s:Stmt):List Stmt:=match s with
 |.FunctionDef _ _ b _ _ _ _ _ _ _=>b
 |_=>[]
def az(s:Stmt):Scope:=match s with
 |.FunctionDef _ _ _ _ _ _ sc _ _ _=>sc
 |_=>{kind:=.function,names:=[],isGenerator:=false,isCoroutine:=false}
abbrev CX0:CXT:=λ_ _ _ _ _ _=>False
abbrev E0:XK:=λ_ _ _=>False
theorem Li:tM CX0 X E0:=λ_ _ _ _ _ _ _ h=>h.elim
structure Fun(K:Frag)(x qual:Str)(st:Stmt)(f:Addr)(fd:FuncData):Prop where
 ex:∃oc od kV doc pm an cdv ct kM,
  fd=PySem.W.fnOf x qual (gH st) (cB st) (az st) .none kV doc pm an cdv ct/\K.lookup f=some ⟨oc,od,.func fd,kM⟩/\PySem.W.codeIn K cdv qual=true
 kp:PySem.W.keepIn K (.ref f)=true
section
variable{K:Frag}
theorem Fun.ok{st:Stmt}(F:Fun K x qual st f fd)(S:FnScope N ps (az st))(len:∀vs H Q E,sp vs H Q E->vs.length=ps.length)
  (ar:∀cdv A outer s H vs Q E,Room k (A.deeper (envOfC qual (az st) s.heap.objs.size f cdv))->sp vs H Q E->
   ∃t,PSs (iJ CX0 P w K mg base N qual (az st) f cdv A outer s H E).nox (cB st) t/\t {nx:=λ_ H'=>Q .non H',rt:=Q} (start N vs) H):FnOk P w K mg base CX0 (k+1) f fd ps sp:=by
 obtain⟨oc,od,kV,doc,pm,an,cdv,ct,kM,rfl,lk,eB⟩:=F.ex;refine Cu lk eB S len λA outer s H vs Q E hr hV=>?_;obtain⟨t,h,q⟩:=ar cdv A outer s H vs Q E hr hV;exact⟨t,h.nox,q⟩
structure LenOk(sp:Sp)(ps:List Str):Prop where
 h:∀vs H Q E,sp vs H Q E->vs.length=ps.length:=by intro _ _ _ _ h;first | (cases h;subst_vars;rfl) | (repeat (first | (subst_vars;rfl)|obtain⟨_,h⟩:=h))
theorem Fun.oq {st:Stmt} (F:Fun K x qual st f fd) (S:FnScope N ps (az st)) (ar:∀cdv A outer s H vs Q E,Room k (A.deeper (envOfC qual (az st) s.heap.objs.size f cdv))->sp vs H Q E->
   ∃t,PSs (iJ CX0 P w K mg base N qual (az st) f cdv A outer s H E).nox (cB st) t/\t {nx:=λ_ H'=>Q .non H',rt:=Q} (start N vs) H) (len:LenOk sp ps:=by exact{}):FnOk P w K mg base CX0 (k+1) f fd ps sp:=F.ok S len.h ar
theorem Fun.binds{st:Stmt}(F:Fun K x qual st f fd)
  (h:∀kV doc pm an cdv ct us,us.length=ps.length->bindArgs (PySem.W.fnOf x qual (gH st) (cB st) (az st) .none kV doc pm an cdv ct) ⟨us,[]⟩=pure (ps.zip us)):Binds K fd ps []:=by
 obtain⟨oc,od,kV,doc,pm,an,cdv,ct,kM,rfl,lk,eB⟩:=F.ex;exact .all (h kV doc pm an cdv ct)
theorem Cw{st:Stmt}{kV doc pm cdv ct:Value}(l:K.lookup f=some ⟨oc,od,.func (PySem.W.fnOf x qual (gH st) (cB st) (az st) .none kV doc pm an cdv ct),kM⟩)
  (c:PySem.W.codeIn K cdv qual=true) (k:PySem.W.keepIn K (.ref f)=true):Fun K x qual st f (PySem.W.fnOf x qual (gH st) (cB st) (az st) .none kV doc pm an cdv ct):=⟨⟨oc,od,kV,doc,pm,an,cdv,ct,kM,rfl,l,c⟩,k⟩
end
theorem pJ(hr:Room k A):A.units+1<cLine:=Nat.lt_of_le_of_lt (Nat.add_le_add_left (by decide:1<=64) _) hr.units
section
variable{X:Cx}
theorem pv(i:Nat){pos:Pos}(hN:X.N[i]?=some x:=by rfl)(hv:Vis X.env.scope x:=by first|exact Or.inl rfl|exact Or.inr (Or.inl rfl)|exact Or.inr (Or.inr rfl))(hd:(x==("__debug__":Str))=false:=by decide)
  (eB:(x==("__classdict__":Str))=false:=by decide):PE X (.Name x pos) (iz i):=wW hN hv hd eB
end
theorem aX{A B:Prop}(h:B):if false=true then A else B:=by
 exact h
theorem bh{A B:Prop}(h:A):if true=true then A else B:=by
 exact h
theorem Cy{c A B:Prop}[Decidable c](h1:c->A)(h2:¬c->B):if c then A else B:=by
 by_cases h:c
 .rw[zAz h];exact h1 h
 .rw[zAy h];exact h2 h
def Same(H H':Hp):Prop:=∀b o,H b=some o->H' b=some o
theorem Same.refl(H:Hp):Same H H:=λ_ _ h=>h
theorem Same.trans(a:Same H H1)(b:Same H1 H2):Same H H2:=λc o h=>b c o (a c o h)
theorem Same.free(e:Same H H')(h:H' l=Option.none):H l=Option.none:=by
 cases q:H l with
 |none=>rfl
 |some o=>
  rw[e l o q]at h;cases h
def cC(cells:List (Str×Addr)):List (Str×NameKind)->List (Str×Addr)->List (Str×Addr)
 |[],acc=>acc
 | (n,k)::r,acc=>cC cells r (if k=.free then(n,(cells.lookup n).getD 0)::acc else acc)
theorem rM:∀l acc,(∀p∈l,p.2=NameKind.free->(env.cells.lookup p.1).isSome=true)->
  (forIn l acc λx r=>(if(x.2==NameKind.free)=true then do let a <-cellOf env x.1;pure (ForInStep.yield ((x.1,a)::r))else pure (ForInStep.yield r):Sem (ForInStep (List (Str×Addr)))))=pure (cC env.cells l acc)
 |[],acc,_=>rfl
 | (n,k)::r,acc,h=>by
  rw[List.forIn_cons];have ih:=λa=>rM (env:=env) r a λp hp=>h p (Zai _ hp);by_cases hk:k=.free
  .subst hk;have hs:=h (n,.free) Zap rfl;obtain⟨c,hc⟩:=Zas.mp hs;have e1:cellOf env n=pure c:=by unfold cellOf;rw[show env.cells.lookup n=some c from hc]
   have e2:cC env.cells ((n,.free)::r) acc=cC env.cells r ((n,c)::acc):=by
    show cC env.cells r (if NameKind.free=NameKind.free then(n,(env.cells.lookup n).getD 0)::acc else acc)=_;rw[zAz rfl,show env.cells.lookup n=some c from hc];rfl
   rw[e2];simp only[beq_self_eq_true,if_true,e1,pure_bind];exact ih _
  .have hb:(k==NameKind.free)=false:=by simpa using hk
   have e2:cC env.cells ((n,k)::r) acc=cC env.cells r acc:=by
    show cC env.cells r (if k=NameKind.free then _ else acc)=_;rw[zAy hk]
   rw[e2];simp only[hb,Bool.false_eq_true,if_false,pure_bind];exact ih _
theorem oV(h:∀p∈scope.names,p.2=NameKind.free->(env.cells.lookup p.1).isSome=true):closureFor scope env=pure (cC env.cells scope.names []):=by
 have e:=rM (env:=env) scope.names [] h;unfold closureFor;simp only[bind_pure];exact e
theorem jo:∀l acc,(∀p∈l,p.2=NameKind.free->(cells.lookup p.1).isSome=true)->(cC cells l acc).lookup x=some c->
  acc.lookup x=some c\/cells.lookup x=some c
 |[],_,_,h=>.inl h
 | (n,k)::r,acc,hf,h=>by
  have h':(cC cells r (if k=.free then(n,(cells.lookup n).getD 0)::acc else acc)).lookup x=some c:=h;rcases jo r _ (λp hp=>hf p (Zai _ hp)) h' with e|e
  .by_cases hk:k=.free
   .rw[zAz hk]at e;obtain⟨d,hd⟩:=Zas.mp (hf (n,k) Zap hk);rw[show cells.lookup n=some d from hd]at e;rw[Za1]at e
    cases hx:x==n with
    |true=>
     rw[hx]at e;have:x=n:=by simpa using hx
     subst this;exact .inr (hd.trans (by simpa using e))
    |false=>
     rw[hx]at e;exact .inl e
   .rw[zAy hk]at e;exact .inl e
  .exact .inr e
theorem lD:∀l acc,((∃k,(x,k)∈l/\k=NameKind.free)\/(∃c,acc.lookup x=some c))->∃c,(cC cells l acc).lookup x=some c
 |[],_,h=>by
  rcases h with⟨k,hk,_⟩|h
  .exact absurd hk z01
  .exact h
 | (n,k)::r,acc,h=>by
  show ∃c,(cC cells r (if k=.free then(n,(cells.lookup n).getD 0)::acc else acc)).lookup x=some c;refine lD r _ ?_;rcases h with⟨k',hk,e⟩|⟨c,hc⟩
  .rcases zAo.mp hk with z|z
   .cases z;refine .inr ?_;rw[zAz e];exact⟨_,by rw[Za1,beq_self_eq_true]⟩
   .exact .inl ⟨k',z,e⟩
  .refine .inr ?_;by_cases hk:k=.free
   .rw[zAz hk,Za1]
    cases hx:x==n with
    |true=>exact⟨_,rfl⟩
    |false=>exact⟨c,hc⟩
   .rw[zAy hk];exact⟨c,hc⟩
theorem o9(hc:∀p∈scope.names,p.2≠NameKind.cell)(h:(relabel scope env).names.lookup x=some k)(hk:k=.cell\/k=.free):∃k',(x,k')∈scope.names/\k'=NameKind.free:=by
 have m:=PySem.mem_of_lookup h;obtain⟨⟨n,k0⟩,hm,e⟩:=zA5.mp m;dsimp only at e;split at e
 .rename_i c
  cases e
  have:(k0==NameKind.free)=true:=by
   cases q:(k0==NameKind.free)with
   |true=>rfl
   |false=>rw[q]at c;simp at c
  exact⟨k0,hm,by simpa using this⟩
 .cases e;rcases hk with z|z
  .exact absurd z (hc _ hm)
  .exact⟨_,hm,z⟩
def cxC(X:Cx)(scope:Scope)(Nc:List Str)(C:Addr)(fp:List Addr)(z06:List (Addr×Obj))(s₂:Shared)(H₂:Hp):Cx where
 prog:=X.prog
 w:=X.w
 K:=X.K
 mg:=X.mg
 base:=X.base
 A:=X.A
 N:=Nc
 s₀:=s₂
 H₀:=H₂
 env:=compEnvC scope (cC X.env.cells scope.names []) C X.env
 outer:=X.stack
 stack:=X.stack
 ex:=fp
 fn:=λ_=>false
 calm:=X.calm
 pn:=X.pn++z06
 xe:=λ_ _=>False
def Caps(X:Cx)(bo:Env):List Str->List (Option Nat)->Prop
 |[],[]=>True
 |_::N,none::r=>Caps X bo N r
 |x::N,some i::r=>(X.N[i]?=some x/\(X.env.kindOf x=some .cell\/X.env.kindOf x=some .free)/\bo.cells.lookup x=X.env.cells.lookup x/\(bo.kindOf x=some .cell\/bo.kindOf x=some .free))/\Caps X bo N r
 |_,_=>False
def capσ(σ:St)(src:List (Option Nat)):St:=src.map λo=>match o with|none=>none|some i=>(σ[i]?).join
theorem Caps.len:∀{N:List Str} {src:List (Option Nat)},Caps X bo N src->src.length=N.length
 |[],[],_=>rfl
 |[],_::_,h=>h.elim
 |_::_,[],h=>h.elim
 |_::N,none::r,h=>by
  have h':Caps X bo N r:=h;have:=Caps.len (N:=N) (src:=r) h';simp[this]
 |_::N,some _::r,h=>by
  have:=Caps.len (N:=N) (src:=r) h.2;simp[this]
theorem Caps.get:∀{N:List Str} {src:List (Option Nat)} {j i:Nat},Caps X bo N src->N[j]?=some x->src[j]?=some (some i)->
  X.N[i]?=some x/\(X.env.kindOf x=some .cell\/X.env.kindOf x=some .free)/\bo.cells.lookup x=X.env.cells.lookup x/\(bo.kindOf x=some .cell\/bo.kindOf x=some .free)
 |[],[],_,_,_,e,_=>by simp at e
 |[],_::_,_,_,h,_,_=>h.elim
 |_::_,[],_,_,h,_,_=>h.elim
 |_::_,none::_,0,_,_,_,e=>by simp at e
 |_::N,none::r,j+1,_,h,e1,e2=>by
  have h':Caps X bo N r:=h;exact Caps.get (N:=N) (src:=r) (j:=j) h' (by simpa using e1) (by simpa using e2)
 |_::_,some _::_,0,_,h,e1,e2=>by
  simp at e1 e2;subst e1 e2;exact h.1
 |_::_,some _::_,j+1,_,h,e1,e2=>Caps.get (j:=j) h.2 (by simpa using e1) (by simpa using e2)
structure CScope(X:Cx)(scope:Scope):Prop where
 kind:scope.kind=.function
 cell:scope.names.all (λp=>p.2 != .cell)=true
 names:scope.names.all (λp=>p.2 != .local||scope.names.lookup p.1==some .local)=true
 free:scope.names.all (λp=>p.2 != .free||(X.env.cells.lookup p.1).isSome)=true
section
theorem CScope.hcell(S:CScope X scope):∀p∈scope.names,p.2≠NameKind.cell:=λp hp=>by
 have:=Zae.mp S.cell p hp;simpa using this
theorem CScope.hnames(S:CScope X scope):∀p∈scope.names,p.2=.local->scope.names.lookup p.1=some .local:=λp hp e=>by
 have:=Zae.mp S.names p hp;simpa[e]using this
theorem CScope.hfree(S:CScope X scope):∀p∈scope.names,p.2=NameKind.free->(X.env.cells.lookup p.1).isSome=true:=λp hp e=>by
 have:=Zae.mp S.free p hp;simpa[e]using this
end
def PTs(X:Cx)(ifs:List Expr)(t:TT):Prop:=
 ∀z06 s (σ:St) H Q,Inv X z06 σ H s->t σ H Q->
  wpAny (model X.prog X.w) X.A (forIn ifs true λc r=>if r=true then do let ok <-isTrue c X.env (eval c X.env);pure (ForInStep.yield ok)else pure (ForInStep.yield r)) (TP X z06 σ Q) X.xe s
def tU:TT:=λ_ H Q=>Q true H
theorem bV:PTs X [] tU:=λ_ _ _ H _ I h=>wpAny_tests_nil ⟨H,I,h⟩
theorem jH(h:PT X c t):PTs X [c] t:=λz06 s σ H Q I q=>wpAny_tests_one (h z06 s σ H Q I q)
theorem Gm(I:Nat->Shared->Prop)
  (turn:∀n s,I n s->wpAny (model prog w) A (pyNext it) (λr s₁=>match r with
   |none=>R (.ok .next) s₁
   |some v=>wpAny (model prog w) A (letOwnedTupleGo target it v) (λ_ sj=>wpAny (model prog w) A (assign target env v) (λ_ s₂=>
     wpAny (model prog w) A (forIn ifs true λc r=>if r=true then do let ok <-isTrue c env (eval c env);pure (ForInStep.yield ok)else pure (ForInStep.yield r)) (λok s₃=>
      if ok=true then wpAny (model prog w) A (eval elt env) (λx ku=>
       wpAny (model prog w) A (call (.builtin "list.append") [acc,x]) (λ_ BG=>∃m,m<n/\I m BG) (λ_ _=>False) ku) (λ_ _=>False) s₃
      else ∃m,m<n/\I m s₃) (λ_ _=>False) s₂) (λ_ _=>False) sj) (λ_ _=>False) s₁) (λ_ _=>False) s)
  (n:Nat) (h:I n s):
  codeAny (model prog w) A (.compLoop (.ListComp elt [⟨target,iter,ifs,0⟩] scope pos) 0 it acc env) R s:=by
 refine codeAny_loop rfl I (λn s hI=>?_) n h;show wpAny _ A ((compTurn (.ListComp elt [⟨target,iter,ifs,0⟩] scope pos) 0 it acc env).onRaise (λx=>do noteFrame x env;theTreesLotGoes x)) _ _ s;refine wpAny_noted ?_;rw[compTurn_list];refine zAt (wpAny_standAt (zAt (wpAny_mono (turn n s hI) (λr s₁ h₁=>?_) λ_ _ h'=>h'.elim)))
 cases r with
 |none=>exact zAx h₁
 |some v=>
  refine zAt (wpAny_mono h₁ (λ_ sj BH=>?_) λ_ _ h'=>h'.elim);refine zAt (wpAny_mono BH (λ_ s₂ mh=>zAt (wpAny_mono mh (λok s₃ qk=>?_) λ_ _ h'=>h'.elim)) λ_ _ h'=>h'.elim)
  cases ok with
  |false=>exact zAx ⟨rfl,qk⟩
  |true=>
   exact zAt (zAt (wpAny_mono qk (λx ku Iy=>zAt (wpAny_mono Iy (λ_ BG IA=>zAx (zAx ⟨rfl,IA⟩)) λ_ _ h'=>h'.elim)) λ_ _ h'=>h'.elim))
def oh(J:It)(g:TG)(tt:TT)(te:TE)(Fin:List V->Hp->Prop)(dQ:St)(H0:Hp):Prop:=
 ∃W:Nat->Nat->List V->St->Hp->Prop,(∃m,W 0 m [] dQ H0)/\∀i m ys σ H,W i m ys σ H->ys.length<sizeLine /\
  ((J.stop i H/\Fin ys H)\/(J.go i H/\∀x H',J.yld i H x H'->g x σ H' λaw H2=>tt aw H2 λb H3=>
   if b=true then te aw H3 λy H4=>∃m',m'<m/\W (i+1) m' (ys++[y]) aw H4 else ∃m',m'<m/\W (i+1) m' ys aw H3))
abbrev TM:=List V->St->Hp->(List V->St->Hp->Prop)->Prop
abbrev xG(us:List Value)(k:Nat):Obj:={cls:=.type "list",data:=.seq us.toArray k}
def Apart(X:Cx)(D:Addr):Prop:=D≠X.env.locals/\D∉X.fs/\X.s₀.heap.objs.size<=D/\(∀x c,X.env.cells.lookup x=some c->c≠D)/\∀p∈X.pn,p.1≠D
structure Fil(X:Cx)(z06:List (Addr×Obj))(D:Addr)(σ:St)(H:Hp)(s:Shared)(ys:List V):Prop where
 inv:Inv X z06 σ H s
 nD:H D=none
 np:∀p∈z06,p.1≠D
 obj:∃us k,s.heap.get? D=some (xG us k)/\Vals ys us
def PM(X:Cx)(D:Addr)(M:Sem Fin->Sem Fin)(tm:TM):Prop:=
 ∀z06 s σ H Q ys,Fil X z06 D σ H s ys->ys.length<sizeLine->tm ys σ H Q->∀c R E,
  (∀s' gg ah H',Fil X z06 D ah H' s' gg->Q gg ah H'->wpAny (model X.prog X.w) X.A c R E s')->wpAny (model X.prog X.w) X.A (M c) R E s
def tmE(te:TE):TM:=λys σ H Q=>te σ H λy H'=>Q (ys++[y]) σ H'
def Gn(elt:Expr)(D:Addr)(env:Env):Sem Fin->Sem Fin:=λc=>(do let _ <-call (.builtin "list.append") [.ref D,<-eval elt env])>>=λ_=>c
theorem thx{Q Q':α->Shared->Prop}(h:wpAny M A t Q (λ_ _=>False) s)(hQ:∀a s,Q a s->Q' a s):wpAny M A t Q' E s:=wpAny_mono h hQ λ_ _ x=>x.elim
theorem JB(ap:Apart X D)(hx:X.xe=λ_ _=>False)(he:PE X elt te):PM X D (Gn elt D X.env) (tmE te):=by
 intro z06 s σ H Q ys F hsz h c R E hc;obtain⟨I,nD,np,us,k,oD,rv⟩:=F;obtain⟨a1,a2,a3,a4,a5⟩:=ap
 have I':Inv X (z06++[(D,xG us k)]) σ H s:=I.pins_of λp hp=>(zA6.mp hp).elim (λz=>I.pin p (zB3 _ z)) λz=>by
  rw[Zad.mp z];exact⟨oD,nD,a1,a2,λv z=>by cases z⟩
 have E7:=he _ s σ H _ I' h;rw[hx]at E7;refine zAt (zAt (thx E7 λxv s8=>?_));rintro⟨y,H8,I8,r8,q8⟩;have pD:=I8.pin (D,xG us k) (zB3 _ (zB3 _ (Zad.mpr rfl)));refine zAt (append_at (hsz:=by rw[zA8,<-rv.length];exact Za4 hsz) pD.1 λh9 RJ RK=>zAx ?_);refine hc _ _ _ _ ⟨I8.unpinned.turned (t':=s8.toks) (λb o hb e=>RJ.extBut b o hb e) pD.2.1 a1 (.inr a3) a4 λp hp=>?_,pD.2.1,np,us++[xv],k+1,?_,rv.append (.cons r8 .nil)⟩ q8
 .exact(zA6.mp hp).elim (a5 p) (np p)
 .show h9.get? D=_;rw[RK,List.push_toArray]
def J1(J:It)(g:TG)(tt:TT)(tm:TM)(Fin:List V->St->Hp->Prop)(RL:List V)(dQ:St)(H0:Hp):Prop:=
 ∃W:Nat->Nat->List V->St->Hp->Prop,(∃m,W 0 m RL dQ H0)/\∀i m ys σ H,W i m ys σ H->ys.length<sizeLine /\
  ((J.stop i H/\Fin ys σ H)\/(J.go i H/\∀x H',J.yld i H x H'->g x σ H' λaw H2=>tt aw H2 λb H3=>
   if b=true then tm ys aw H3 λgg ah H4=>∃m',m'<m/\W (i+1) m' gg ah H4 else ∃m',m'<m/\W (i+1) m' ys aw H3))
def yD(tg:Expr)(ifs:List Expr)(p:Pos)(it:Value)(env:Env)(M:Sem Fin->Sem Fin)(c:Sem Fin):Sem Fin:=do
 standAt p
 match <-pyNext it with
 |none=>pure (.done .next)
 |some v=>
  letOwnedTupleGo tg it v
  assign tg env v
  let ok <-forIn ifs true λc r=>if r=true then do let ok <-isTrue c env (eval c env);pure (ForInStep.yield ok)else pure (ForInStep.yield r)
  if ok=true then M c else c
theorem Lj(hc:X.calm=true)(hx:X.xe=λ_ _=>False)
  (ap:Apart X D) (ht:compTurn (.ListComp elt gens scope pos) d (.ref it) (.ref D) X.env=yD tg ifs p (.ref it) X.env M (again (.compLoop (.ListComp elt gens scope pos) d (.ref it) (.ref D) X.env)))
  (hg:PG X tg g) (zh:PTs X ifs tt) (hm:PM X D M tm)
  (F:Fil X z06 D σ H s ys) (T:Turn X.prog X.w X.K tg J fp it tn) (st:tn 0 s.heap) (hf:∀b∈fp,mU X z06 H b/\b≠D)
  (hW:J1 J g tt tm Q ys σ H) (hR:∀s' gg ah H',Fil X z06 D ah H' s' gg->gg.length<sizeLine->Q gg ah H'->R (.ok .next) s'):
  codeAny (model X.prog X.w) X.A (.compLoop (.ListComp elt gens scope pos) d (.ref it) (.ref D) X.env) R s:=by
 obtain⟨W,⟨m0,w0⟩,step⟩:=hW;refine codeAny_loop rfl (λn s'=>∃i ys ah H',Fil X z06 D ah H' s' ys/\tn i s'.heap/\(∀b∈fp,H' b=none)/\W i n ys ah H') (λn s3 hI=>?_) m0 ⟨0,ys,σ,H,F,st,λb hb=>(hf b hb).1.1,w0⟩;obtain⟨i,ys,kq,H3,⟨I3,qo,np,us,k,RM,BI⟩,gT,Bz,w3⟩:=hI;show wpAny _ _ ((compTurn (.ListComp elt gens scope pos) d (.ref it) (.ref D) X.env).onRaise (λx=>do noteFrame x X.env;theTreesLotGoes x)) _ _ s3;refine wpAny_noted ?_;rw[ht];obtain⟨a1,a2,a3,a4,a5⟩:=ap;obtain⟨hsz,vn⟩:=step i n ys kq H3 w3
 have NI:Inv X (z06++[(D,xG us k)]) kq H3 s3:=I3.pins_of λp hp=>(zA6.mp hp).elim (λz=>I3.pin p (zB3 _ z)) λz=>by
  rw[Zad.mp z];exact⟨RM,qo,a1,a2,λv z=>by cases z⟩
 have BM:∀{H':Hp},(∀b∈fp,H' b=none)->∀b∈fp,mU X (z06++[(D,xG us k)]) H' b:=λ{H'} hn b hb=>by
  obtain⟨⟨_,f1,f2,f3,f4,f5⟩,f6⟩:=hf b hb;refine⟨hn b hb,f1,f2,f3,f4,λq hq=>?_⟩;rw[<-zAf]at hq;rcases zA6.mp hq with z|z
  .exact f5 q z
  .rw[Zad.mp z];exact f6.symm
 refine zAt (wpAny_standAt (zAt ?_));rcases vn with⟨stop,fin⟩|⟨go,turn⟩
 .refine thx (T.done X rfl rfl rfl hc i _ s3 kq H3 (λ_ _=>False) NI (BM Bz) gT stop) λr s4=>?_;rintro⟨hr,I4⟩;subst hr;have pD:=I4.pin (D,xG us k) (zB3 _ (zB3 _ (Zad.mpr rfl)));exact zAx (hR s4 ys kq H3 ⟨I4.unpinned,qo,np,us,k,pD.1,BI⟩ hsz fin)
 .refine thx (T.item X rfl rfl rfl hc i _ s3 kq H3 (λ_ _=>False) NI (BM Bz) gT go) λr s4=>?_;rintro⟨u,hr,h4⟩;subst hr;refine zAt (thx h4 λ_ s5=>?_);rintro⟨x,H5,I5,r5,y5,u7,HL⟩;have HM:=I5.pinned (BM HL) (T.obj _ _ u7);have NJ:=hg _ s5 kq H5 x u _ HM r5 (turn x H5 y5);rw[hx]at NJ;refine zAt (thx NJ λ_ s6=>?_);rintro⟨y9,H6,I6,q6⟩;have kC:=zh _ s6 y9 H6 _ I6 q6;rw[hx]at kC;refine zAt (thx kC λIB s7=>?_);rintro⟨H7,I7,q7⟩;have pD:=I7.pin (D,xG us k) (zB3 _ (Zat _ (zB3 _ (Zad.mpr rfl))));have NL:Inv X (z06++dI fp s5.heap) y9 H7 s7:=I7.pins_of λq hq=>(zA6.mp hq).elim (λz=>I7.pin q (zB3 _ (Zat _ (Zat _ z)))) λz=>I7.pin q (zB3 _ (zB3 _ z));have NM:∀q∈z06++dI fp s5.heap,q.1≠D:=λq hq=>(zA6.mp hq).elim (np q) λz=>(hf _ (mV z).1).2
  have back:∀{H8:Hp} {s8:Shared} {BN:St} {BO:List V},Fil X (z06++dI fp s5.heap) D BN H8 s8 BO->Fil X z06 D BN H8 s8 BO/\tn (i+1) s8.heap/\∀b∈fp,H8 b=none:=λ{H8 s8 BN BO} F8=>by
   obtain⟨I8,n8,_,o8⟩:=F8;have pf:∀b∈fp,∀o,s5.heap.get? b=some o->s8.heap.get? b=some o:=λb hb o e=>(I8.pin (b,o) (zB3 _ (zB3 _ (j8 hb e)))).1;refine⟨⟨I8.unpinned,n8,np,o8⟩,T.keep _ _ _ u7 pf,λb hb=>?_⟩;obtain⟨o,e,_⟩:=T.obj _ _ u7 b hb;exact(I8.pin (b,o) (zB3 _ (zB3 _ (j8 hb e)))).2.1
  cases IB with
  |false=>
   obtain⟨m',zi,w7⟩:=q7;obtain⟨b1,b2,b3⟩:=back ⟨NL,pD.2.1,NM,us,k,pD.1,BI⟩;exact zAx ⟨rfl,m',zi,i+1,ys,y9,H7,b1,b2,b3,w7⟩
  |true=>
   refine hm _ s7 y9 H7 _ ys ⟨NL,pD.2.1,NM,us,k,pD.1,BI⟩ hsz q7 _ _ _ λs8 BO BN H8 F8 q8=>?_;obtain⟨m',zi,w8⟩:=q8;obtain⟨b1,b2,b3⟩:=back F8;exact zAx ⟨rfl,m',zi,i+1,BO,BN,H8,b1,b2,b3,w8⟩
theorem Cz(hd:gens[d]?=some c)(ha:c.is_async=0)
  (h0:codeAny (model prog w) A (.compLoop (.ListComp elt gens scope pos) d it acc env) R s)
  (h:wpAny (model prog w) A (pyIter it) (λNN s'=>codeAny (model prog w) A (.compLoop (.ListComp elt gens scope pos) d NN acc env) R s') (λ_ _=>False) s):
  codeAny (model prog w) A (.compStart (.ListComp elt gens scope pos) d it acc env) R s:=by
 refine codeAny_of_tree ?_;show wpAny _ _ ((compStart (.ListComp elt gens scope pos) d it acc env).onRaise (λx=>do noteFrame x env;standAt theWindowsPlace)) _ _ s;refine wpAny_notedAt ?_;have e:(clausesOf (.ListComp elt gens scope pos))[d]?=some c:=hd;unfold compStart;rw[e];have e2:(Option.elim (some c) false λx=>x.is_async != 0)=false:=by show(c.is_async != 0)=false;rw[ha];rfl
 rw[e2];show wpAny _ _ (ask>>=_) _ _ s;refine zAt (wpAny_askSetting (wpAny_ite ?_));split
 .exact zAx (And.intro rfl h0)
 .refine zAt (wpAny_rule (zAt (wpAny_standAt (zAt (thx h λNN s' h'=>zAx (And.intro rfl h'))))))
section
theorem Ai(hg:gens[d]?=some ⟨tg,iter,ifs,0⟩)(hn:gens[d+1]?=none):compTurn (.ListComp elt gens scope pos) d it (.ref D) env=yD tg ifs iter.pos it env (Gn elt D env) (again (.compLoop (.ListComp elt gens scope pos) d it (.ref D) env)):=by
 unfold compTurn yD Gn;simp only[hg,hn];rfl
end
theorem xH{M:Addr->Env->Sem Fin->Sem Fin}(hc:X.calm=true)(S:CScope X scope)
  (hd:gens[0]?=some ⟨tg,iter,ifs,0⟩) (BQ:∀it D env,compTurn (.ListComp elt gens scope pos) 0 (.ref it) (.ref D) env=yD tg ifs p (.ref it) env (M D env) (again (.compLoop (.ListComp elt gens scope pos) 0 (.ref it) (.ref D) env)))
  (de:∀C,Caps X (compEnvC scope (cC X.env.cells scope.names []) C X.env) Nc src)
  (hb:∀C fp z06 s₂ H₂,PG (cxC X scope Nc C fp z06 s₂ H₂) tg g/\PTs (cxC X scope Nc C fp z06 s₂ H₂) ifs tt/\∀D,Apart (cxC X scope Nc C fp z06 s₂ H₂) D->PM (cxC X scope Nc C fp z06 s₂ H₂) D (M D (cxC X scope Nc C fp z06 s₂ H₂).env) tm)
  {σ:St} {fp:List Addr} {tn:Nat->Heap->Prop} {J:It} (ai:Inv X z06 σ H₂ s₂) (T:Turn X.prog X.w X.K tg J fp it tn) (st:tn 0 s₂.heap) (hf:∀b∈fp,mU X z06 H₂ b)
  {Fin:List V->Hp->Prop} (hW:J1 J g tt tm (λys _ H=>Fin ys H) [] (capσ σ src) H₂) {RR:Value->Addr->Result->Shared->Prop} {E:Value->Shared->Prop}
  (IC:∀D C s' ys H' m,Fin ys H'->H' D=none->Inv X z06 σ (upd H' D (.lst ys)) s'->s'.heap.Ns C m->mU X z06 (upd H' D (.lst ys)) C->RR (.ref D) C (.ok .next) s'):
  wpAny (model X.prog X.w) X.A (newList []) (λacc s₃=>wpAny (model X.prog X.w) X.A (newFunctionEnv scope X.env.globals (cC X.env.cells scope.names []) [] X.env.qual none .none (some X.env)) (λml ku=>
   codeAny (model X.prog X.w) X.A (.compStart (.ListComp elt gens scope pos) 0 (.ref it) acc {ml with scope:=relabel scope X.env}) (RR acc ml.locals) ku) E s₃) E s₂:=by
 refine Zac (wpAny_newFunctionEnv S.hcell (by intro y hy;simp at hy) (λh₁ eM cy=>?_) S.kind);dsimp only at eM cy⊢;generalize ID:s₂.heap.push {cls:=.type "list",dict:=none,data:=.seq ([]:List Value).toArray}=HH at eM cy⊢;generalize sv:s₂.heap.objs.size=D at eM cy⊢;have hC:HH.objs.size=D+1:=by rw[<-ID,Heap.size_push,sv]
 generalize Yq:HH.objs.size=C at eM cy hC⊢;have IE:D≠C:=z00
 have below:∀b,b<s₂.heap.objs.size->b≠C/\b≠D:=λb hb=>by rw[sv]at hb;exact⟨by rw[hC];exact zB5 (Nat.lt_succ_of_lt hb),zB5 hb⟩
 have bp:∀{b o},s₂.heap.get? b=some o->b≠C/\b≠D:=λ{b o} e=>below b (zB0 e);have old:∀b o,s₂.heap.get? b=some o->h₁.get? b=some o:=λb o e=>cy.extBut b o (bp e).1 (zAv _ (ID▸zAv _ e));have dE:h₁.get? D=some {cls:=.type "list",data:=.seq ([]:List Value).toArray}:=cy.extBut _ _ IE (zAv _ (ID▸sv▸zB1 _ rfl))
 have RO:∀b∈fp,∃o,s₂.heap.get? b=some o:=λb hb=>by obtain⟨o,e,_⟩:=T.obj _ _ st b hb;exact⟨o,e⟩
 have E8:∀b∈fp,b≠C/\b≠D:=λb hb=>by obtain⟨o,e⟩:=RO b hb;exact bp e
 have sub:∀{x c},(cC X.env.cells scope.names []).lookup x=some c->X.env.cells.lookup x=some c:=λ{x c} e=>by
  rcases jo scope.names [] S.hfree e with z|z
  .simp at z
  .exact z
 have RP:∀{b o},s₂.heap.get? b=some o->b<D:=λ{b o} e=>by rw[<-sv];exact zB0 e
 have fresh:∀a,D<=a->H₂ a=none:=λa ha=>ai.hok.fresh (by rw[sv];exact ha)
 have sx:∀{x c},X.env.cells.lookup x=some c->∃o,s₂.heap.get? c=some o:=λ{x c} e=>by obtain⟨v,o,ho,_⟩:=ai.cell x c e;exact⟨o,ho⟩
 have IF:∀b∈frs X.stack,∃o,s₂.heap.get? b=some o:=λb hb=>by
  rcases zAo.mp (ai.stkSub b hb)with e|hb
  .rw[e];obtain⟨m,⟨o,_,_,ho,_⟩,_⟩:=ai.loc;exact⟨o,ho⟩
  .obtain⟨_,o,ho,_⟩:=ai.funs.mem hb;exact⟨o,ho⟩
 have IG:∀a,D<=a->a∉frs X.stack:=λa ha hb=>by
  obtain⟨o,e⟩:=IF a hb;exact absurd (zB4 (RP e) ha) (Zak _)
 have NS:∀b∈fp,b∉frs X.stack:=λb hb z=>by
  obtain⟨_,f1,f2,_⟩:=hf b hb;rcases zAo.mp (ai.stkSub b z)with e|e
  .exact f1 e
  .exact f2 e
 generalize gi:cxC X scope Nc C fp z06 s₂ H₂=X';obtain⟨hg,ht,hm⟩:=hb C fp z06 s₂ H₂;rw[gi]at hg ht hm
 have vt:X'.Ok:=by
  subst gi;refine⟨ai.ok.mod,S.kind,ai.ok.glob,ai.ok.blt,?_,?_,?_,?_,ai.ok.hd,ai.ok.frames,.inl rfl,?_,ai.bs,Zah ai.ok.bsz ai.sz,?_,NS,ai.stack,ai.stkFree⟩
  .show s₂.heap.objs.size<=C;lia
  .exact λx y c e1 e2=>ai.ok.inj x y c (sub e1) (sub e2)
  .intro x hx;have hx:(relabel scope X.env).names.lookup x=some .cell\/(relabel scope X.env).names.lookup x=some .free:=hx
   have:∃k',(x,k')∈scope.names/\k'=NameKind.free:=by
    rcases hx with z|z
    .exact o9 S.hcell z (.inl rfl)
    .exact o9 S.hcell z (.inr rfl)
   exact lD scope.names [] (.inl this)
  .intro x c z;exact absurd z (by show¬(false=true);simp)
  .intro b hb;exact⟨(E8 b hb).1,λx c e=>(hf b hb).2.2.2.2.1 x c (sub e)⟩
  .intro b o e hb;obtain⟨_,_,_,f3,_⟩:=hf b hb;rcases f3 with z|z
   .exact ai.ok.noex b o e z
   .exact absurd (zB4 (zB0 (ai.ok.bs b o e).1) z) (Zak _)
 have eP:X'.prog=X.prog:=by subst gi;rfl
 have ew:X'.w=X.w:=by subst gi;rfl
 have eK:X'.K=X.K:=by subst gi;rfl
 have eA:X'.A=X.A:=by subst gi;rfl
 have eE:X'.xe=λ_ _=>False:=by subst gi;rfl
 have eL:X'.env.locals=C:=by subst gi;rfl
 have eN:X'.env=compEnvC scope (cC X.env.cells scope.names []) C X.env:=by subst gi;rfl
 have ec:X'.calm=true:=by subst gi;exact hc
 have eS:X'.s₀=s₂:=by subst gi;rfl
 have eH:X'.H₀=H₂:=by subst gi;rfl
 have ef:X'.fs=frs X.stack:=by subst gi;rfl
 have ex:X'.ex=fp:=by subst gi;rfl
 have ep:X'.pn=X.pn++z06:=by subst gi;rfl
 have I0:Inv X' [] (capσ σ src) H₂ {s₂ with heap:=h₁,toks:=s₂.toks+([]:List (Str×Value)).length}:=by
  refine⟨vt,by rw[eS],ai.bare,by rw[eS,eH];exact Un.kept old,⟨_,by rw[eL];exact eM,?_⟩,?_,by rw[eL];exact fresh _ z00,?_,?_,by rw[eP,ew];exact ai.hok.kept old,?_⟩
  .intro j x v e1 e2 e3;have e1:Nc[j]?=some x:=by subst gi;exact e1
   have e4:∃i,src[j]?=some (some i)/\(σ[i]?).join=some v:=by
    unfold capσ at e2;rw[zAb]at e2
    cases q:src[j]? with
    |none=>rw[q]at e2;cases e2
    |some o=>
     rw[q]at e2
     cases o with
     |none=>simp at e2
     |some i=>exact⟨i,rfl,by simpa using e2⟩
   obtain⟨i,e5,e6⟩:=e4;obtain⟨c1,c2,c3,c4⟩:=(de C).get e1 e5
   have e7:σ[i]?=some (some v):=by
    cases q:σ[i]? with
    |none=>rw[q]at e6;simp at e6
    |some o=>rw[q]at e6;simp at e6;rw[e6]
   obtain⟨m,_,hl⟩:=ai.loc;obtain⟨u,r,l⟩:=hl i x v c1 e7 (.inr (by rcases c2 with z|z;exact .inl z;exact .inr z));refine⟨u,r,?_⟩;rcases l with⟨k,_⟩|⟨_,c,e,z⟩
   .rcases c2 with c2|c2<;>(rw[k]at c2;cases c2)
   .refine .inr ⟨by rw[eN];exact c4,c,by rw[eN];exact c3.trans e,?_⟩;obtain⟨o,ho,hd⟩:=z;exact⟨o,old c o ho,hd⟩
  .intro x c e;rw[eN]at e;obtain⟨v,o,ho,hd⟩:=ai.cell x c (sub e);exact⟨v,o,old c o ho,hd⟩
  .intro x c e;rw[eN]at e;exact ai.freeC x c (sub e)
  .intro p hp;rw[ep,zAn]at hp;obtain⟨e,n,ne,nf,d⟩:=ai.pin p hp;refine⟨old _ _ e,n,by rw[eL];exact(bp e).1,?_,d⟩;rw[ef];intro z;rcases zAo.mp (ai.stkSub _ z)with q|q
   .exact ne q
   .exact nf q
  .have:=(de C).len;subst gi;show(capσ σ src).length=Nc.length;unfold capσ;rw[zA1,this]
 have RQ:∀p∈X'.pn,p.1≠D:=λp hp=>by
  rw[ep]at hp;exact(bp (ai.pin p hp).1).2
 have BU:∀x c,X'.env.cells.lookup x=some c->c≠D:=λx c e=>by
  rw[eN]at e;obtain⟨o,ho⟩:=sx (sub e);exact(bp ho).2
 have BM:∀{P:List (Addr×Obj)} {H:Hp},(∀p∈P,p.1=D)->(∀b∈fp,H b=none)->∀b∈fp,mU X' P H b:=λ{P H} hP hn b hb=>by
  refine⟨hn b hb,by rw[eL];exact(E8 b hb).1,by rw[ef];exact NS b hb,.inl (by rw[ex];exact hb),λx c e=>?_,λp hp=>?_⟩
  .rw[eN]at e;exact(hf b hb).2.2.2.2.1 x c (sub e)
  .rcases zA6.mp hp with z|z
   .rw[ep]at z;exact(hf b hb).2.2.2.2.2 p z
   .rw[hP p z];exact(E8 b hb).2.symm
 have ap:Apart X' D:=⟨by rw[eL];exact IE,by rw[ef];exact IG _ (zA3 _),by rw[eS,sv];exact zA3 _,BU,RQ⟩
 have T':Turn X'.prog X'.w X'.K tg J fp it tn:=by rw[eP,ew,eK];exact T
 have loop:∀s₃:Shared,s₃={s₂ with heap:=h₁,toks:=s₂.toks+([]:List (Str×Value)).length}->
   codeAny (model X.prog X.w) X.A (.compLoop (.ListComp elt gens scope pos) 0 (.ref it) (.ref D) (compEnvC scope (cC X.env.cells scope.names []) C X.env)) (RR (.ref D) C) s₃:=by
  rintro s₃ rfl
  have L:=Lj (X:=X') (R:=RR (.ref D) C) ec eE ap (BQ it D X'.env) hg ht (hm D ap) ⟨I0,fresh _ (zA3 _),λp hp=>absurd hp z01,[],_,dE,.nil⟩ T' (T.keep _ _ _ st λb _ o e=>old b o e)
   (λb hb=>⟨BM (λp hp=>absurd hp z01) (λb hb=>(hf b hb).1) b hb,(E8 b hb).2⟩) hW ?_
  .rw[eP,ew,eA,eN]at L;exact L
  rintro s4 ys kq H3 ⟨I4,qo,_,us,k,oD,BI⟩ hsz fin;obtain⟨mC,NU,_⟩:=I4.loc;rw[eL]at NU;have sC:=I4.base;rw[eS,eH,ef,ex]at sC;have hlen:ys.length<=sizeLine:=Za4 hsz
  have IH:HOk X.prog X.w (upd H3 D (.lst ys)) s4.heap:=λb u e=>by
   by_cases hb:b=D
   .subst hb;rw[aa]at e;cases e;exact⟨hlen,us,k,BI,oD⟩
   .rw[aA hb]at e;have z:=I4.hok b u e;rw[eP,ew]at z
    exact z.stay (λc v _ q=>q) (λc q=>by rw[aA (aD q qo)];exact q) λc xs q=>by rw[aA (aD q qo)];exact q
  have un:Un (frs X.stack) fp H₂ (upd H3 D (.lst ys)) s₂.heap s4.heap:=⟨sC.keep,sC.slot,λb o e n hx=>by rw[aA (bp e).2];exact sC.free b o e n hx,sC.there,
   λb xs e=>by
    have z:=sC.tups b xs e
    rw[aA (aD z qo)];exact z,
   λb o u e=>by
    have z:=sC.frzs b o u e
    rw[aA (aD z qo)];exact z,
   λb ps e=>by
    obtain⟨mo,z⟩:=sC.tbls b ps e
    exact⟨mo,by rw[aA (aD z qo)];exact z⟩⟩
  have J4:Inv X z06 σ (upd H3 D (.lst ys)) s4:=ai.call' (ch:=fp) (by have:=I4.os;rw[eS]at this;exact this) un IH I4.bare λb hb=>by
   obtain⟨_,f1,f2,f3,f4,f5⟩:=hf b hb;exact⟨f3,f1,f4,f5⟩
  refine IC D C s4 ys H3 mC fin qo J4 NU ⟨?_,?_,?_,.inr ?_,?_,?_⟩
  .rw[aA IE.symm];have:=I4.free;rw[eL]at this;exact this
  .have:=ai.lt;rw[sv]at this;exact Zar (zB4 this (by rw[hC];exact Nat.le_succ _))
  .intro z;obtain⟨_,o,ho,_⟩:=ai.funs.mem z;exact(bp ho).1 rfl
  .have:=ai.sz;rw[sv]at this;lia
  .intro x c e z;obtain⟨o,ho⟩:=sx e;exact(bp ho).1 z
  .intro p hp z;exact(bp (ai.pin p hp).1).1 z
 exact Cz hd rfl (loop _ rfl) (T.self _ 0 _ _ _ (T.keep _ _ _ st λb _ o e=>old b o e) (loop _ rfl))
theorem rN(hc:X.calm=true)(S:CScope X scope)
  (de:∀C,Caps X (compEnvC scope (cC X.env.cells scope.names []) C X.env) Nc src)
  (hb:∀C fp z06 s₂ H₂,PG (cxC X scope Nc C fp z06 s₂ H₂) tg g/\PTs (cxC X scope Nc C fp z06 s₂ H₂) ifs tt/\PE (cxC X scope Nc C fp z06 s₂ H₂) elt te)
  {σ:St} (ai:Inv X z06 σ H₂ s₂) (T:Turn X.prog X.w X.K tg J fp it tn) (st:tn 0 s₂.heap) (hf:∀b∈fp,mU X z06 H₂ b)
  {Fin:List V->Hp->Prop} (hW:oh J g tt te Fin (capσ σ src) H₂) {RR:Value->Addr->Result->Shared->Prop} {E:Value->Shared->Prop}
  (IC:∀D C s' ys H' m,Fin ys H'->H' D=none->Inv X z06 σ (upd H' D (.lst ys)) s'->s'.heap.Ns C m->mU X z06 (upd H' D (.lst ys)) C->RR (.ref D) C (.ok .next) s'):
  wpAny (model X.prog X.w) X.A (newList []) (λacc s₃=>wpAny (model X.prog X.w) X.A (newFunctionEnv scope X.env.globals (cC X.env.cells scope.names []) [] X.env.qual none .none (some X.env)) (λml ku=>
   codeAny (model X.prog X.w) X.A (.compStart (.ListComp elt [⟨tg,iter,ifs,0⟩] scope pos) 0 (.ref it) acc {ml with scope:=relabel scope X.env}) (RR acc ml.locals) ku) E s₃) E s₂:=by
 exact xH (gens:=[⟨tg,iter,ifs,0⟩]) (p:=iter.pos) (M:=λD env=>Gn elt D env) (tm:=tmE te) hc S rfl (λit D env=>Ai rfl rfl) de (λC fp z06 s₂ H₂=>⟨(hb C fp z06 s₂ H₂).1,(hb C fp z06 s₂ H₂).2.1,λD ap=>JB ap rfl (hb C fp z06 s₂ H₂).2.2⟩) ai T st hf hW IC
def v9(wi:TI)(src:List (Option Nat))(g:TG)(tt:TT)(te:TE):TE:=λσ H Q=>wi σ H λJ H1=>oh J g tt te (λys H'=>∀D,H' D=none->Q (.ref D) (upd H' D (.lst ys))) (capσ σ src) H1
section
theorem bW(Nc:List Str)(src:List (Option Nat))(hc:X.calm=true)(hi:PI X tg iter wi)
  (hb:∀C fp z06 s₂ H₂,PG (cxC X scope Nc C fp z06 s₂ H₂) tg g/\PTs (cxC X scope Nc C fp z06 s₂ H₂) ifs tt/\PE (cxC X scope Nc C fp z06 s₂ H₂) elt te)
  (de:∀C,Caps X (compEnvC scope (cC X.env.cells scope.names []) C X.env) Nc src) (S:CScope X scope)
  (hs:∀x,foldedSetIterable iter X.env x=pure x:=by intro _;rfl):PE X (.ListComp elt [⟨tg,iter,ifs,0⟩] scope pos) (v9 wi src g tt te):=by
 intro z06 s σ H Q I h;rw[eval_ListComp];refine wpAny_comprehension_free (use:=none) rfl hs (oV S.hfree) S.kind S.hnames ?_;refine thn (hi z06 s σ H _ I h) λv s1 h1=>thn h1 λE6 s2 h2=>?_;obtain⟨it,fp,tn,J,H2,e,I2,T,st2,f2,hW⟩:=h2;subst e;refine rN (RR:=λacc C=>compPost (model X.prog X.w) X.A X.xe none (EP X z06 σ Q) acc C) hc S de hb I2 T st2 f2 hW ?_;intro D C s' ys H' m fin nD J' hn fC;obtain⟨f0,f1,_,f3,f4,f5⟩:=fC;refine⟨m,hn,λRS vw=>?_⟩;exact⟨.ref D,_,J'.turned (t':=s'.toks) (λb o hb e=>vw.extBut b o hb e) f0 f1 f3 f4 f5,rfl,fin D nD⟩
def JC(wi:TI)(src:List (Option Nat))(g:TG)(tt:TT)(te:TE)(i:Nat):TS:=λD σ H=>v9 wi src g tt te σ H λv H'=>D.nx (σ.set i (some v)) H'
theorem jJ{pos' BY:Pos}(Nc:List Str)(src:List (Option Nat))(hc:X.calm=true)(hN:X.N.Nodup)(pb:X.N[i]?=some x)(hx:Loc X.env.scope x)(hi:PI X tg iter wi)
  (hb:∀C fp z06 s₂ H₂,PG (cxC X scope Nc C fp z06 s₂ H₂) tg g/\PTs (cxC X scope Nc C fp z06 s₂ H₂) ifs tt/\PE (cxC X scope Nc C fp z06 s₂ H₂) elt te)
  (de:∀C,Caps X (compEnvC scope (cC X.env.cells scope.names []) C X.env) Nc src) (S:CScope X scope)
  (RT:swapsWith (.ListComp elt [⟨tg,iter,ifs,0⟩] scope pos) (some (.Name x pos')) BY.line X.env=pure true:=by rfl)
  (hf:X.fn x=true\/X.env.scope.names.lookup x=some .local:=by first|exact .inl rfl|exact .inr rfl|assumption)
  (hs:∀x,foldedSetIterable iter X.env x=pure x:=by intro _;rfl):PS X (.Assign [.Name x pos'] (.ListComp elt [⟨tg,iter,ifs,0⟩] scope pos) BY) (JC wi src g tt te i):=by
 intro z06 s σ H D I h;rw[exec_Assign_Name_used _ _ _ _ RT];refine zAt (wpAny_standAt (zAt ?_));show wpAny _ _ (do let _ <-comprehension (.ListComp elt [⟨tg,iter,ifs,0⟩] scope pos) scope X.env _ (newList []) false (eval iter X.env) (some (assign (.Name x pos') X.env))) _ _ s;refine zAt (thn (wpAny_comprehension_free (use:=some (assign (.Name x pos') X.env)) (Q:=λ_ s'=>∃ah H',Inv X z06 ah H' s'/\D.nx ah H') rfl hs (oV S.hfree) S.kind S.hnames ?_) λ_ s' hq=>zAx (zAx hq));refine thn (hi z06 s σ H _ I h) λv s1 h1=>thn h1 λE6 s2 h2=>?_;obtain⟨it,fp,tn,J,H2,e,I2,T,st2,f2,hW⟩:=h2;subst e;refine rN (RR:=λacc C=>compPost (model X.prog X.w) X.A X.xe (some (assign (.Name x pos') X.env)) (λ_ s'=>∃ah H',Inv X z06 ah H' s'/\D.nx ah H') acc C) hc S de hb I2 T st2 f2 hW ?_;intro A C s' ys H' m fin nD J' hn fC;obtain⟨f0,f1,Yr,f3,f4,f5⟩:=fC;refine wpAny_assign_Name (jC J' hN pb hx (v:=.ref A) rfl (λkK RU RV=>?_) hf)
 have vx:∃m',kK.heap.Ns C m':=by
  obtain⟨a,sb,ha⟩:=RV
  have gu:C≠a:=by
   rcases ha with z|z
   .rw[z];exact f1
   .exact λq=>f4 x a z q.symm
  exact⟨m,hn.sameBut sb gu⟩
 obtain⟨m',vx⟩:=vx;refine⟨m',vx,λRS vw=>?_⟩;exact⟨_,_,RU.turned (t':=kK.toks) (λb o hb e=>vw.extBut b o hb e) f0 f1 f3 f4 f5,fin A nD⟩
end
section
theorem bK:dH X (.builtin "isinstance") (λxs H Q=>∃x t n b,xs=[x,.ty n]/\TyOf X.K H x t/\PySem.W.kitOne X.K t (.type n)=some b/\Q (.bl b) H):=by
 intro z06 s σ H xs us Q I r h;obtain⟨x,t,n,b,rfl,ty,e,q⟩:=h;obtain⟨u,c,rfl,ru,rc⟩:=vals2 r;obtain rfl:c=Value.type n:=rc
 exact Af I ru ty e λtk=>⟨.bl b,H,I.tok _,rfl,q⟩
theorem vd(bs:List Bool):TruthOf prog w A (λi v=>∃b,bs[i]?=some b/\v=Value.bool b) (λi=>(bs[i]?).getD false):=by
 intro i v s Q E hP hQ;obtain⟨b,hb,rfl⟩:=hP;dsimp only at hQ;rw[hb]at hQ;exact wpAny_truthy_bool hQ
theorem all_range(bs:List Bool):(List.range bs.length).all (λi=>(bs[i]?).getD false)=bs.all id:=by
 apply Zau.mpr;rw[Zae,Zae];constructor
 .intro h b hb;obtain⟨i,hi,e⟩:=Zaq hb;have:=h i (Zan.mpr hi);rw[zA0 hi,e]at this;exact this
 .intro h i hi;have hi:=Zan.mp hi;rw[zA0 hi];exact h _ (zAh hi)
theorem jb:∀{bs:List Bool} {us:List Value},Vals (bs.map V.bl) us->us=bs.map Value.bool
 |[],_,.nil=>rfl
 |_::bs,_,.cons r t=>by
  rw[jb (bs:=bs) t,show _=Value.bool _ from r];rfl
theorem gj(hc:X.calm=true):dH X (.builtin "all") (λxs H Q=>∃(p:Addr) (bs:List Bool),xs=[.ref p]/\SqL X.K H p (bs.map V.bl)/\Q (.bl (bs.all id)) H):=by
 intro z06 s σ H xs us Q I r h;obtain⟨p,bs,rfl,hq,q⟩:=h;obtain⟨u,rfl,ru⟩:=vals1 r;cases ru;obtain⟨its,rv,pl,hz⟩:=I.list hq;have ei:=jb rv;subst ei;have ay:p<s.heap.objs.size:=by obtain⟨_,e,_⟩:=pl.isList;exact zB0 e
 refine call_all_walk (wpAny_pyIter_list pl.isList ?_);have W:=Walks.list (prog:=X.prog) (w:=X.w) (A:=X.A.in1) (I.ok.hd hc) s.heap.objs.size p (zB5 ay) (bs.map Value.bool).toArray;refine⟨_,_,_,_,_,_,_,rfl,{sub:=W.sub,frame:=W.frame,item:=λi s Q E hi st hQ=>W.item i s Q E hi st λv h' tk hP=>hQ v h' tk ?_,done:=W.done,self:=W.self},⟨⟨_,zB1 _ rfl,rfl,rfl⟩,pl.isList.push _⟩,vd bs,λh' tk k=>?_⟩
 .have B6:(bs.map Value.bool).toArray[i]?=some v:=hP;rw[List.getElem?_toArray,zAb]at B6
  cases e:bs[i]? with
  |none=>rw[e]at B6;cases B6
  |some b=>rw[e]at B6;exact⟨b,rfl,(zAl B6).symm⟩
 .have hsz:(bs.map Value.bool).toArray.size=bs.length:=by simp
  rw[hsz,all_range];refine⟨.bl _,H,?_,rfl,q⟩;refine I.kept (h':=h') (t':=tk) λb o e=>k b o ?_ (zAv _ e);intro z;have:b=s.heap.objs.size:=by simpa using z
  exact absurd (zB0 e) (by rw[this];exact Zak _)
end
theorem mX{K:Frag}:PySem.W.kitOne K (.type "NoneType") (.type "int")=some false:=by kernel_rfl
theorem lE{K:Frag}:PySem.W.kitOne K (.type "NoneType") (.type "bool")=some false:=by kernel_rfl
theorem jZ{K:Frag}:PySem.W.kitOne K (.type "NoneType") (.type "tuple")=some false:=by kernel_rfl
theorem tV{K:Frag}:PySem.W.kitOne K (.type "bool") (.type "int")=some true:=by kernel_rfl
theorem qN{K:Frag}:PySem.W.kitOne K (.type "bool") (.type "bool")=some true:=by kernel_rfl
theorem pK{K:Frag}:PySem.W.kitOne K (.type "bool") (.type "tuple")=some false:=by kernel_rfl
theorem vf{K:Frag}:PySem.W.kitOne K (.type "int") (.type "int")=some true:=by kernel_rfl
theorem tW{K:Frag}:PySem.W.kitOne K (.type "int") (.type "bool")=some false:=by kernel_rfl
theorem qO{K:Frag}:PySem.W.kitOne K (.type "int") (.type "tuple")=some false:=by kernel_rfl
theorem vg{K:Frag}:PySem.W.kitOne K (.type "str") (.type "int")=some false:=by kernel_rfl
theorem tX{K:Frag}:PySem.W.kitOne K (.type "str") (.type "bool")=some false:=by kernel_rfl
theorem qP{K:Frag}:PySem.W.kitOne K (.type "str") (.type "tuple")=some false:=by kernel_rfl
theorem tY{K:Frag}:PySem.W.kitOne K (.type "list") (.type "int")=some false:=by kernel_rfl
theorem qQ{K:Frag}:PySem.W.kitOne K (.type "list") (.type "bool")=some false:=by kernel_rfl
theorem pL{K:Frag}:PySem.W.kitOne K (.type "list") (.type "tuple")=some false:=by kernel_rfl
theorem qR{K:Frag}:PySem.W.kitOne K (.type "tuple") (.type "int")=some false:=by kernel_rfl
theorem pM{K:Frag}:PySem.W.kitOne K (.type "tuple") (.type "bool")=some false:=by kernel_rfl
theorem oK{K:Frag}:PySem.W.kitOne K (.type "tuple") (.type "tuple")=some true:=by kernel_rfl
theorem tZ{K:Frag}:PySem.W.kitOne K (.type "dict") (.type "int")=some false:=by kernel_rfl
theorem qT{K:Frag}:PySem.W.kitOne K (.type "dict") (.type "bool")=some false:=by kernel_rfl
theorem pN{K:Frag}:PySem.W.kitOne K (.type "dict") (.type "tuple")=some false:=by kernel_rfl
section
variable{κ:Type}[DecidableEq κ]
def dM(kvs:List (κ×V))(k:κ):Option V:=(kvs.find? λkv=>decide (kv.1=k)).map (·.2)
def putK(kvs:List (κ×V))(k:κ)(v:V):List (κ×V):=
 if(kvs.any λkv=>decide (kv.1=k))=true then kvs.map (λkv=>if kv.1=k then(kv.1,v)else kv)else kvs++[(k,v)]
theorem di{k:κ}(e:p.1=k):dM (p::r) k=some p.2:=by simp[dM,e]
theorem dq{k:κ}(e:¬p.1=k):dM (p::r) k=dM r k:=by simp[dM,e]
theorem gY(k:κ):∀kvs,(kvs.any λkv=>decide (kv.1=k))=(dM kvs k).isSome
 |[]=>rfl
 |p::r=>by
  rw[List.any_cons];by_cases e:p.1=k
  .simp only[di e,decide_eq_true e,Bool.true_or,Option.isSome_some]
  .rw[dq e,zB2 e];exact gY k r
theorem vh(k j:κ)(y:V):∀kvs,dM (kvs.map λkv=>if kv.1=k then(kv.1,y)else kv) j=(dM kvs j).map λx=>if j=k then y else x
 |[]=>rfl
 |p::r=>by
  have ih:=vh k j y r;rw[zAk];by_cases h:p.1=k
  .rw[zAz h];by_cases e:p.1=j
   .rw[di (p:=(p.1,y)) e,di e,Option.map_some,zAz (e.symm.trans h)]
   .rw[dq (p:=(p.1,y)) e,dq e,ih]
  .rw[zAy h];by_cases e:p.1=j
   .rw[di (p:=p) e,di e,Option.map_some,zAy (λz=>h (e.trans z))]
   .rw[dq (p:=p) e,dq e,ih]
theorem rO(k j:κ)(y:V):∀kvs,dM kvs k=none->dM (kvs++[(k,y)]) j=if j=k then some y else dM kvs j
 |[],_=>by
  by_cases e:k=j
  .rw[zAz e.symm];exact di (p:=(k,y)) e
  .rw[zAy (λz=>e z.symm)];exact dq (p:=(k,y)) e
 |p::r,hn=>by
  rw[List.cons_append]
  have hk:¬p.1=k:=λz=>by rw[di z]at hn;cases hn
  rw[dq hk]at hn;have ih:=rO k j y r hn;by_cases e:p.1=j
  .rw[di e,di e,zAy (λz=>hk (e.trans z))]
  .rw[dq e,dq e,ih]
theorem jq(kvs:List (κ×V))(k j:κ)(y:V):dM (putK kvs k y) j=if j=k then some y else dM kvs j:=by
 unfold putK;by_cases a:(kvs.any λkv=>decide (kv.1=k))=true
 .rw[zAz a,vh];rw[gY]at a;by_cases e:j=k
  .obtain⟨x,hx⟩:=Zas.mp a;rw[zAz e,e,hx,Option.map_some,zAz rfl]
  .rw[zAy e]
   cases dM kvs j with
   |none=>rfl
   |some x=>rw[Option.map_some,zAy e]
 .rw[zAy a];refine rO k j y kvs ?_;rw[gY]at a
  cases q:dM kvs k with
  |none=>rfl
  |some x=>rw[q]at a;exact(a rfl).elim
theorem jr(kvs:List (κ×V))(k:κ)(v:V):(putK kvs k v).length<=kvs.length+1:=by
 unfold putK;split
 .rw[zA1];lia
 .rw[zA2,zAe,List.length_nil];lia
theorem pO{k:κ}(v:V)(h:dM kvs k=none):putK kvs k v=kvs++[(k,v)]:=by
 unfold putK;rw[gY,h];exact zAy z02
theorem RelO.isSome_eq(r:RelO o u):o.isSome=u.isSome:=by
 cases o with
 |none=>cases u with
  |none=>rfl
  |some _=>exact(r).elim
 |some _=>cases u with
  |none=>exact(r).elim
  |some _=>rfl
theorem KV.val(r:KV kvs vs)(k:κ):RelO (dM kvs k) (valueAt vs k):=by
 induction r with
 |nil=>exact True.intro
 |@cons p q ps qs h t ih=>
  obtain⟨h1,h2⟩:=h;by_cases e:p.1=k
  .have e':q.1=k:=h1.symm.trans e;have b:valueAt (q::qs) k=some q.2:=by simp[valueAt,e']
   rw[di e,b];exact h2
  .have e':¬q.1=k:=λz=>e (h1.trans z);have b:valueAt (q::qs) k=valueAt qs k:=by simp[valueAt,e']
   rw[dq e,b];exact ih
theorem KV.any(r:KV kvs vs)(k:κ):(kvs.any λkv=>decide (kv.1=k))=vs.any λkv=>decide (kv.1=k):=by
 induction r with
 |nil=>rfl
 |cons h t ih=>rw[List.any_cons,List.any_cons,ih,h.1]
theorem KV.repl(r:KV kvs vs)(k:κ)(ry:RelV y u):
  KV (kvs.map λkv=>if kv.1=k then(kv.1,y)else kv) (vs.map λkv=>if kv.1=k then(kv.1,u)else kv):=by
 induction r with
 |nil=>exact .nil
 |@cons p q ps qs h t ih=>
  rw[zAk,zAk];refine .cons ?_ ih;obtain⟨h1,h2⟩:=h;by_cases e:p.1=k
  .rw[zAz e,zAz (h1.symm.trans e)];exact⟨h1,ry⟩
  .rw[zAy e,zAy (λz=>e (h1.trans z))];exact⟨h1,h2⟩
theorem KV.put(r:KV kvs vs)(k:κ)(ry:RelV y u):KV (putK kvs k y) (stored vs k u):=by
 unfold putK stored;rw[r.any k];by_cases e:(vs.any λkv=>decide (kv.1=k))=true
 .rw[zAz e,zAz e];exact r.repl k ry
 .rw[zAy e,zAy e];exact Paired.snoc r ⟨rfl,ry⟩
theorem KV.length{vs:List (κ×Value)}(r:KV kvs vs):kvs.length=vs.length:=Paired.length r
end
theorem vm(r:RelV (kV k) u):(bZ P w).is k u=true:=by
 cases k with
 |inl i=>obtain⟨t,e⟩:=(r);subst e;exact uR P w i t
 |inr x=>obtain⟨t,e⟩:=(r);subst e;exact uT P w x t
theorem rP:∀{ks:List Key} {us:List Value},Vals (ks.map kV) us->ItemsAre (bZ P w) ks us
 |[],_,r=>by rw[List.map_nil]at r;cases r;exact .nil
 |k::ks,_,r=>by
  cases r with
  |cons h t=>exact .cons (vm h) (rP t)
abbrev KT(H:Hp):List (List Key×V)->List (List Key×Addr×Value)->Prop:=Paired λp q=>p.1=q.1/\H q.2.1=some (.tup (p.1.map kV))/\RelV p.2 q.2.2
theorem KT.val(r:KT H kvs xs)(k:List Key):RelO (dM kvs k) ((atKey xs k).map (·.2)):=by
 induction r with
 |nil=>exact True.intro
 |@cons p q ps qs h t ih=>
  obtain⟨h1,_,h2⟩:=h;by_cases e:p.1=k
  .have e':q.1=k:=h1.symm.trans e;have b:atKey (q::qs) k=some q.2:=by simp[atKey,e']
   rw[di e,b];exact h2
  .have e':¬q.1=k:=λz=>e (h1.trans z);have b:atKey (q::qs) k=atKey qs k:=by simp[atKey,e']
   rw[dq e,b];exact ih
theorem KT.repl(r:KT H kvs xs)(k:List Key)(ry:RelV y u):
  KT H (kvs.map λkv=>if kv.1=k then(kv.1,y)else kv) (xs.map (putAt k u)):=by
 induction r with
 |nil=>exact .nil
 |@cons p q ps qs h t ih=>
  rw[zAk];refine .cons ?_ ih;obtain⟨h1,h2,h3⟩:=h;unfold putAt;by_cases e:p.1=k
  .rw[zAz e,zAz (h1.symm.trans e)];exact⟨h1,h2,ry⟩
  .rw[zAy e,zAy (λz=>e (h1.trans z))];exact⟨h1,h2,h3⟩
theorem KT.put(r:KT H kvs xs)(k:List Key)(hb:H b=some (.tup (k.map kV)))(ry:RelV y u):
  KT H (putK kvs k y) (storedH xs k b u):=by
 have e:(kvs.any λkv=>decide (kv.1=k))=(atKey xs k).isSome:=by
  rw[gY,(r.val k).isSome_eq,Option.isSome_map]
 unfold putK storedH;rw[e];by_cases q:(atKey xs k).isSome=true
 .rw[zAz q,zAz q];exact r.repl k ry
 .rw[zAy q,zAy q];exact Paired.snoc r ⟨rfl,hb,ry⟩
theorem KT.keeps(r:KT H kvs xs)(ht:∀b ys,H b=some (.tup ys)->H' b=some (.tup ys)):KT H' kvs xs:=
 Paired.mapP r λ_ _ z=>⟨z.1,ht _ _ z.2.1,z.2.2⟩
section
theorem J3(ok:HOk P w H h)(e:Rd H a u):ObjOk P w H h a u:=e.ok ok
theorem yE(ok:HOk P w H h)(e:Rd H a (.dK kvs)):kvs.length<=sizeLine/\(a==sysModules)=false/\∃vs,KV kvs vs/\h.DictOf (bZ P w) a vs:=
 show ObjOk P w H h a (.dK kvs)from J3 ok e
theorem Lk(ok:HOk P w H h)(e:H a=some (.dK kvs)):kvs.length<=sizeLine/\(a==sysModules)=false/\∃vs,KV kvs vs/\h.DictOf (bZ P w) a vs:=yE ok (.inl e)
theorem u5(ok:HOk P w H h)(e:H a=some (.tup (ks.map kV))):(tupleKind (bZ P w)).is h ks a:=by
 obtain⟨_,its,r,o,h1,h2,n,h3⟩:=(ok a _ e)
 exact⟨o,its.toArray,n,h1,h2,h3,by simpa using rP r⟩
theorem yF(ok:HOk P w H h)(e:Rd H a (.dT kvs)):kvs.length<=sizeLine/\(a==sysModules)=false /\
  ∃xs,KT H kvs xs/\h.DictOfH (tupleKind (bZ P w)) a xs:=by
 obtain⟨z,y,xs,r,o,es,ep,h1,h2,h3,h4,h5⟩:=(J3 ok e)
 refine⟨z,y,xs,r,o,es,ep,h1,h2,h3,h4,λx hx=>?_,h5⟩
 have all:∀{l:List (List Key×V)} {m:List (List Key×Addr×Value)},KT H l m->∀x∈m,(tupleKind (bZ P w)).is h x.1 x.2.1:=by
  intro l m q
  induction q with
  |nil=>intro x hx;exact nomatch hx
  |@cons p q ps qs hq t ih=>
   intro x hx;rcases zAo.mp hx with e|hx
   .subst e;exact u5 ok (by rw[<-hq.1];exact hq.2.1)
   .exact ih x hx
 exact all r x hx
theorem Ln(ok:HOk P w H h)(e:H a=some (.dT kvs)):kvs.length<=sizeLine/\(a==sysModules)=false /\
  ∃xs,KT H kvs xs/\h.DictOfH (tupleKind (bZ P w)) a xs:=yF ok (.inl e)
end
def DGet(H:Hp)(a:Addr)(y:V)(r:Option V):Prop:=
 (∃kvs k,Rd H a (.dK kvs)/\y=kV k/\r=dM kvs k)\/∃kvs k b,Rd H a (.dT kvs)/\y=.ref b/\H b=some (.tup (k.map kV))/\r=dM kvs k
def DPut(H:Hp)(a:Addr)(y v:V)(H':Hp):Prop:=
 (∃kvs k,H a=some (.dK kvs)/\y=kV k/\kvs.length<sizeLine/\H'=upd H a (.dK (putK kvs k v))) \/
 ∃kvs k b,H a=some (.dT kvs)/\y=.ref b/\H b=some (.tup (k.map kV))/\kvs.length<sizeLine/\H'=upd H a (.dT (putK kvs k v))
theorem DGet.t(e:H a=some (.dT kvs))(eb:H b=some (.tup (k.map kV))):DGet H a (.ref b) (dM kvs k):=.inr ⟨kvs,k,b,.inl e,rfl,eb,rfl⟩
theorem DPut.t(e:H a=some (.dT kvs))(eb:H b=some (.tup (k.map kV)))(hl:kvs.length<sizeLine):
  DPut H a (.ref b) v (upd H a (.dT (putK kvs k v))):=.inr ⟨kvs,k,b,e,rfl,eb,hl,rfl⟩
section
variable{σ:St}
theorem Inv.big(I:Inv X z06 σ H s):sysModules<s.heap.objs.size:=by
 have h:mainGlobals<s.heap.objs.size:=(I.mod.glob.keeps I.bk).lt;exact Nat.lt_trans z02 h
theorem Aj(hu:A.units+1<cLine)(I:Inv X z06 σ H s)(g:DGet H a y (some v))(ry:RelV y u)(h:∀w' s',Inv X z06 σ H s'->RelV v w'->Q w' s'):
  wpAny (model X.prog X.w) A (getItem (.ref a) u) Q E s:=by
 rcases g with⟨kvs,k,e,ey,l⟩|⟨kvs,k,b,e,ey,eb,l⟩
 .subst ey;obtain⟨z,hd,vs,rel,dd⟩:=yE I.hok e;obtain⟨w',hw,hU⟩:=RelO.some_of (v:=v) (o:=valueAt vs k) (by rw[l];exact rel.val k);exact wpAny_getItem_of (vm ry) dd.mapOf hw (h w' _ (I.tok _) hU)
 .subst ey;cases(ry);obtain⟨z,hd,xs,rel,dd⟩:=yF I.hok e;obtain⟨w',hw,hU⟩:=RelO.some_of (v:=v) (o:=(atKey xs k).map (·.2)) (by rw[l];exact rel.val k);obtain⟨p,hp,mm⟩:=Option.map_eq_some_iff.mp hw;refine wpAny_getItem_heap (tupleKind_room_in1 hu) (u5 I.hok eb) dd hp ?_;rw[mm];exact h w' _ (I.tok _) hU
theorem Gp(hu:A.units+1<cLine)(I:Inv X z06 σ H s)(g:DGet H a y o)(ry:RelV y u)(h:∀s',Inv X z06 σ H s'->Q (.bool (!o.isSome)) s'):
  wpAny (model X.prog X.w) A (compareOp .NotIn u (.ref a)) Q E s:=by
 rcases g with⟨kvs,k,e,ey,l⟩|⟨kvs,k,b,e,ey,eb,l⟩
 .subst ey;obtain⟨z,hd,vs,rel,dd⟩:=yE I.hok e;refine wpAny_notIn_of (vm ry) hd dd.mapOf ?_;rw[<-(rel.val k).isSome_eq,<-l];exact h _ (I.tok _)
 .subst ey;cases(ry);obtain⟨z,hd,xs,rel,dd⟩:=yF I.hok e;refine wpAny_notIn_heap (tupleKind_room_in1 hu) (u5 I.hok eb) hd dd ?_;have q:=(rel.val k).isSome_eq;rw[Option.isSome_map]at q;rw[<-q,<-l];exact h _ (I.tok _)
theorem yG(I:Inv X z06 σ H s)(mu:Mut (H a))(hs:Heap.SameBut a s.heap h')(he:∃q,h'.get? a=some q)(new:ObjOk X.prog X.w (upd H a ob) h' a ob):
  Inv X z06 σ (upd H a ob) {s with heap:=h',toks:=t'}:=
 I.write (x:=a) (e:=a) mu (.inl rfl) (λb q hb z=>(hs.2 b hb).trans z) he new
theorem CG(z:kvs.length<=sizeLine)(hd:(a==sysModules)=false)(rel:KV kvs vs)(dd:h'.DictOf (bZ P w) a vs):
  ObjOk P w H' h' a (.dK kvs):=⟨z,hd,vs,rel,dd⟩
theorem Ak(hu:A.units+1<cLine)(I:Inv X z06 σ H s)(g:DPut H a y v H')(ry:RelV y u)(rv:RelV v r)(h:∀s',Inv X z06 σ H' s'->Q () s'):
  wpAny (model X.prog X.w) A (setItem (.ref a) u r) Q E s:=by
 rcases g with⟨kvs,k,e,ey,l,eH⟩|⟨kvs,k,b,e,ey,eb,l,eH⟩
 .subst ey eH;obtain⟨z,hd,vs,rel,dd⟩:=Lk I.hok e;have hz:vs.length<=sizeLine:=by rw[<-rel.length];exact z
  have hl:(putK kvs k v).length<=sizeLine:=by have:=jr kvs k v;lia
  refine wpAny_setItem_pairs (hsz:=hz) (vm ry) dd λh' zk hs=>h _ ?_
  have he:∃q,h'.get? a=some q:=by obtain⟨q,_,_,hq,_⟩:=zk;exact⟨q,hq⟩
  exact yG I (by rw[e];exact True.intro) hs he (CG hl hd (rel.put k rv) zk)
 .subst ey eH;cases(ry);obtain⟨z,hd,xs,rel,dd⟩:=Ln I.hok e;have hz:xs.length<=sizeLine:=by rw[<-Paired.length rel];exact z
  have hl:(putK kvs k v).length<=sizeLine:=by have:=jr kvs k v;lia
  refine wpAny_setItem_heap (hsz:=hz) (tupleKind_room_in1 hu) (u5 I.hok eb) dd λh' zk hs=>h _ ?_;obtain⟨q,es,ep,hq,h2,h3,h4,_,h5⟩:=zk;refine yG I (by rw[e];exact True.intro) hs ⟨q,hq⟩ ⟨hl,hd,_,(rel.put k eb rv).keeps λc ys ec=>?_,q,es,ep,hq,h2,h3,h4,h5⟩;rw[aA (KH ec e (λz=>nomatch z))];exact ec
end
section
end
def Lp(i:Expr):Prop:=∀ov iv,subscripted i false ov iv=operate [ov,iv] (getItem ov iv)
theorem Gq{T id:String}
  (hl:typeLookup (.type T) "__getitem__"=pure (some (.builtin id))) (hs:Lp slice)
  (h:wpAny (model prog w) A (eval value env) (λo s₁=>wpAny (model prog w) A (eval slice env) (λi s₂=>s₂.TypeIs o T/\wpAny (model prog w) A (getItem o i) Q E s₂) E s₁) E s):
  wpAny (model prog w) A (eval (.Subscript value slice pos) env) Q E s:=by
 refine Subscript_ (wpAny_mono h (λo s₁ h₁=>wpAny_mono h₁ (λi s₂ mh=>?_) λ_ _ x=>x) λ_ _ x=>x);obtain⟨hT,mh⟩:=mh;refine zAt ?_;refine zAt (wpAny_specialOf hT hl ?_)
 have fin:wpAny (model prog w) A (subscripted slice false o i) (λr s₃=>wpAny (model prog w) A (letTemporaryGo value o r>>=λ_=>pure r) Q E s₃) E s₂:=by
  rw[hs o i];exact wpAny_operating (wpAny_mono mh (λr s₃ qk=>zAt (wpAny_letTemporaryGo (zAx qk))) λ_ _ x=>x)
 first
  |exact zAx (zAt fin)
  |exact zAt (zAx (zAt fin))
  |exact zAt fin
theorem vo{σ:St}(I:Inv X z06 σ H s)(g:DGet H a y o):s.TypeIs (.ref a) "dict":=by
 rcases g with⟨kvs,k,e,_,_⟩|⟨kvs,k,b,e,_,_,_⟩
 .obtain⟨_,_,vs,_,dd⟩:=yE I.hok e;exact dd.typeIs
 .obtain⟨_,_,xs,_,dd⟩:=yF I.hok e;exact dd.typeIs
def Lq(td ty:TE):TE:=λσ H Q=>td σ H λx H1=>ty σ H1 λy H2=>∃a v,x=.ref a/\DGet H2 a y (some v)/\Q v H2
def Gr(ty td:TE):TE:=λσ H Q=>ty σ H λy H1=>td σ H1 λx H2=>∃a o,x=.ref a/\DGet H2 a y o/\Q (.bl (!o.isSome)) H2
def Lr(td ty tv:TE):TS:=λD σ H=>tv σ H λv H1=>td σ H1 λx H2=>ty σ H2 λy H3=>∃a H4,x=.ref a/\DPut H3 a y v H4/\D.nx σ H4
section
theorem lF(hu:X.A.units+1<cLine)(ho:PE X o td)(hi:PE X i ty)(hs:Lp i):PE X (.Subscript o i pos) (Lq td ty):=by
 intro z06 s σ H Q I h;refine Gq PySem.F.slot_dict_getitem.lookup hs (thn (ho z06 s σ H _ I h) λu s1 ⟨x,H1,I1,rx,q1⟩=>thn (hi z06 s1 σ H1 _ I1 q1) λiv s2=>?_);rintro⟨y,H2,I2,ry,a,v,ex,g,q2⟩;subst ex;obtain rfl:u=Value.ref a:=rx;exact⟨vo I2 g,Aj hu I2 g ry λw' s3 I3 hU=>⟨v,H2,I3,hU,q2⟩⟩
theorem Al(hu:X.A.units+1<cLine)(hi:PE X i ty)(ho:PE X o td):PC X .NotIn i o (Gr ty td):=by
 intro z06 s σ H Q I h;refine thn (hi z06 s σ H _ I h) λiv s1 ⟨y,H1,I1,ry,q1⟩=>thn (ho z06 s1 σ H1 _ I1 q1) λu s2=>?_;rintro⟨x,H2,I2,rx,a,ov,ex,g,q2⟩;subst ex;obtain rfl:u=Value.ref a:=rx
 exact Gp hu I2 g ry λs3 I3=>⟨.bl (!ov.isSome),H2,I3,rfl,q2⟩
theorem Gs(hu:X.A.units+1<cLine)(ho:PE X o td)(hi:PE X i ty)(hv:PE X value tv)(hs:swapsWith value (some (.Subscript o i pos')) pos.line X.env=pure false):
  PS X (.Assign [.Subscript o i pos'] value pos) (Lr td ty tv):=by
 intro z06 s σ H D I h;refine wpAny_Assign_Subscript (thn (hv z06 s σ H _ I h) λr s1 ⟨v,H1,I1,rv,q1⟩=>thn (ho z06 s1 σ H1 _ I1 q1) λu s2 ⟨x,H2,I2,rx,q2⟩=>thn (hi z06 s2 σ H2 _ I2 q2) λiv s3=>?_) hs;rintro⟨y,H3,I3,ry,a,H4,ex,g,q3⟩;subst ex;obtain rfl:u=Value.ref a:=rx
 exact Ak hu I3 g ry rv λs4 I4=>⟨σ,H4,I4,q3⟩
end
theorem CJ(h:Heap)(hb:sysModules<h.objs.size):ObjOk P w H (h.push {cls:=.type "dict",data:=.dict #[]}) h.objs.size (.dT []):=
 ⟨zAp _,beq_eq_false_iff_ne.mpr (Ne.symm (zB5 hb)),[],.nil,_,#[],0,zB1 _ rfl,⟨rfl,rfl,rfl⟩,rfl,rfl,List.nodup_nil⟩
def JD:TE:=λ_ H Q=>∀p,H p=none->Q (.ref p) (upd H p (.dT []))
section
theorem CK:PE X (.Dict [] [] pos) JD:=λz06 s σ H Q I h=>
 wpAny_Dict_empty ⟨.ref s.heap.objs.size,_,I.laid (a:=s.heap.objs.size) (o:=.dT []) (t':=s.toks) (λ_ _ q=>zAv _ q) (zA3 _) (CJ s.heap I.big),rfl,h _ (I.hok.fresh (zA3 _))⟩
end
def km(kvs more:List (Key×V)):List (Key×V):=more.foldl (λacc kv=>putK acc kv.1 kv.2) kvs
theorem jR:∀more kvs,(km kvs more).length<=kvs.length+more.length
 |[],kvs=>by show kvs.length<=kvs.length+0;lia
 |p::r,kvs=>by
  have h1:=jR r (putK kvs p.1 p.2);have h2:=jr kvs p.1 p.2;show(km (putK kvs p.1 p.2) r).length<=_;rw[zAe];lia
section
end
section
end
section
end
section
end
def Gu:Key->PyData
 |.inl i=>.int i
 |.inr x=>.str x
mutual
inductive IsTh(S:Addr->Prop)(H:Hp):V->PyData->Prop
 |non:IsTh S H .non .none
 |bl (b:Bool):IsTh S H (.bl b) (.bool b)
 |int (i:Int):IsTh S H (.int i) (.int i)
 |str (x:Str):IsTh S H (.str x) (.str x)
 |lst {a:Addr} {xs:List V} {ds:List PyData} (hs:S a) (e:H a=some (.lst xs)) (r:IsThs S H xs ds):IsTh S H (.ref a) (.list ds)
 |tup {a:Addr} {xs:List V} {ds:List PyData} (e:H a=some (.tup xs)) (r:IsThs S H xs ds):IsTh S H (.ref a) (.tuple ds)
 |dct {a:Addr} {ks:List (Key×Int)} (hs:S a) (e:H a=some (.dK (ks.map λp=>(p.1,V.int p.2)))):IsTh S H (.ref a) (.dict (ks.map λp=>(Gu p.1,.int p.2)))
inductive IsThs(S:Addr->Prop)(H:Hp):List V->List PyData->Prop
 |nil:IsThs S H [] []
 |cons {v:V} {d:PyData} {vs:List V} {ds:List PyData} (h:IsTh S H v d) (t:IsThs S H vs ds):IsThs S H (v::vs) (d::ds)
end
section
theorem IsThs.length:∀{vs:List V} {ds:List PyData},IsThs S H vs ds->vs.length=ds.length
 |_,_,.nil=>rfl
 |_,_,.cons _ t=>by rw[zAe,zAe,IsThs.length t]
theorem IsThs.get:∀{vs:List V} {ds:List PyData} {i:Nat} {v:V},IsThs S H vs ds->vs[i]?=some v->∃d,ds[i]?=some d/\IsTh S H v d
 |_,_,_,_,.nil,e=>by simp at e
 |_,_,0,_,.cons h _,e=>by simp at e;subst e;exact⟨_,rfl,h⟩
 |_,_,i+1,v,.cons _ t,e=>by
  obtain⟨d,h1,h2⟩:=IsThs.get (i:=i) (v:=v) t (by simpa using e);exact⟨d,by simpa using h1,h2⟩
theorem IsThs.append:∀{vs ws:List V} {ds es:List PyData},IsThs S H vs ds->IsThs S H ws es->IsThs S H (vs++ws) (ds++es)
 |_,_,_,_,.nil,s=>s
 |_,_,_,_,.cons h t,s=>.cons h (IsThs.append t s)
theorem IsThs.take:∀{vs:List V} {ds:List PyData} n,IsThs S H vs ds->IsThs S H (vs.take n) (ds.take n)
 |_,_,0,_=>.nil
 |_,_,_+1,.nil=>.nil
 |_,_,n+1,.cons h t=>.cons h (IsThs.take n t)
theorem IsThs.drop:∀{vs:List V} {ds:List PyData} n,IsThs S H vs ds->IsThs S H (vs.drop n) (ds.drop n)
 |_,_,0,r=>r
 |_,_,_+1,.nil=>.nil
 |_,_,n+1,.cons _ t=>IsThs.drop n t
theorem IsThs.ints:∀(ns:UV),IsThs S H (ns.map V.int) (ns.map PyData.int)
 |[]=>.nil
 |n::ns=>.cons (.int n) (IsThs.ints ns)
mutual
theorem IsTh.keep(ht:∀b xs,H b=some (.tup xs)->H' b=some (.tup xs))(hs:∀b o,S b->H b=some o->H' b=some o)(hS:∀b o,S b->H b=some o->S' b):∀{v:V} {d:PyData},IsTh S H v d->IsTh S' H' v d
 |_,_,.non=>.non
 |_,_,.bl b=>.bl b
 |_,_,.int i=>.int i
 |_,_,.str x=>.str x
 |_,_,.lst s e r=>.lst (hS _ _ s e) (hs _ _ s e) (IsThs.keep ht hs hS r)
 |_,_,.tup e r=>.tup (ht _ _ e) (IsThs.keep ht hs hS r)
 |_,_,.dct s e=>.dct (hS _ _ s e) (hs _ _ s e)
theorem IsThs.keep(ht:∀b xs,H b=some (.tup xs)->H' b=some (.tup xs))(hs:∀b o,S b->H b=some o->H' b=some o)(hS:∀b o,S b->H b=some o->S' b):∀{vs:List V} {ds:List PyData},IsThs S H vs ds->IsThs S' H' vs ds
 |_,_,.nil=>.nil
 |_,_,.cons h t=>.cons (IsTh.keep ht hs hS h) (IsThs.keep ht hs hS t)
end
def tyD:PyData->String
 |.none=>"NoneType"
 |.bool _=>"bool"
 |.int _=>"int"
 |.str _=>"str"
 |.list _=>"list"
 |.tuple _=>"tuple"
 |.dict _=>"dict"
theorem IsTh.ty{K:Frag}(h:IsTh S H v d):TyOf K H v (.type (tyD d)):=by
 cases h with
 |non=>exact .non
 |bl b=>exact .bl b
 |int i=>exact .int i
 |str x=>exact .str x
 |lst s e r=>exact .lst e
 |tup e r=>exact .tup e
 |dct s e=>exact .dK e
def mY:PyData->Bool
 |.int _=>true
 |.bool _=>true
 |_=>false
def lG:PyData->Bool
 |.bool _=>true
 |_=>false
def du:PyData->Bool
 |.tuple _=>true
 |_=>false
theorem yH{K:Frag}(d:PyData):PySem.W.kitOne K (.type (tyD d)) (.type "int")=some (mY d):=by
 cases d
 .exact mX
 .exact tV
 .exact vf
 .exact vg
 .exact tY
 .exact qR
 .exact tZ
theorem vp{K:Frag}(d:PyData):PySem.W.kitOne K (.type (tyD d)) (.type "bool")=some (lG d):=by
 cases d
 .exact lE
 .exact qN
 .exact tW
 .exact tX
 .exact qQ
 .exact pM
 .exact qT
theorem ik{K:Frag}(d:PyData):PySem.W.kitOne K (.type (tyD d)) (.type "tuple")=some (du d):=by
 cases d
 .exact jZ
 .exact pK
 .exact qO
 .exact qP
 .exact pL
 .exact oK
 .exact pN
end
mutual
def sz:PyData->Nat
 |.none=>1
 |.bool _=>1
 |.int _=>1
 |.str _=>1
 |.list xs=>1+szs xs
 |.tuple xs=>1+szs xs
 |.dict kvs=>1+4*kvs.length
def szs:List PyData->Nat
 |[]=>0
 |x::xs=>sz x+szs xs
end
mutual
def tame:PyData->Bool
 |.none=>true
 |.bool _=>true
 |.int i=>decide (i.natAbs<2^128)
 |.str x=>decide (x.length<=10)&&x.cps.toList.all λc=>decide (c<16^8)
 |.list xs=>iQ xs
 |.tuple xs=>iQ xs
 |.dict kvs=>jc kvs
def iQ:List PyData->Bool
 |[]=>true
 |x::xs=>tame x&&iQ xs
def jc:List (PyData×PyData)->Bool
 |[]=>true
 | (.int i,.int j)::r=>decide (i.natAbs<2^128)&&decide (j.natAbs<2^128)&&jc r
 | (.str x,.int j)::r=>(decide (x.length<=10)&&x.cps.toList.all λc=>decide (c<16^8))&&decide (j.natAbs<2^128)&&jc r
 |_::_=>false
end
theorem oW{i:Int}(h:i.natAbs<2^128):(Str.ofString (toString i)).length<=130:=by
 have e:=int_text_length_le (a:=i) (k:=128) z02 (by
  by_cases h0:i.natAbs=0
  .rw[h0];decide
  .exact(Nat.log2_lt h0).mpr h)
 rw[PySem.ofString_length];lia
theorem ou:∀ts k acc,(textFrom k acc ts).length<=acc.length+piled ts
 |[],k,acc=>by show acc.length<=acc.length+0;lia
 |t::r,k,acc=>by
  have h:=ou r (k+1) (acc++(if k>0 then ", " else "":String)++t)
  have e:(acc++(if k>0 then ", " else "":String)++t).length<=acc.length+2+t.length:=by
   rw[strLen_append,strLen_append];split
   .show acc.length+2+t.length<=_;lia
   .show acc.length+0+t.length<=_;lia
  rw[piled_cons];show(textFrom (k+1) _ r).length<=_;lia
theorem vq(ts:List Str):(listText ts).length<=piled ts+2:=by
 have h:=ou ts 0 "[";unfold listText;rw[strLen_append];have e1:(("[":Str)).length=1:=rfl;have e2:(("]":Str)).length=1:=rfl;lia
theorem yI(ts:List Str):(Str.join ", " ts).length<=piled ts:=by
 by_cases h:ts=[]
 .subst h;show 0<=_;lia
 .have:=join_length_add ts h;lia
theorem u6(ts:List Str):(tupleText ts).length<=piled ts+3:=by
 have h:=yI ts;unfold tupleText;rw[strLen_append,strLen_append];have e1:(("(":Str)).length=1:=rfl
 have e2:((if ts.length==1 then ",)" else ")":String):Str).length<=2:=by
  split
  .exact zA3 2
  .exact Nat.le_succ 1
 lia
theorem vz(ts:List Str):(dictText ts).length<=piled ts+2:=by
 have h:=yI ts;unfold dictText;rw[strLen_append,strLen_append];have e1:(("{":Str)).length=1:=rfl;have e2:(("}":Str)).length=1:=rfl;lia
theorem pP{M:List (PyData×PyData)->Prop}(h0:M [])(h1:∀i j r,i.natAbs<2^128->j.natAbs<2^128->M r->M ((.int i,.int j)::r))(h2:∀x j r,(x.length<=10/\∀c∈x.cps.toList,c<16^8)->j.natAbs<2^128->M r->M ((.str x,.int j)::r)):∀kvs,jc kvs=true->M kvs
 |[],_=>h0
 | (k,v)::r,h=>by
  cases k<;>cases v<;>first | (simp[jc]at h;done)|skip
  all_goals
   simp only[jc,Bool.and_eq_true,z08,List.all_eq_true]at h
   first|exact h1 _ _ _ h.1.1 h.1.2 (pP h0 h1 h2 r h.2)|exact h2 _ _ _ h.1.1 h.1.2 (pP h0 h1 h2 r h.2)
theorem shownKv_le:∀kvs,jc kvs=true->piled (PyData.shownKv kvs)<=400*kvs.length:=by
 have e1:((": ":Str)).length=2:=rfl;refine pP (zA3 _) (λi j r a b ih=>?_) (λx j r a b ih=>?_)
 .have h1:=oW a;have h2:=oW b;show piled ((Str.ofString (toString i)++": " ++ Str.ofString (toString j))::PyData.shownKv r)<=_;rw[piled_cons,strLen_append,strLen_append,e1,zAe];lia
 .have h1:=StrLaws.reprText_len x a.2;have h2:=oW b;have:=a.1;show piled ((reprText x++": " ++ Str.ofString (toString j))::PyData.shownKv r)<=_;rw[piled_cons,strLen_append,strLen_append,e1,zAe];lia
mutual
theorem rQ:∀d,tame d=true->d.shown.length+2<=200*sz d
 |.none,_=>by decide +kernel
 |.bool true,_=>by decide +kernel
 |.bool false,_=>by decide +kernel
 |.int i,h=>by
  have:=oW (i:=i) (by simpa[tame]using h);show(Str.ofString (toString i)).length+2<=200*1;lia
 |.str x,h=>by
  have h':(decide (x.length<=10)&&x.cps.toList.all λc=>decide (c<16^8))=true:=h;rw[zAc]at h';have h1:x.length<=10:=by simpa using h'.1
  have:=StrLaws.reprText_len x λc hc=>by simpa using Zae.mp h'.2 c hc
  show(reprText x).length+2<=200*1;lia
 |.list xs,h=>by
  have h1:=jd xs (by simpa[tame]using h);have h2:=vq (PyData.shownAll xs);show(listText (PyData.shownAll xs)).length+2<=200*(1+szs xs);lia
 |.tuple xs,h=>by
  have h1:=jd xs (by simpa[tame]using h);have h2:=u6 (PyData.shownAll xs);show(tupleText (PyData.shownAll xs)).length+2<=200*(1+szs xs);lia
 |.dict kvs,h=>by
  have h1:=shownKv_le kvs (by simpa[tame]using h);have h2:=vz (PyData.shownKv kvs);show(dictText (PyData.shownKv kvs)).length+2<=200*(1+4*kvs.length);lia
theorem jd:∀xs,iQ xs=true->piled (PyData.shownAll xs)<=200*szs xs
 |[],_=>by show 0<=_;lia
 |x::xs,h=>by
  have h':(tame x&&iQ xs)=true:=h;rw[zAc]at h';have h1:=rQ x h'.1;have h2:=jd xs h'.2;show piled (PyData.shown x::PyData.shownAll xs)<=200*(sz x+szs xs);rw[piled_cons];lia
end
theorem qU:∀kvs,jc kvs=true->PyData.showableKv kvs=true:=by
 have big:∀{n:Int},n.natAbs<2^128->n.natAbs.log2<1920:=λ{n} hn=>by
  by_cases h0:n.natAbs=0
  .rw[h0];decide
  .exact Nat.lt_trans ((Nat.log2_lt h0).mpr hn) z02
 refine pP rfl (λi j r a b ih=>?_) (λx j r a b ih=>?_)<;>simp only[PyData.showableKv,PyData.showable,Bool.and_eq_true,z08]
 .exact⟨⟨big a,big b⟩,ih⟩
 .exact⟨⟨trivial,big b⟩,ih⟩
mutual
theorem oA:∀d,tame d=true->d.showable=true
 |.none,_=>rfl
 |.bool _,_=>rfl
 |.int i,h=>by
  have h':i.natAbs<2^128:=by simpa[tame]using h
  have:i.natAbs.log2<1920:=by
   by_cases h0:i.natAbs=0
   .rw[h0];decide
   .exact Nat.lt_trans ((Nat.log2_lt h0).mpr h') z02
  exact zAu this
 |.str _,_=>rfl
 |.list xs,h=>by
  exact je xs (by simpa[tame]using h)
 |.tuple xs,h=>by
  exact je xs (by simpa[tame]using h)
 |.dict kvs,h=>by
  exact qU kvs (by simpa[tame]using h)
theorem je:∀xs,iQ xs=true->PyData.showableAll xs=true
 |[],_=>rfl
 |x::xs,h=>by
  have h':(tame x&&iQ xs)=true:=h;rw[zAc]at h';simp only[PyData.showableAll,Bool.and_eq_true];exact⟨oA x h'.1,je xs h'.2⟩
end
theorem xJ:∀kvs,jc kvs=true->PyData.depthKv kvs=0:=by
 refine pP rfl (λi j r a b ih=>?_) (λx j r a b ih=>?_)<;>simp only[PyData.depthKv,PyData.depth,ih]<;>rfl
mutual
theorem lH:∀d,tame d=true->d.depth<=sz d
 |.none,_=>zAp _
 |.bool _,_=>zAp _
 |.int i,_=>zAp _
 |.str _,_=>zAp _
 |.list xs,h=>by
  have:=mZ xs (by simpa[tame]using h);simp only[PyData.depth,sz];lia
 |.tuple xs,h=>by
  have:=mZ xs (by simpa[tame]using h);simp only[PyData.depth,sz];lia
 |.dict kvs,h=>by
  have:=xJ kvs (by simpa[tame]using h);simp only[PyData.depth,sz];lia
theorem mZ:∀xs,iQ xs=true->PyData.depthAll xs<=szs xs
 |[],_=>zAp _
 |x::xs,h=>by
  have h':(tame x&&iQ xs)=true:=h;rw[zAc]at h';have h1:=lH x h'.1;have h2:=mZ xs h'.2;simp only[PyData.depthAll,szs];lia
end
section
variable{σ:St}{s:Shared}
theorem pQ:∀{ks:List (Key×Int)} {vs:List (Key×Value)} {es:List DictEntry},KV (ks.map λp=>(p.1,V.int p.2)) vs->Pairs (bZ P w) es vs->
  (∃as,ReadsAll s.heap (es.map (·.key)) ((ks.map λp=>(Gu p.1,PyData.int p.2)).map (·.1)) as/\as=[])/\∃as,ReadsAll s.heap (es.map (·.val)) ((ks.map λp=>(Gu p.1,PyData.int p.2)).map (·.2)) as/\as=[]
 |[],vs,es,r,p=>by
  cases r;cases p;exact⟨⟨_,.nil,rfl⟩,⟨_,.nil,rfl⟩⟩
 | (k,n)::ks,vs,es,r,p=>by
  cases r with
  |@cons a b l1 l2 h t=>
   cases p with
   |@cons e kv fN kvs' h1 h2 h3=>
    obtain⟨⟨_,i1,rfl⟩,⟨_,i2,rfl⟩⟩:=pQ (ks:=ks) t h3;obtain⟨q1,q2⟩:=h;have NV:ph b.1 e.key=true:=h1;rw[<-q1]at NV;obtain⟨tv,RW⟩:∃t,b.2=Value.int n t:=q2;rw[RW]at h2;refine⟨⟨_,?_,rfl⟩,⟨_,?_,rfl⟩⟩
    .show ReadsAll s.heap (e.key::fN.map (·.key)) (Gu k::_) ([]++[]);rcases cj NV with⟨i,tk,ei,ev⟩|⟨x,tk,ei,ev⟩
     .have ei:k=Sum.inl i:=ei;rw[ev,ei];exact .cons (.int _ _) i1
     .have ei:k=Sum.inr x:=ei;rw[ev,ei];exact .cons (.str _ _) i1
    .show ReadsAll s.heap (e.val::fN.map (·.val)) (PyData.int n::_) ([]++[]);rw[h2];exact .cons (.int _ _) i2
mutual
theorem IsTh.reads(I:Inv X z06 σ H s):∀{v:V} {d:PyData} {u:Value},IsTh S H v d->RelV v u->∃as,Reads s.heap u d as/\∀a∈as,S a
 |_,_,_,.non,r=>by cases(show _=Value.none from r);exact⟨[],.none,λ_ h=>nomatch h⟩
 |_,_,_,.bl b,r=>by cases(show _=Value.bool b from r);exact⟨[],.bool b,λ_ h=>nomatch h⟩
 |_,_,_,.int i,r=>by obtain⟨t,rfl⟩:=r;exact⟨[],.int i t,λ_ h=>nomatch h⟩
 |_,_,_,.str x,r=>by obtain⟨t,rfl⟩:=r;exact⟨[],.str x t,λ_ h=>nomatch h⟩
 |_,_,_,@IsTh.lst _ _ a xs ds hs e t,r=>by
  cases(show _=Value.ref a from r)
  obtain⟨_,its,n,rv,ho⟩:=(I.hok a _ e)
  obtain⟨as,h1,h2⟩:=IsThs.reads I t rv;refine⟨a::as,.list ho rfl rfl (by simpa using h1),λb hb=>?_⟩;rcases zAo.mp hb with z|z
  .rw[z];exact hs
  .exact h2 b z
 |_,_,_,@IsTh.tup _ _ a xs ds e t,r=>by
  cases(show _=Value.ref a from r)
  obtain⟨_,its,rv,o,ho,hc,n,hd⟩:=(show ObjOk X.prog X.w H s.heap a (.tup xs)from I.hok a _ e)
  obtain⟨as,h1,h2⟩:=IsThs.reads I t rv;exact⟨as,.tuple ho hc hd (by simpa using h1),h2⟩
 |_,_,_,@IsTh.dct _ _ a ks hs e,r=>by
  cases(show _=Value.ref a from r)
  obtain⟨_,_,vs,rel,o,es,ep,ho,hx,hd,_,hp,_⟩:=(show ObjOk X.prog X.w H s.heap a (.dK _)from I.hok a _ e)
  obtain⟨⟨_,i1,rfl⟩,⟨_,i2,rfl⟩⟩:=pQ (s:=s) rel hp;refine⟨a::[]++[],.dict ho hx.1 hd i1 i2,λb hb=>?_⟩;rw[show b=a by simpa using hb];exact hs
theorem IsThs.reads(I:Inv X z06 σ H s):∀{vs:List V} {ds:List PyData} {us:List Value},IsThs S H vs ds->Vals vs us->∃as,ReadsAll s.heap us ds as/\∀a∈as,S a
 |_,_,_,.nil,r=>by cases r;exact⟨[],.nil,λ_ h=>nomatch h⟩
 |_,_,_,.cons h t,r=>by
  cases r with
  |cons r1 r2=>
   obtain⟨as,h1,h2⟩:=IsTh.reads I h r1;obtain⟨bs,h3,h4⟩:=IsThs.reads I t r2;exact⟨as++bs,.cons h1 h3,λb hb=>(zA6.mp hb).elim (h2 b) (h4 b)⟩
end
theorem rR(hg:X.A.guards=some [])(hS:¬S sysModules):dH X (.builtin "repr") (λxs H Q=>∃v d,xs=[v]/\IsTh S H v d/\tame d=true/\sz d<=4000/\X.A.units+(sz d+1)<cLine/\Q (.str d.shown) H):=by
 intro z06 s σ H xs us Q I r h;obtain⟨v,d,rfl,th,tm,hz,hu,q⟩:=h;obtain⟨u,rfl,ru⟩:=vals1 r;have hl:=rQ d tm;have hsz:d.shown.length<=sizeLine:=by rw[sizeLine_eq];lia
 have fin:∀t h' tk,(∀b o,s.heap.get? b=some o->h'.get? b=some o)->EP X z06 σ Q (.str d.shown t) {s with heap:=h',toks:=tk}:=λt h' tk k=>⟨.str d.shown,H,I.kept k,⟨t,rfl⟩,q⟩
 have iN:=oA d tm
 cases th with
 |non=>cases(show u=Value.none from ru);exact PySem.P.repr_of_none (fin _ s.heap _ λ_ _ e=>e)
 |bl b=>cases(ru);exact PySem.P.repr_of_bool (fin _ s.heap _ λ_ _ e=>e)
 |int i=>
  obtain⟨t,rfl⟩:=ru;have:i.natAbs.log2<1920:=by simpa[PyData.showable]using iN
  exact PySem.P.repr_of_int this (fin _ s.heap _ λ_ _ e=>e)
 |str x=>obtain⟨t,rfl⟩:=ru;exact PySem.P.repr_of_str (fin _ s.heap _ λ_ _ e=>e) hsz
 |@lst a xs ds hs e t=>
  obtain⟨as,rd,ha⟩:=(IsTh.lst hs e t).reads I ru;cases(show u=Value.ref a from ru);exact repr_of_reads' rd iN (λ_ hm=>hS (ha _ hm)) hg (by have:=lH _ tm;lia) (λb o e=>e) (λh' t tk k=>fin t h' tk k) hsz
 |@tup a xs ds e t=>
  obtain⟨as,rd,ha⟩:=(IsTh.tup (S:=S) e t).reads I ru;cases(show u=Value.ref a from ru);exact repr_of_reads' rd iN (λ_ hm=>hS (ha _ hm)) hg (by have:=lH _ tm;lia) (λb o e=>e) (λh' t tk k=>fin t h' tk k) hsz
 |@dct a ks hs e=>
  obtain⟨as,rd,ha⟩:=(IsTh.dct hs e).reads I ru;cases(show u=Value.ref a from ru);exact repr_of_reads' rd iN (λ_ hm=>hS (ha _ hm)) hg (by have:=lH _ tm;lia) (λb o e=>e) (λh' t tk k=>fin t h' tk k) hsz
end
section
theorem rT(hu:X.A.units<cLine):OpR X (compareOp .Eq) (λx y H Q=>∃a b xs,x=.ref a/\y=.ref b/\SqT X.K H a xs/\SqT X.K H b []/\Q (.bl xs.isEmpty) H):=by
 intro z06 s σ H x y v u Q I rx ry h;obtain⟨a,b,xs,rfl,rfl,ha,hb,q⟩:=h;cases rx;cases ry;obtain⟨its,r1,p1,_⟩:=I.tuple ha;obtain⟨aT,r2,p2,_⟩:=I.tuple hb;have e2:aT=[]:=r2.zero;subst e2;refine PySem.SeqAt.eq_tupleAt (e:=λ_=>true) p1 p2 hu (λj h1 h2=>absurd h2 z01) ?_
 have e3:((List.range (min its.toArray.size ([]:List Value).toArray.size)).all (λ_=>true)&&its.toArray.size==([]:List Value).toArray.size)=xs.isEmpty:=by
  have:=r1.length
  cases its with
  |nil=>
   cases r1;rfl
  |cons a r=>cases xs with
   |nil=>simp at this
   |cons b r'=>simp
 rw[e3];exact⟨.bl _,H,I,rfl,q⟩
end
section
theorem JF(hj:s.heap.IsTupleIter j t i)(ht:s.heap.IsTuple t its)(hx:its[i]?=some x)
  (hQ:∀h',h'.IsTupleIter j t (i+1)->Heap.SameBut j s.heap h'->Q x {s with heap:=h'}):wpAny (model prog w) A (Builtin.SmallTypes.nextOf (.ref j)) Q E s:=by
 obtain⟨o,ho,hc,hd⟩:=id hj;obtain⟨p,hp,_,m,hm⟩:=ht;refine zAt (wpAny_callSpecial?_slot (name:=Str.ofString "__next__") hj.typeIs F.slot_tuple_iterator_next (wpAny_call_entry F.slot_tuple_iterator_next hj.typeIs F.entry_tuple_iterator_next ?_ (F.args_tuple_iterator_next_1 _)));show wpAny _ _ (field (.ref j) 0>>=_) _ _ s;refine zAt (wpAny_field ho hd (x:=.ref t) rfl ?_);refine zAt (wpAny_field ho hd (x:=.int i 0) rfl (zAt (wpAny_seqItems hp hm ?_)));simp only[Int.toNat_natCast,hx]
 refine zAt (wpAny_setField ho hd z01 (zAx ⟨x,rfl,zAx (hQ _ ⟨_,Heap.get?_update_self _ ho (Obj.isFreed_of_fields (Obj.data_mapFields hd _)),(Obj.cls_mapFields ..).trans hc,by
  rw[Obj.data_mapFields hd]
  simp[rawInt]⟩ (Heap.SameBut.update ..))⟩))
theorem xK(hh:A.handled=none)(hj:s.heap.IsTupleIter j t i)(ht:s.heap.IsTuple t its)(hx:its[i]?=none)
  (hE:∀h' e,Heap.ExtBut j s.heap h'->(∃o,h'.get? e=some o/\o.cls=.type "StopIteration")->E (.ref e) {s with heap:=h'}):wpAny (model prog w) A (Builtin.SmallTypes.nextOf (.ref j)) Q E s:=by
 obtain⟨o,ho,hc,hd⟩:=id hj;obtain⟨p,hp,_,m,hm⟩:=ht;refine zAt (wpAny_callSpecial?_slot (name:=Str.ofString "__next__") hj.typeIs F.slot_tuple_iterator_next (wpAny_call_entry F.slot_tuple_iterator_next hj.typeIs F.entry_tuple_iterator_next ?_ (F.args_tuple_iterator_next_1 _)));show wpAny _ _ (field (.ref j) 0>>=_) _ _ s;refine zAt (wpAny_field ho hd (x:=.ref t) rfl ?_);refine zAt (wpAny_field ho hd (x:=.int i 0) rfl (zAt (wpAny_seqItems hp hm ?_)));simp only[Int.toNat_natCast,hx];refine zAt (wpAny_rule (zAt (wpAny_setField ho hd z01 ?_)));refine zAt ?_;refine zAt (Zac (zAt (m:=firstArgMember _ _) (wpAny_of_eq (a:=Value.none) (by first|rfl | (simp only[firstArgMember];rfl)) (Zac ?_ (by size_fits)))) (by size_fits));simp only[raiseNew];refine zAt (wpAny_handled ?_)
 first
  |rw[show A.in1.handled=none from hh]
  |rw[hh]
 exact zAt (zAx (wpAny_throw (hE _ _ (((Heap.SameBut.update ..).extBut.push _).push _) ⟨_,zB1 _ rfl,rfl⟩)))
end
def Itz(K:Frag)(a b:Addr):It:=
 ⟨λi H=>∃xs ys x y,SqT K H a xs/\SqL K H b ys/\xs[i]?=some x/\ys[i]?=some y,
  λi H v H'=>∃T,H T=none/\v=.ref T/\∀xs ys,SqT K H a xs->SqL K H b ys->∃x y,xs[i]?=some x/\ys[i]?=some y/\H'=upd H T (.tup [x,y]),
  λi H=>∃xs,SqT K H a xs/\xs.length<=i⟩
section
end
theorem IsTh.same(h:IsTh S H v d)(s:Same H H'):IsTh S H' v d:=h.keep (λb xs e=>s b _ e) (λb o _ e=>s b o e) λ_ _ z _=>z
theorem IsThs.same(h:IsThs S H v d)(s:Same H H'):IsThs S H' v d:=h.keep (λb xs e=>s b _ e) (λb o _ e=>s b o e) λ_ _ z _=>z
theorem Same.upd(h:H D=none):Same H (upd H D o):=λb u e=>by rw[aA (aD e h)];exact e
theorem Same.updR(s:Same H H')(h:H' D=none):Same H (L2.upd H' D o):=s.trans (Same.upd h)
theorem oE{K:Frag}(f:PyData->Bool){H0:Hp}{Fin:List V->Hp->Prop}(hT:H0 a=some (.tup xs))(th:IsThs S H0 xs ds)(hl:xs.length<sizeLine)
  (kD:∀v d H Q,d∈ds->Same H0 H->IsTh S H v d->(∀H',Same H H'->Q (.bl (f d)) H')->te (dQ.set j (some v)) H Q)
  (fin:∀H',Same H0 H'->Fin (ds.map λd=>V.bl (f d)) H'):oh (Itt K a) (bG j) tU te Fin dQ H0:=by
 have hlen:=th.length;refine⟨λi m ys σ H=>m=xs.length-i/\i<=xs.length/\ys=(ds.take i).map (λd=>V.bl (f d))/\(∀o,σ.set j o=dQ.set j o)/\Same H0 H,⟨_,rfl,zAp _,rfl,λ_=>rfl,Same.refl _⟩,?_⟩;rintro i m ys σ H ⟨rfl,hi,rfl,fR,hs⟩;have sq:SqT K H a xs:=SqT.of (hs _ _ hT);refine⟨by rw[zA1,zAd];lia,?_⟩;by_cases ay:i<xs.length
 .refine .inr ⟨⟨xs,xs[i],sq,by simp[ay]⟩,λx H' y=>?_⟩;obtain⟨e,y⟩:=y;subst e;have hx:=y xs sq;obtain⟨d,hd,ht⟩:=(th.same hs).get hx;show te (σ.set j (some x)) H' _;rw[fR]
  refine kD x d H' _ (zB6 hd) hs ht λH2 s2=>⟨xs.length-(i+1),z00,rfl,ay,?_,λo=>by rw[List.set_set],hs.trans s2⟩
  rw[zAj,hd];simp
 .have e:i=xs.length:=z00
  subst e;refine .inl ⟨⟨xs,sq,zA3 _⟩,?_⟩;rw[hlen,zAm];exact fin H hs
theorem vA{ds:List PyData}:ds.map (λd=>V.bl (f d))=(ds.map f).map V.bl:=by rw[zAr];rfl
theorem CN{ds:List PyData}:(ds.map f).all id=ds.all f:=by rw[List.all_map];rfl
section
theorem jT:dH X (.type "list") (λxs H Q=>∃p ys,xs=[.ref p]/\SqT X.K H p ys/\∀l,H l=none->l≠sysModules->Q (.ref l) (upd H l (.lst ys))):=by
 intro z06 s σ H xs us Q I r h;obtain⟨p,ys,rfl,hq,q⟩:=h;obtain⟨u,rfl,rx⟩:=vals1 r;cases rx;obtain⟨its,r',pl,hz⟩:=I.tuple hq;have hlen:=r'.length;obtain⟨o,ho,hc,n,hd⟩:=pl;refine call_list_seq p (.inr rfl) ho hc hd (λh' c' kp e=>?_) (by simp only[List.size_toArray];lia);exact⟨.ref s.heap.objs.size,_,I.laid (t':=s.toks) kp (zA3 _) (show ObjOk X.prog X.w _ h' _ (.lst ys)from⟨hz,its,c',r',e⟩),rfl,q _ (I.hok.fresh (zA3 _)) (Zar I.big)⟩
end
section
def yJ(r r' E9:R2)(ta tb tc td:TE):TE:=λσ H Q=>ta σ H λx H1=>tb σ H1 λy H2=>r x y H2 λz H3=>∃k,z=.bl k /\
 (if k=true then tc σ H3 λx2 H4=>r' y x2 H4 λz2 H5=>∃k2,z2=.bl k2/\(if k2=true then td σ H5 λx3 H6=>E9 x2 x3 H6 Q else Q (.bl false) H5)else Q (.bl false) H3)
theorem Am(h1:OpR X (compareOp o1) r)(h2:OpR X (compareOp o2) r')(h3:OpR X (compareOp o3) E9)(ha:PE X a ta)(hb:PE X b tb)(hc:PE X c tc)(hd:PE X d td)
  (hm:lastMarks [o1,o2,o3] [b,c,d]=false:=by with_unfolding_all rfl):PE X (.Compare a [o1,o2,o3] [b,c,d] pos) (yJ r r' E9 ta tb tc td):=by
 intro z06 s σ H Q I h
 refine Compare_chain (thn (ha z06 s σ H _ I h) λv s1 ⟨x,H1,I1,r1,q1⟩=>chain_link (thn (hb z06 s1 σ H1 _ I1 q1) λu s2 ⟨y,H2,I2,r2,q2⟩=>
  thn (h1 z06 s2 σ H2 x y v u _ I2 r1 r2 q2) λg s3 ⟨z,H3,I3,r3,k,e,q3⟩=>?_)) hm
 subst e;cases r3;refine wpAny_truthy_bool ?_
 cases k with
 |false=>exact ite_ff ⟨.bl false,H3,I3,rfl,q3⟩
 |true=>
  refine ite_tt (chain_link (thn (hc z06 s3 σ H3 _ I3 q3) λw' s4 ⟨z',H4,I4,r4,q4⟩=>thn (h2 z06 s4 σ H4 y z' u w' _ I4 r2 r4 q4) λg2 s5=>?_));rintro⟨z5,H5,I5,r5,k2,e2,q5⟩;subst e2;cases r5;refine wpAny_truthy_bool ?_
  cases k2 with
  |false=>exact ite_ff ⟨.bl false,H5,I5,rfl,q5⟩
  |true=>exact ite_tt (chain_last (thn (hd z06 s5 σ H5 _ I5 q5) λw6 s6=>by rintro⟨z6,H6,I6,r6,q6⟩;exact h3 z06 s6 σ H6 z' z6 w' w6 Q I6 r4 r6 q6))
end
def Ev(σ:St)(H:Hp)(t:TE)(v:V):Prop:=∀Q,Q v H->t σ H Q
section
theorem eZ:Ev σ H (tC v) v:=λ_ h=>h
theorem fO(h:σ[i]?=some (some v)):Ev σ H (iz i) v:=λ_ q=>⟨v,h,q⟩
theorem u9(a:Ev σ H ta (.int i))(b:Ev σ H tb (.int j)):Ev σ H (tOp (rI0 g) ta tb) (g i j):=λ_ q=>a _ (b _ ⟨i,j,rfl,rfl,q⟩)
theorem CP(a:Ev σ H ta (.int i))(b:Ev σ H tb (.int j))(c:C i j):Ev σ H (tOp (rI C g) ta tb) (g i j):=λ_ q=>a _ (b _ ⟨i,j,rfl,rfl,c,q⟩)
theorem cO{p q:Int->Int->Bool}(a:Ev σ H ta (.int i))(b:Ev σ H tb (.int j))(c:Ev σ H tc (.int k)):
  Ev σ H (xn (rI0 λi j=>.bl (p i j)) (rI0 λi j=>.bl (q i j)) ta tb tc) (.bl (p i j&&q j k)):=λQ h=>a _ (b _ ⟨i,j,rfl,rfl,_,rfl,by
 cases e:p i j with
 |false=>
  rw[e]at h;exact aX h
 |true=>
  rw[e]at h
  exact bh (c _ ⟨j,k,rfl,rfl,h⟩)⟩)
theorem An{p q r:Int->Int->Bool}(a:Ev σ H ta (.int i))(b:Ev σ H tb (.int j))(c:Ev σ H tc (.int k))(d:Ev σ H td (.int l)):
  Ev σ H (yJ (rI0 λi j=>.bl (p i j)) (rI0 λi j=>.bl (q i j)) (rI0 λi j=>.bl (r i j)) ta tb tc td) (.bl (p i j&&(q j k&&r k l))):=λQ h=>a _ (b _ ⟨i,j,rfl,rfl,_,rfl,by
 cases e:p i j with
 |false=>
  rw[e]at h;exact aX h
 |true=>
  rw[e]at h;refine bh (c _ ⟨j,k,rfl,rfl,_,rfl,?_⟩)
  cases e2:q j k with
  |false=>
   rw[e2]at h;exact aX h
  |true=>
   rw[e2]at h
   exact bh (d _ ⟨k,l,rfl,rfl,h⟩)⟩)
theorem jt(x:Ev σ H ta (.bl b))(y:b=true->Ev σ H tb (.bl c)):Ev σ H (IK ta tb) (.bl (b&&c)):=λQ h=>x _ ⟨b,rfl,by
 cases e:b with
 |false=>
  rw[e]at h;exact aX h
 |true=>
  rw[e]at h
  exact bh (y e _ h)⟩
end
structure Plain(e:Expr):Prop where
 eq:∀es env,starEach (e::es) env=(false,eval e env)::starEach es env
theorem ju{c j p}:Plain (.Constant c j p):=⟨λ_ _=>rfl⟩
theorem kE{x p}:Plain (.Name x p):=⟨λ_ _=>rfl⟩
theorem jw{es k p}:Plain (.Tuple es k p):=⟨λ_ _=>rfl⟩
theorem kI{es p}:Plain (.List es p):=⟨λ_ _=>rfl⟩
theorem kJ{f as ks p}:Plain (.Call f as ks p):=⟨λ_ _=>rfl⟩
theorem plain_bin{a o b p}:Plain (.BinOp a o b p):=⟨λ_ _=>rfl⟩
theorem pR{o a p}:Plain (.UnaryOp o a p):=⟨λ_ _=>rfl⟩
theorem ni{a b p}:Plain (.Subscript a b p):=⟨λ_ _=>rfl⟩
theorem kO{a b c p}:Plain (.ListComp a b c p):=⟨λ_ _=>rfl⟩
theorem nj{a b c p}:Plain (.Compare a b c p):=⟨λ_ _=>rfl⟩
section
theorem aq(ha:PE X e te)(hr:PA X es t)(hp:Plain e:=by first|exact kE|exact ju|exact kJ|exact jw|exact kI|exact plain_bin|exact ni|exact pR|exact plain_dict|exact kO|exact nj):PA X (e::es) (bU te t):=
 aM ha hr (hp.eq _ _)
end
structure AA(X:Cx)(es:List Expr)(t:TA):Prop where
 run:PA X es t
section
theorem bu:AA X [] gW:=⟨aj⟩
theorem Gv(ha:PE X e te)(hr:AA X es t)(hp:Plain e:=by first|exact kE|exact ju|exact kJ|exact jw|exact kI|exact plain_bin|exact ni|exact pR|exact plain_dict|exact kO|exact nj):AA X (e::es) (bU te t):=
 ⟨aM ha hr.run (hp.eq _ _)⟩
theorem yK{x1}(h:AA X es t):PE X (.Tuple es x1 pos) (mW t):=bA h.run
theorem Gw(h:AA X es t):PE X (.List es pos) (xq t):=dJ h.run
end
inductive IsInts:List Expr->UV->Prop
 |nil:IsInts [] []
 |cons {i:Int} {j:Nat} {p:Pos} {es:List Expr} {is:UV}:IsInts es is->IsInts (.Constant (.int i) j p::es) (i::is)
def rW(is:UV):TA:=λ_ H Q=>Q (is.map V.int) H
theorem lJ:∀{es:List Expr} {is:UV},IsInts es is->PA X es (rW is)
 |_,_,.nil=>λ_ _ _ _ H Q I h=>Calls.spliced_nil ⟨[],H,I,.nil,h⟩
 |_,_,@IsInts.cons i j p es is r=>by
  have h:=aq (X:=X) (au (i:=i) (j:=j) (pos:=p)) (lJ r);exact h
theorem JG{a b c p q r}:PE X (.Tuple [.Constant (.int i) a p,.Constant (.int j) b q] c r) (mW (rW [i,j])):=bA (lJ (.cons (.cons .nil)))
theorem Gx{a b c d p q q' r r'}:PE X (.Tuple [.Constant (.int i) a p,.BinOp (.Constant (.int j) b q) .Pow (.Constant (.int k) d q') r'] c r) (mW (bU (tC (.int i)) (bU (tOp (rI xj λi j=>.int (i^j.toNat)) (tC (.int j)) (tC (.int k))) gW))):=
 bA (aq au (aq (aO tK au au) aj))
theorem dW{k:Nat}{pos:Pos}{K:Frag}{n:Nat}(hK:X.K=K)(hc:X.calm=true)(h:PGs X es t)(hn:(assignEach es X.env).length=n:=by rfl)(bE:(assignEach es X.env).findIdx? (·.1)=none:=by rfl):
  PG X (.Tuple es k pos) (lA K n t):=by
 subst hK;exact bQ hc h hn bE
structure BE(X:Cx)(e:Expr)(t:TE):Prop where
 run:PE X e t
section
theorem aQ(ha:BE X e te)(hr:AA X es t)(hp:Plain e:=by first|exact kE|exact ju|exact kJ|exact jw|exact kI|exact plain_bin|exact ni|exact pR|exact plain_dict|exact kO|exact nj):AA X (e::es) (bU te t):=Gv ha.run hr hp
theorem vB(h:BE X e te):PE X e te:=h.run
theorem fj{j}:BE X (.Constant (.int i) j pos) (tC (.int i)):=⟨au⟩
theorem rY{j}:BE X (.Constant (.bool b) j pos) (tC (.bl b)):=⟨iD⟩
theorem uc{j}:BE X (.Constant .none j pos) (tC .non):=⟨jW⟩
theorem d9{j}:BE X (.Constant (.str x) j pos) (tC (.str x)):=⟨dX⟩
theorem JH{j q}:BE X (.UnaryOp .USub (.Constant (.int i) j q) pos) (tUn (rU λi=>.int (-i)) (tC (.int i))):=⟨uY pB au⟩
theorem JK{j j' q q'}:BE X (.BinOp (.Constant (.int i) j q) .Pow (.Constant (.int k) j' q') pos) (tOp (rI xj λi j=>.int (i^j.toNat)) (tC (.int i)) (tC (.int k))):=⟨aO tK au au⟩
theorem gZ{x1}(h:AA X es t):BE X (.Tuple es x1 pos) (mW t):=⟨bA h.run⟩
theorem cz(h:AA X es t):BE X (.List es pos) (xq t):=⟨dJ h.run⟩
theorem nq{a b c p q r}:BE X (.Tuple [.Constant (.int i) a p,.Constant (.int j) b q] c r) (mW (rW [i,j])):=⟨JG⟩
theorem Gy{a b c d p q q' r r'}:BE X (.Tuple [.Constant (.int i) a p,.BinOp (.Constant (.int j) b q) .Pow (.Constant (.int k) d q') r'] c r) (mW (bU (tC (.int i)) (bU (tOp (rI xj λi j=>.int (i^j.toNat)) (tC (.int j)) (tC (.int k))) gW))):=⟨Gx⟩
end
structure BS(X:Cx)(st:Stmt)(t:TS):Prop where
 run:PS X st t
structure BSs(X:Cx)(HK:List Stmt)(t:TS):Prop where
 run:PSs X HK t
section
variable{st:Stmt}{pos:Pos}
theorem jU(h:BSs X rest t):PSs X rest t:=h.run
theorem aH(h1:BS X st t)(h2:BSs X rest u):BSs X (st::rest) (Gf t u):=⟨aB h1.run h2.run⟩
theorem bx(h1:BS X st t):BSs X [st] t:=⟨aF h1.run⟩
theorem xM(hN:X.N.Nodup)(hi:X.N[i]?=some x)(hx:Loc X.env.scope x)(he:BE X e te)(hs:swapsWith e (some (.Name x pos')) pos.line X.env=pure false:=by rfl)(hf:X.fn x=true\/X.env.scope.names.lookup x=some .local:=by first|exact .inl rfl|exact .inr rfl|assumption):
  BS X (.Assign [.Name x pos'] e pos) (wX te (bG i)):=⟨tE hN hi hx he.run hs hf⟩
theorem fQ(he:BE X e te):BS X (.Return (some e) pos) (Jp te):=⟨aN he.run⟩
theorem il(ho:OpR X (binaryOp op) r)(ha:BE X a ta)(hb:BE X b tb):BE X (.BinOp a op b pos) (tOp r ta tb):=⟨aO ho ha.run hb.run⟩
theorem lK(hr:IxR X r)(ha:BE X a ta)(hb:BE X b tb)(hs:tO b):BE X (.Subscript a b pos) (tOp r ta tb):=⟨J0 hr ha.run hb.run hs⟩
end
theorem pgn{X:Cx}{pos:Pos}(i:Nat)(hN:X.N.Nodup)(hi:X.N[i]?=some x:=by rfl)(hx:Loc X.env.scope x:=by exact Or.inl rfl)(hf:X.fn x=true\/X.env.scope.names.lookup x=some .local:=by first|exact .inl rfl|exact .inr rfl):PG X (.Name x pos) (bG i):=bw hN hi hx hf
theorem pss{pos pos':Pos}(i:Nat)(hN:X.N.Nodup)(he:PE X e te)(hi:X.N[i]?=some x:=by rfl)(hx:Loc X.env.scope x:=by exact Or.inl rfl)(hs:swapsWith e (some (.Name x pos')) pos.line X.env=pure false:=by rfl)(hf:X.fn x=true\/X.env.scope.names.lookup x=some .local:=by first|exact .inl rfl|exact .inr rfl):PS X (.Assign [.Name x pos'] e pos) (wX te (bG i)):=tE hN hi hx he hs hf
theorem fU{pos pos':Pos}(i:Nat)(hN:X.N.Nodup)(he:BE X e te)(hi:X.N[i]?=some x:=by rfl)(hx:Loc X.env.scope x:=by exact Or.inl rfl)(hs:swapsWith e (some (.Name x pos')) pos.line X.env=pure false:=by rfl)(hf:X.fn x=true\/X.env.scope.names.lookup x=some .local:=by first|exact .inl rfl|exact .inr rfl):BS X (.Assign [.Name x pos'] e pos) (wX te (bG i)):=xM hN hi hx he hs hf
theorem pX(hr:IxR X r)(ha:PE X a ta)(hb:PE X b tb)(hs:tO b:=by exact λ_ _=>rfl):PE X (.Subscript a b pos) (tOp r ta tb):=J0 hr ha hb hs
theorem zL{n:Nat}(h:Nat.ble n 1000=true:=by rfl):n<=sizeLine:=Zah (Nat.le_of_ble_eq_true h) z02
theorem cI(h:Caps X bo N r)(h1:X.N[i]?=some x:=by rfl)(h2:X.env.kindOf x=some .cell:=by rfl)(h3:bo.cells.lookup x=X.env.cells.lookup x:=by rfl)(h4:bo.kindOf x=some .cell:=by rfl):Caps X bo (x::N) (some i::r):=⟨⟨h1,.inl h2,h3,.inl h4⟩,h⟩
theorem fQS{N P:List Str}{sc:Scope}(h1:sc.kind=.function:=by rfl)(h2:sc.isCoroutine=false:=by rfl)(h3:sc.isGenerator=false:=by rfl)(h4:N.Nodup:=by decide +kernel)(h5:N.take P.length=P:=by rfl)(h6:∀x∈P,sc.names.lookup x=some .local\/sc.names.lookup x=some .cell:=by decide +kernel)(h7:∀y∈sc.names,y.2≠.free:=by decide +kernel):FnScope N P sc:=⟨h1,h2,h3,h4,h5,h6,h7⟩
section
end
def ThE(S:Addr->Prop)(σ:St)(H:Hp)(t:TE)(d:PyData):Prop:=∀H0,Same H H0->∀Q,(∀v H',Same H0 H'->IsTh S H' v d->Q v H')->t σ H0 Q
def ThA(S:Addr->Prop)(σ:St)(H:Hp)(t:TA)(ds:List PyData):Prop:=∀H0,Same H H0->∀Q,(∀vs H',Same H0 H'->IsThs S H' vs ds->Q vs H')->t σ H0 Q
section
theorem Ls(h:∀H',IsTh S H' v d):ThE S σ H (tC v) d:=λH0 _ Q q=>q v H0 (Same.refl _) (h H0)
theorem CQ:ThE S σ H (tC (.int i)) (.int i):=Ls λ_=>.int i
theorem JL:ThE S σ H (tC .non) .none:=Ls λ_=>.non
theorem vC(h:∀H',Ev σ H' t (.int i)):ThE S σ H t (.int i):=λH0 _ Q q=>h H0 _ (q _ H0 (Same.refl _) (.int i))
theorem kW:ThA S σ H gW []:=λH0 _ Q q=>q [] H0 (Same.refl _) .nil
theorem bB(h1:ThE S σ H te d)(h2:ThA S σ H ta ds):ThA S σ H (bU te ta) (d::ds):=λH0 s0 Q q=>
 h1 H0 s0 _ λv H1 s1 t1=>h2 H1 (s0.trans s1) _ λvs H2 s2 t2=>q (v::vs) H2 (s1.trans s2) (.cons (t1.same s2) t2)
theorem Gz(is:UV):ThA S σ H (rW is) (is.map PyData.int):=λH0 _ Q q=>q _ H0 (Same.refl _) (IsThs.ints is)
theorem xN(h:ThA S σ H ta ds)(hl:ds.length<=4000):ThE S σ H (mW ta) (.tuple ds):=λH0 s0 Q q=>
 h H0 s0 _ λvs H1 s1 t1=>⟨by rw[t1.length,sizeLine_eq];lia,λp hp=>q _ _ (s1.updR hp) (.tup aa (t1.same (Same.upd hp)))⟩
end
section
theorem bN(h:D.nx σ H):Ck D σ H:=h
theorem aC(h:t {D with nx:=u D} σ H):Gf t u D σ H:=h
theorem ir(h:∀c,(∀ah H',u D ah H'->c ah H')->t {D with nx:=c} σ H):Gf t u D σ H:=h (u D) λ_ _ z=>z
theorem aP(h:te σ H λx H1=>g x σ H1 D.nx):wX te g D σ H:=h
theorem dZ(h:te σ H D.rt):Jp te D σ H:=h
theorem fV(h:ta σ H λxs H1=>xs.length<=sizeLine/\∀p,H1 p=none->Q (.ref p) (upd H1 p (.lst xs))):xq ta σ H Q:=h
theorem aJ(h:R (σ.set i (some v)) H):bG i v σ H R:=h
end
theorem CT{K:Frag}(f:PyData->PyData->Bool){H0:Hp}{Fin:List V->Hp->Prop}(inv:St->Prop)(h0:inv dQ)
  (ea:H0 a=some (.tup xs)) (eb:H0 b=some (.lst zs)) (r1:IsThs S H0 xs ds) (r2:IsThs S' H0 zs es) (hl:ds.length=es.length) (hz:xs.length<sizeLine)
  (step:∀T x z d e σ H (R:St->VK),d∈ds->e∈es->inv σ->Same H0 H->H T=some (.tup [x,z])->IsTh S H x d->IsTh S' H z e->(∀aw H',inv aw->Same H H'->R aw (.bl (f d e)) H')->g (.ref T) σ H λaw H2=>te aw H2 (R aw))
  (fin:∀H',Same H0 H'->Fin ((List.zipWith f ds es).map V.bl) H'):oh (Itz K a b) g tU te Fin dQ H0:=by
 have l1:=r1.length;have l2:=r2.length;refine⟨λi m ys σ H=>m=xs.length-i/\i<=xs.length/\ys=((List.zipWith f ds es).take i).map V.bl/\inv σ/\Same H0 H,⟨_,rfl,zAp _,rfl,h0,Same.refl _⟩,?_⟩;rintro i m ys σ H ⟨rfl,hi,rfl,fR,hs⟩;have q1:SqT K H a xs:=SqT.of (hs _ _ ea);have q2:SqL K H b zs:=SqL.of (hs _ _ eb);refine⟨by rw[zA1,zAd];lia,?_⟩;by_cases ay:i<xs.length
 .have II:i<zs.length:=z00
  refine .inr ⟨⟨xs,zs,xs[i],zs[i],q1,q2,by simp[ay],by simp[II]⟩,λv H' y=>?_⟩;obtain⟨T,nT,rfl,y⟩:=y;obtain⟨x,z,ex,ez,rfl⟩:=y xs zs q1 q2;obtain⟨d,hd,td⟩:=(r1.same (hs.updR (o:=.tup [x,z]) nT)).get ex;obtain⟨e,he,t2⟩:=(r2.same (hs.updR (o:=.tup [x,z]) nT)).get ez
  refine step T x z d e σ _ (λaw y H4=>∃m',m'<xs.length-i/\m'=xs.length-(i+1)/\i+1<=xs.length/\((List.zipWith f ds es).take i).map V.bl++[y]=((List.zipWith f ds es).take (i+1)).map V.bl/\inv aw/\Same H0 H4) (zB6 hd) (zB6 he) fR (hs.updR nT) aa td t2 λaw H2 i2 s2=>⟨xs.length-(i+1),z00,rfl,ay,?_,i2,(hs.updR nT).trans s2⟩
  have hz:(List.zipWith f ds es)[i]?=some (f d e):=by rw[List.getElem?_zipWith,hd,he]
  rw[zAj,hz];simp
 .have e:i=xs.length:=z00
  subst e;refine .inl ⟨⟨xs,q1,zA3 _⟩,?_⟩;rw[Zal (by rw[List.length_zipWith];lia)];exact fin H hs
section
end
theorem jx:fillsNumberSlot (.type "tuple") "mul"=pure false:=
 PySem.fillsNumberSlot_seq (id:="tuple.__mul__") (r:=some (.builtin "tuple.__rmul__")) F.slot_tuple_mul.lookup z04 F.slot_tuple_rmul.lookup z04
theorem pU:seqRepeat? (.type "tuple")=pure (some (.builtin "tuple.__mul__")):=by rfl
open Builtin in
theorem lM(a:Int)(t:Tok)(l:Addr)(items:Array Value)(n:Nat)(dd:Option Addr)(sl:Array (Option Value)):
  Meets (Builtin.«int.__rmul__» ⟨[.int a t,.ref l],[]⟩) (λ_ R s=>s.heap.get? l=some {cls:=.type "tuple",dict:=dd,data:=.seq items n,slots:=sl}/\R (.ok (.ret Value.notImplemented)) s):=by
 refine .of_wp λprog w A R s h=>?_;obtain⟨hl,h⟩:=h
 wp_walk
 exact⟨_,rfl,h⟩
open Builtin in
theorem CV(l:Addr)(items:Array Value)(n:Nat)(u:Tok)(dd:Option Addr)(sl:Array (Option Value)):
  Meets (Builtin.«tuple.__mul__» ⟨[.ref l,.int 1 u],[]⟩) (λ_ R s=>s.heap.get? l=some {cls:=.type "tuple",dict:=dd,data:=.seq items n,slots:=sl}/\R (.ok (.ret (.ref l))) s):=by
 refine .of_wp λprog w A R s h=>?_;obtain⟨hl,h⟩:=h
 wp_walk
 exact⟨_,rfl,h⟩
open Builtin in
theorem CW(l:Addr)(items:Array Value)(n:Nat)(u:Tok)(dd:Option Addr)(sl:Array (Option Value))(hi:items.isEmpty=false):
  Meets (Builtin.«tuple.__mul__» ⟨[.ref l,.int 0 u],[]⟩) (λ_ R s=>s.heap.get? l=some {cls:=.type "tuple",dict:=dd,data:=.seq items n,slots:=sl}/\R (.ok (.ret (.ref s.heap.objs.size))) {s with heap:=s.heap.push {cls:=.type "tuple",data:=.seq #[]}}):=by
 refine .of_wp λprog w A R s h=>?_;obtain⟨hl,h⟩:=h
 wp_walk
 exact⟨_,rfl,h⟩
open Builtin in
theorem CZ(l:Addr)(items:Array Value)(n:Nat)(k:Int)(u:Tok)(dd:Option Addr)(sl:Array (Option Value))(hi:items.isEmpty=false)(h2:2<=k)(h3:k<=1000)(h4:items.size<=1000):
  Meets (Builtin.«tuple.__mul__» ⟨[.ref l,.int k u],[]⟩) (λ_ R s=>s.heap.get? l=some {cls:=.type "tuple",dict:=dd,data:=.seq items n,slots:=sl}/\R (.ok (.ret (.ref s.heap.objs.size))) {s with heap:=s.heap.push {cls:=.type "tuple",data:=.seq ((List.replicate k.toNat items).foldl (·++·) #[])}}):=by
 refine .of_wp λprog w A R s h=>?_;obtain⟨hp,g,d,tk,os⟩:=s;obtain⟨hl,h⟩:=h;have f1:=PySem.AutoSeq1.idx_int;have f2:=PySem.AutoSeq1.sub_tuple_tuple;have m1:items.size*k.toNat<=1000*1000:=Nat.mul_le_mul h4 z00;have m2:(items.size:Int)*k=((items.size*k.toNat:Nat):Int):=by rw[Int.natCast_mul,Int.toNat_of_nonneg z00]
 have c0:(decide (k < -2^63)||decide (k≥2^63))=false:=by
  rw[zB2 z00,zB2 z00];rfl
 have c1:(items.isEmpty||k==1)=false:=by
  rw[hi,show(k==1)=false from by simpa using(by lia:k≠1)];rfl
 have c2:(decide (k<=0)||items.isEmpty)=false:=by
  rw[hi,zB2 z00];rfl
 have c3:¬((items.size:Int)*k>(2^63-1) / 8):=by
  rw[m2];lia
 have c4:Builtin.Tuple.tupleTooMany ((items.size:Int)*k)=false:=by
  rw[m2];unfold Builtin.Tuple.tupleTooMany;refine zB2 ?_;rw[sizeLine_eq];lia
 wp_walk
 have nf:∀{b:Bool},b=false->decide (b=true)=false:=λ{b} e=>by rw[e];rfl
 refine wpAny_ite_false (nf c0) ?_
 wp_walk
 refine wpAny_ite_false (nf c1) ?_;refine wpAny_ite_false (nf c2) ?_;refine wpAny_ite_false (zB2 c3) ?_;refine wpAny_ite_false (nf c4) ?_
 have z:(List.foldl (λx1 x2=>x1++x2) #[] (List.replicate k.toNat items)).size<=sizeLine:=by
  have e:=foldl_rep items.toList k.toNat [];rw[List.nil_append]at e;rw[e,zA8,len_rep,zA9,sizeLine_eq,Nat.mul_comm];lia
 wp_walk
 exact⟨_,rfl,h⟩
def Lw(K:Frag):R2:=λx y H Q=>∃a k xs,x=.ref a/\y=.int k/\SqT K H a xs/\xs≠[]/\xs.length<=1000 /\
 ((k=1/\Q (.ref a) H)\/((k=0\/(2<=k/\k<=1000))/\∀p,H p=none->Q (.ref p) (upd H p (.tup (List.replicate k.toNat xs).flatten))))
theorem GC:OpR X (binaryOp .Mult) (Lw X.K):=by
 intro z06 s σ H x y v u Q I rx ry h;obtain⟨a,k,xs,rfl,rfl,ha,hx,hl,h⟩:=h;cases rx;obtain⟨t,rfl⟩:=ry;obtain⟨its,r,p1,_⟩:=I.tuple ha;have hlen:=r.length;have hv:its≠[]:=λz=>hx (r.nil_iff.mp z)
 have NW:its.toArray.isEmpty=false:=by
  cases its with
  |nil=>exact absurd rfl hv
  |cons _ _=>rfl
 obtain⟨⟨cls,dd,data,sl⟩,ho,hc,n,hd⟩:=id p1;simp only at hc hd;subst hc hd
 refine wpAny_binaryOp_repeat_ref (T:="tuple") (U:="int") z02 ⟨_,ho,rfl⟩ (λs'=>typeIs_int s' k t) jx F.fills_int_mul F.slot_int_rmul pU F.slot_int_index.lookup
  (call_meets F.slot_int_rmul (typeIs_int s k t) F.entry_int_rmul (F.args_int_rmul_2 _ _) (lM k t a its.toArray n dd sl) ⟨ho,rfl,⟨_,ho,rfl⟩,?_⟩)
 rcases h with⟨rfl,q⟩|⟨rfl|⟨k2,k3⟩,q⟩
 .exact call_meets F.slot_tuple_mul ⟨_,ho,rfl⟩ F.entry_tuple_mul (F.args_tuple_mul_2 _ _) (CV a its.toArray n t dd sl) ⟨ho,.ref a,H,I,rfl,q⟩
 .refine call_meets F.slot_tuple_mul ⟨_,ho,rfl⟩ F.entry_tuple_mul (F.args_tuple_mul_2 _ _) (CW a its.toArray n t dd sl NW) ⟨ho,?_⟩;exact⟨.ref s.heap.objs.size,_,I.laid (t':=s.toks) (o:=.tup []) (λb ob q=>zAv _ q) (zA3 _) ⟨zAp _,[],.nil,IsTup.new _ _⟩,rfl,q _ (I.hok.fresh (zA3 _))⟩
 .refine call_meets F.slot_tuple_mul ⟨_,ho,rfl⟩ F.entry_tuple_mul (F.args_tuple_mul_2 _ _) (CZ a its.toArray n k t dd sl NW k2 k3 (by rw[zA8];lia)) ⟨ho,?_⟩;have e:=foldl_rep its k.toNat [];rw[e];refine⟨.ref s.heap.objs.size,_,I.laid (t':=s.toks) (o:=.tup (List.replicate k.toNat xs).flatten) (λb ob q=>zAv _ q) (zA3 _) ⟨?_,_,r.rep k.toNat,IsTup.new _ _⟩,rfl,q _ (I.hok.fresh (zA3 _))⟩;rw[len_rep,sizeLine_eq];have:=Nat.mul_le_mul (show k.toNat<=1000 by lia) hl;lia
end L2
namespace L2.ZT
open PySem PySem.Spec PyProof.Rows L2
def nm(t:Bool):String:=match t with|true=>"tuple_iterator"|false=>"list_iterator"
def tn(t:Bool):String:=match t with|true=>"tuple"|false=>"list"
def Io(t:Bool)(h:Heap)(a l:Addr)(i:Nat):Prop:=∃o,h.get? a=some o/\o.cls=.type (nm t)/\o.data=.fields #[.ref l,.int i 0]
def Sq(t:Bool)(h:Heap)(a:Addr)(items:Array Value):Prop:=∃o,h.get? a=some o/\o.cls=.type (tn t)/\∃n,o.data=.seq items n
def SQ(t:Bool)(K:Frag)(H:Hp)(a:Addr)(xs:List V):Prop:=match t with|true=>SqT K H a xs|false=>SqL K H a xs
theorem Io.at(x:Io t h a l i)(e:∀o,h.get? a=some o->h'.get? a=some o):Io t h' a l i:=by obtain⟨o,ho,r⟩:=x;exact⟨o,e _ ho,r⟩
theorem Io.extBut(x:Io t h a l i)(e:Heap.ExtBut b h h')(n:a≠b):Io t h' a l i:=x.at λo q=>e _ _ n q
theorem Sq.at(x:Sq t h a xs)(e:∀o,h.get? a=some o->h'.get? a=some o):Sq t h' a xs:=by obtain⟨o,ho,r⟩:=x;exact⟨o,e _ ho,r⟩
theorem Sq.extBut(x:Sq t h a xs)(e:Heap.ExtBut b h h')(n:a≠b):Sq t h' a xs:=x.at λo q=>e _ _ n q
theorem oF{σ:St}(I:Inv X z06 σ H s)(h:SQ t X.K H a xs):∃its:List Value,Vals xs its/\Sq t s.heap a its.toArray/\xs.length<=sizeLine:=by
 cases t
 .obtain⟨its,r,p,z⟩:=I.list h;exact⟨its,r,p.isList,z⟩
 .exact I.tuple h
theorem xO{σ:St}(I:Inv X z06 σ H s)(h:SQ t X.K H a xs)(h':SQ t X.K H a ys):xs=ys:=by
 cases t
 .exact I.list_inj h h'
 .exact I.tuple_inj h h'
section
theorem nx(hj:Io t s.heap j l i)(ht:Sq t s.heap l its)(hx:its[i]?=some x)
  (hQ:∀h',Io t h' j l (i+1)->Heap.SameBut j s.heap h'->Q x {s with heap:=h'}):wpAny (model prog w) A (Builtin.SmallTypes.nextOf (.ref j)) Q E s:=by
 cases t
 .exact wpAny_nextOf_list_item hj ht hx hQ
 .exact JF hj ht hx hQ
theorem xP(hh:A.handled=none)(hj:Io t s.heap j l i)(ht:Sq t s.heap l its)(hx:its[i]?=none)
  (hE:∀h' e,Heap.ExtBut j s.heap h'->(∃o,h'.get? e=some o/\o.cls=.type "StopIteration")->E (.ref e) {s with heap:=h'}):wpAny (model prog w) A (Builtin.SmallTypes.nextOf (.ref j)) Q E s:=by
 cases t
 .exact wpAny_nextOf_list_end hh hj ht hx hE
 .exact xK hh hj ht hx hE
theorem pW(hl:Sq t s.heap l its)
  (hQ:Q (.ref s.heap.objs.size) {s with heap:=s.heap.push {cls:=.type (nm t),data:=.fields #[.ref l,.int 0 0]}}):wpAny (model prog w) A (pyIter (.ref l)) Q E s:=by
 cases t
 .exact wpAny_pyIter_list hl hQ
 .exact wpAny_pyIter_tuple hl hQ
end
theorem draws(hh:A.handled=none)(it a:Addr)(gu:a≠it)(its:Array Value):
  Draws prog w A it [it,a] its.size (λi v=>its[i]?=some v) (λi h=>Io t h it a i/\Sq t h a its) where
 live:=λ_ _ st=>by obtain⟨o,ho,_⟩:=st.1;exact⟨o,ho⟩
 frame:=λ_ _ _ st hk=>⟨st.1.at λo e=>hk it z01 o e,st.2.at λo e=>hk a z01 o e⟩
 item:=λi s Q E hi st hQ=>nx st.1 st.2 (x:=its[i]) (by simp[hi]) λh' h1 h2=>hQ _ h' s.toks (by simp[hi]) ⟨h1,st.2.extBut h2.extBut gu⟩ h2
 done:=λs Q E st hE=>xP hh st.1 st.2 z01 hE
abbrev eA(t0:Bool)(h:Heap)(t:Addr):Heap:=h.push {cls:=.type (nm t0),data:=.fields #[.ref t,.int 0 0]}
theorem pY(t:Addr)(its:Array Value):
  Meets (Builtin.«enumerate.__new__» ⟨[.type "enumerate",.ref t],[]⟩) (λ_ R s=>Sq t0 s.heap t its /\
   R (.ok (.ret (.ref (eA t0 s.heap t).objs.size))) {s with heap:=(eA t0 s.heap t).push {cls:=.type "enumerate",data:=.fields #[.none,.bool false,.ref s.heap.objs.size,rawInt 0,.none,.none]}}):=
 .of_wp λprog w A R s h=>by
  obtain⟨hp,g,d,tk,os⟩:=s;obtain⟨ht,h⟩:=h;have B7:=sub_enumerate;have hT:Sq t0 (Shared.heap ⟨hp,g,d,tk,os⟩) t its:=ht
  wp_walk
  refine wpAny_stack_any λst=>zAx ?_;split
  .rename_i c _ _ _ _ _
   cases(c==Value.type "enumerate")
   .wp_walk using pW hT
    exact⟨_,rfl,h⟩
   .wp_walk using pW hT
    exact⟨_,rfl,h⟩
  .wp_walk using pW hT
   exact⟨_,rfl,h⟩
theorem qW{s:Shared}(ht:Sq t0 s.heap t its)
  (h:∀h',IsEnum h' (s.heap.objs.size+1) s.heap.objs.size 0 .none->Io t0 h' s.heap.objs.size t 0->(∀c o,s.heap.get? c=some o->h'.get? c=some o)->Q (.ref (s.heap.objs.size+1)) {s with heap:=h'}):
  wpAny (model prog w) A (call (.type "enumerate") [.ref t]) Q E s:=by
 refine callType_new F.called_enumerate z02 (F.typeCall_enumerate_1 _) (F.newCall_enumerate_1 _) (λobj=>F.args_object_init_2 obj _) F.entry_enumerate_new (pY t its) ⟨ht,?_⟩;have e1:(eA t0 s.heap t).objs.size=s.heap.objs.size+1:=Heap.size_push ..;have g2:=zB1 (eA t0 s.heap t) (o:={cls:=.type "enumerate",data:=.fields #[.none,.bool false,.ref s.heap.objs.size,rawInt 0,.none,.none]}) rfl;have g1:=zAv {cls:=.type "enumerate",data:=.fields #[.none,.bool false,.ref s.heap.objs.size,rawInt 0,.none,.none]} (zB1 s.heap (o:={cls:=.type (nm t0),data:=.fields #[.ref t,.int 0 0]}) rfl);rw[e1]at g2⊢;exact⟨⟨_,g2,rfl⟩,h _ g2 ⟨_,g1,rfl,rfl⟩ λc o x=>zAv _ (zAv _ x)⟩
def Ite(t0:Bool)(K:Frag)(a:Addr):It:=
 ⟨λi H=>∃xs x,SQ t0 K H a xs/\xs[i]?=some x,
  λi H v H'=>∃T,H T=none/\v=.ref T/\∀xs,SQ t0 K H a xs->∃x,xs[i]?=some x/\H'=upd H T (.tup [.int i,x]),
  λi H=>∃xs,SQ t0 K H a xs/\xs.length<=i⟩
def tne(t0:Bool)(e it a:Addr)(i:Nat)(h:Heap):Prop:=(∃old,IsEnum h e it i old)/\Io t0 h it a i
theorem Ao{K:Frag}(IJ:e≠it)(RX:e≠a)(RY:a≠it):
  Turn P w K (.Tuple es k pos) (Ite t0 K a) [e,it] e (tne t0 e it a) where
 mem:=by simp
 obj:=λi h st c hc=>by
  obtain⟨⟨old,s1⟩,⟨o4,s4,c4,d4⟩⟩:=st;simp only[List.mem_cons,List.not_mem_nil,or_false]at hc;rcases hc with z|z<;>subst z
  .exact⟨_,s1,λv q=>by cases q⟩
  .exact⟨_,s4,λv q=>by rw[d4]at q;cases q⟩
 keep:=λi h h' st kp=>by
  obtain⟨⟨old,s1⟩,s4⟩:=st;exact⟨⟨old,kp e z01 _ s1⟩,s4.at λo z=>kp it z01 o z⟩
 item:=by
  intro X hP hw hK hc i z06 s σ H E I hf st hg;subst hP hw hK;obtain⟨⟨old,s1⟩,s4⟩:=st;obtain⟨xs,x,qr,hx⟩:=hg;obtain⟨its,rv,p,_⟩:=oF I qr;obtain⟨ux,Fc,rx⟩:=rv.get hx
  have ay:i<its.toArray.size:=by
   have:=(zAa.mp Fc).1;simpa using this
  have D:=draws (t:=t0) (prog:=X.prog) (w:=X.w) (A:=X.A.in1) (I.ok.hd hc) it a RY its.toArray;refine wpAny_pyNext_enum_itemD D s1 ⟨s4,p⟩ ay IJ (by simp[IJ,RX]) λu h1 tk hu g1 g3 g5 g6 kp=>?_
  have eu:u=ux:=by
   have hu:its.toArray[i]?=some u:=hu;rw[List.getElem?_toArray,Fc]at hu;exact(zAl hu).symm
  subst eu;refine⟨_,rfl,?_⟩;refine wpAny_letOwnedTupleGo_enum g1 λh2 e1 sb=>?_
  have live:∀c,c∈[e,it]->∃o,s.heap.get? c=some o:=λc ax=>by
   simp only[List.mem_cons,List.not_mem_nil,or_false]at ax;rcases ax with q|q<;>subst q
   .exact⟨_,s1⟩
   .obtain⟨o,h,_⟩:=s4;exact⟨o,h⟩
  have ne:∀c,c∈[e,it]->c≠s.heap.objs.size:=λc ax z=>by
   obtain⟨o,ho⟩:=live c ax;exact absurd (zB0 ho) (by rw[z];exact Zak _)
  have hT:H s.heap.objs.size=none:=I.hok.fresh (zA3 _)
  have kept:∀c o,c∉[e,it]->s.heap.get? c=some o->h2.get? c=some o:=λc o ax z=>
   sb.extBut _ _ (λq=>ax (by simp[q])) (kp c o (λq=>ax (by simp[q])) (λq=>ax (by simp[q])) z)
  have trk:∀c o,H c=some o->c∉[e,it]:=λc o z ax=>by
   have:=(hf c ax).1;rw[z]at this;cases this
  have vE:h2.get? s.heap.objs.size=some {cls:=.type "tuple",data:=.seq #[.int i tk,u]}:=sb.extBut _ _ (Ne.symm (ne e z01)) g5
  have mv:HOk X.prog X.w (upd H s.heap.objs.size (.tup [.int i,x])) h2:=λc o z=>by
   by_cases hb:c=s.heap.objs.size
   .subst hb;rw[aa]at z;cases z;exact⟨by show 2<=sizeLine;decide,[.int i tk,u],.cons ⟨tk,rfl⟩ (.cons rx .nil),_,vE,rfl,_,rfl⟩
   .rw[aA hb]at z
    refine(I.hok c o z).stay (λd v hd q=>kept d v ?_ q) (λd q=>by rw[aA (aD q hT)];exact q) λd l q=>by rw[aA (aD q hT)];exact q
    rcases hd with e'|e'
    .rw[e'];exact trk c o z
    .exact trk d _ e'
  have I2:Inv X z06 σ (upd H s.heap.objs.size (.tup [.int i,x])) {s with heap:=h2,toks:=tk+1}:=by
   refine I.step (g':=s.gens) (d':=s.drawn) (t':=tk+1) (ch:=[e,it]) (λc ax=>?_) (λc o _ _ hn z _=>kept c o hn z) (λc o _ _ hn z _=>⟨o.slots,kept c o hn z⟩)
    (λc o _ z n=>by rw[aA (zB5 (zB0 z))];exact n) (λc o hn z=>⟨o,kept c o hn z⟩) (λc l z=>by rw[aA (aD z hT)];exact z) (λc o l z=>by rw[aA (aD z hT)];exact z)
    (λc l z=>⟨#[],by rw[aA (aD z hT),z];simp⟩) (λm hm=>?_) mv I.bare
   .obtain⟨f0,f1,f2,f3,f4,f5⟩:=hf c ax;exact⟨f3,f1,f4,f5⟩
   .obtain⟨o,fN,ep,ho,r⟩:=hm;refine⟨o,fN,ep,kept _ o (λax=>?_) ho,r⟩;exact(hf _ ax).2.1 rfl
  refine⟨.ref s.heap.objs.size,_,I2,rfl,⟨s.heap.objs.size,hT,rfl,λRZ IL=>⟨x,?_,rfl⟩⟩,⟨⟨u,?_⟩,?_⟩,λc ax=>?_⟩
  .rw[xO I IL qr];exact hx
  .have:=e1;rw[show(((i+1:Nat):Int))=(i:Int)+1 by lia];exact this
  .exact g3.1.extBut sb.extBut IJ.symm
  .rw[aA (ne c ax)];exact(hf c ax).1
 done:=by
  intro X hP hw hK hc i z06 s σ H E I hf st hg;subst hP hw hK;obtain⟨⟨old,s1⟩,s4⟩:=st;obtain⟨xs,qr,hlen⟩:=hg;obtain⟨its,rv,p,_⟩:=oF I qr;have hl:=rv.length
  have hT:s.TypeIs (.ref e) "enumerate":=⟨_,s1,rfl⟩
  have fin:∀h',Heap.ExtBut it s.heap h'->Inv X z06 σ H {s with heap:=h'}:=λh' kp=>by
   obtain⟨f0,f1,f2,f3,f4,f5⟩:=hf it z01;exact I.turned (t':=s.toks) (λb o hb z=>kp b o hb z) f0 f1 f3 f4 f5
  unfold pyNext;refine zAt (wpAny_attempt (wpAny_callSpecial?_slot (name:=Str.ofString "__next__") hT F.slot_enumerate_next (wpAny_call_entry F.slot_enumerate_next hT F.entry_enumerate_next ?_ (F.args_enumerate_next_1 _))));show wpAny _ _ (field (.ref e) 2>>=_) _ _ _;refine zAt (wpAny_field s1 rfl (x:=.ref it) rfl ?_);refine zAt (xP (I.ok.hd hc) s4 p (by simp;lia) λh' x E7 cS=>?_);obtain⟨o,ho,R0⟩:=cS;refine zAt (wpAny_isInstance (T:="StopIteration") (b:=true) ⟨o,ho,R0⟩ isSubtype_stop (zAx ⟨rfl,fin h' E7⟩))
 self:=λ_ _ _ _ _ st h=>wpAny_pyIter_enum st.1.choose_spec h
section
def Lx(t0:Bool)(K:Frag)(t:TA):TI:=λσ H R=>t σ H λvs H1=>∃a xs,vs=[.ref a]/\SQ t0 K H1 a xs/\R (Ite t0 K a) H1
theorem pi_enum(t0:Bool)(hg:Gl X "enumerate")(hm:X.mg "enumerate"=none)(ha:PA X [a] ta)(hs:starEach [a] X.env=[(false,eval a X.env)]:=by rfl):
  PI X (.Tuple es k tp) (.Call (.Name "enumerate" p) [a] [] pos) (Lx t0 X.K ta):=by
 intro z06 s σ H R I h;refine Call_ (j6 I hg hm boot_enumerate (PyProof.Rows.callWith_type1 (thn (ha pos z06 s σ H _ I h) λus s1=>?_) hs rfl));rintro⟨vs,H1,I1,r1,q1⟩;obtain⟨x,xs,e,hx,q⟩:=q1;subst e;obtain⟨u,rfl,ru⟩:=vals1 r1;cases ru;obtain⟨its,_,p1,_⟩:=oF I1 hx;refine qW p1 λh' z1 z4 kp=>?_;refine wpAny_pyIter_enum z1 ?_;have lx:x<s1.heap.objs.size:=by obtain⟨_,e,_⟩:=p1;exact zB0 e
 refine⟨_,_,_,_,H1,rfl,I1.kept (t':=s1.toks) kp,Ao (e:=s1.heap.objs.size+1) (it:=s1.heap.objs.size) (a:=x) (Nat.succ_ne_self _) (Zar (Nat.lt_succ_of_lt lx)) (zB5 lx),⟨⟨_,z1⟩,z4⟩,λc hc=>?_,q⟩;have hle:s1.heap.objs.size<=c:=by grind
 exact I1.fpOk hle (I1.hok.fresh hle)
end
theorem for_enum(t0:Bool){K:Frag}{g:TG}{tb:TS}{D:Ends}{σ:St}{H:Hp}(Pv:Nat->St->Hp->Prop)(h0:Pv 0 σ H)(hl:∀i σ H,i<=xs.length->Pv i σ H->SQ t0 K H a xs)
  (hs:∀i x σ H T,xs[i]?=some x->Pv i σ H->H T=none->g (.ref T) σ (upd H T (.tup [.int i,x])) λaw H2=>tb {D with nx:=Pv (i+1),ct:=Pv (i+1),bk:=D.nx} aw H2) (hd:∀σ H,Pv xs.length σ H->D.nx σ H):
  ∃W:Nat->Nat->St->Hp->Prop,(∃m,W 0 m σ H)/\∀i m σ H,W i m σ H->
   ((Ite t0 K a).stop i H/\D.nx σ H)\/((Ite t0 K a).go i H/\∃N,(∀ah H',N ah H'->∃m',m'<m/\W (i+1) m' ah H')/\∀x H',(Ite t0 K a).yld i H x H'->g x σ H' λaw H2=>tb {D with nx:=N,ct:=N,bk:=D.nx} aw H2):=by
 refine⟨λi m σ H=>m=xs.length-i/\i<=xs.length/\Pv i σ H,⟨xs.length,by simp,zAp _,h0⟩,?_⟩;rintro i m σ H ⟨rfl,hi,p⟩;have q:=hl i σ H hi p;by_cases ay:i<xs.length
 .refine .inr ⟨⟨xs,xs[i],q,by simp[ay]⟩,Pv (i+1),λah H' p'=>⟨xs.length-(i+1),z00,rfl,ay,p'⟩,λx H' y=>?_⟩;obtain⟨T,nT,rfl,y⟩:=y;obtain⟨x,ex,rfl⟩:=y xs q;exact hs i x σ H T ex p nT
 .have e:i=xs.length:=z00
  subst e;exact .inl ⟨⟨xs,q,zA3 _⟩,hd σ H p⟩
end L2.ZT
namespace L2
open PySem PySem.Spec PyProof.Rows
section
theorem qX(hc:X.calm=true):dH X (.builtin "min") (λxs H Q=>∃(p:Addr) (ns:UV),xs=[.ref p]/\SqL X.K H p (ns.map V.int)/\ns≠[]/\∀M,M∈ns->(∀a∈ns,M<=a)->Q (.int M) H):=by
 intro z06 s σ H xs us Q I r h;obtain⟨p,ns,rfl,hq,gu,q⟩:=h;obtain⟨u,rfl,ru⟩:=vals1 r;cases ru;obtain⟨its,rv,pl,hz⟩:=I.list hq;have hi:IntsAre its ns:=intsAre_of rv;obtain⟨zs,ez⟩:=(hi.allInts:AllInts its.toArray).items;have en:numsOf its=ns:=hi.numsOf;have hl:s.heap.IsList p (intItems zs):=ez▸pl.isList
 have aE:0<zs.size:=by
  have e1:(intItems zs).size=its.length:=by rw[<-ez,zA8]
  have e2:=rv.length;rw[zA1]at e2;have e3:0<ns.length:=List.length_pos_iff.mpr gu;simp only[intItems,Array.size_map]at e1;lia
 have hn:numsOf (intItems zs).toList=ns:=by rw[<-ez];exact en
 refine min_intList (I.ok.hd hc) hl aE λv h' tk hv hk=>?_;obtain⟨t,rfl⟩:=intItems_at hv;obtain⟨h1,h2⟩:=argBest_lt (numAt zs) (zs.size-1);rw[nums_intItems]at hn;refine⟨.int _,H,I.kept (t':=tk) hk,⟨t,rfl⟩,q _ ?_ λa ha=>?_⟩
 .rw[<-hn,numAt_eq];exact getD_mem (by rw[zA1,zA9];lia)
 .rw[<-hn]at ha;obtain⟨j,hj,rfl⟩:=mem_getD ha;rw[zA1,zA9]at hj;rw[<-numAt_eq];exact h2 j z00
inductive RCatT0I(K:Frag)(x:V)(y:V)(H:Hp)(Q:VK):Prop
 |mk:∀a b ys,(x=.ref a)->(y=.ref b)->(SqT K H a [])->(SqT K H b ys)->(Q (.ref b) H)->RCatT0I K x y H Q
def JM(K:Frag):R2:=λx y H Q=>RCatT0I K x y H Q
open Builtin in
theorem Dd(l b:Addr)(its:Array Value)(n m:Nat)(dd ma:Option Addr)(sl kr:Array (Option Value)):
  Meets (Builtin.«tuple.__add__» ⟨[.ref l,.ref b],[]⟩) (λ_ R s=>s.heap.get? l=some {cls:=.type "tuple",dict:=dd,data:=.seq #[] n,slots:=sl}/\s.heap.get? b=some {cls:=.type "tuple",dict:=ma,data:=.seq its m,slots:=kr}/\R (.ok (.ret (.ref b))) s):=by
 refine .of_wp λprog w A R s h=>?_;obtain⟨hl,hb,h⟩:=h;have f2:=PySem.AutoSeq1.sub_tuple_tuple
 wp_walk
 exact⟨_,rfl,h⟩
theorem vD:OpR X (binaryOp .Add) (JM X.K):=by
 intro z06 s σ H x y v u Q I rx ry h;obtain⟨a,b,ys,rfl,rfl,ha,hb,q⟩:=h;cases rx;cases ry;obtain⟨its,r1,p1,_⟩:=I.tuple ha;obtain⟨aT,r2,p2,_⟩:=I.tuple hb;have e:its=[]:=r1.zero;subst e;obtain⟨⟨cls,dd,data,sl⟩,ho,hc,n,hd⟩:=id p1;obtain⟨⟨HU,ma,data2,kr⟩,vb,vc,n2,hd2⟩:=id p2;simp only at hc hd vc hd2;subst hc hd vc hd2;exact concat_meets ⟨_,ho,rfl⟩ ⟨_,vb,rfl⟩ noFill_tuple_add seq_tuple_add PySem.F.slot_tuple_add PySem.F.entry_tuple_add (PySem.F.args_tuple_add_2 _ _) (Dd a b aT.toArray n n2 dd ma sl kr) ⟨ho,vb,.ref b,H,I,rfl,q⟩
theorem Df:OpR X (binaryOp .Add) (λx y H Q=>∃a b xs ys,x=.ref a/\y=.ref b/\SqT X.K H a xs/\SqT X.K H b ys/\ys≠[]/\xs.length+ys.length<=sizeLine/\(xs=[]->Q (.ref b) H)/\(xs≠[]->∀p,H p=none->Q (.ref p) (upd H p (.tup (xs++ys))))):=by
 intro z06 s σ H x y v u Q I rx ry h;obtain⟨a,b,xs,ys,rfl,rfl,ha,hb,hy,hz,q1,q2⟩:=h;by_cases hx:xs=[]
 .subst hx;exact vD z06 s σ H _ _ v u Q I rx ry ⟨a,b,ys,rfl,rfl,ha,hb,q1 rfl⟩
 .exact yx z06 s σ H _ _ v u Q I rx ry ⟨a,b,xs,ys,rfl,rfl,ha,hb,hx,hz,λz=>absurd z hy,λ_=>q2 hx⟩
end
section
open HT in
theorem lN{lo hi:Option Int}(ht:IsTup s.heap t items)(hs:s.heap.IsSliceOf sl vl vu .none)(pl:IsPart vl lo)(pu:IsPart vu hi)
  (h1:sIx items.size 0 lo=0) (h2:sIx items.size items.size hi=items.size) (h:Q (.ref t) s):wpAny (model prog w) A (getItem (.ref t) (.ref sl)) Q E s:=by
 obtain⟨os,kN,ze,qa⟩:=id hs
 have BD:s.TypeIs (.ref sl) "slice":=⟨os,kN,ze⟩
 unfold getItem
 try with_reducible refine wpAny_holding ?_
 first|refine zAt (zAx ?_)|skip
 refine zAt (wpAny_sequenceKey ht.typeIs z02 ?_)
 refine zAt (wpAny_callSpecial?_slot (name:=Str.ofString "__getitem__") ht.typeIs PyProof.Rows.slot_tuple_getitem
  (wpAny_call_entry PyProof.Rows.slot_tuple_getitem ht.typeIs entry_tuple_getitem ?_ (args_tuple_getitem _ _)))
 show wpAny _ _ (Builtin.Tuple.tupleItemsOf (.ref t)>>=_) _ _ s;refine zAt (tupleItemsOf_ ht ?_);refine zAt (wpAny_typeOf BD ?_);refine zAt (iK hs pl pu ?_);rw[h1,h2];show wpAny _ _ (if((((0:Nat):Int))==0&&(1:Int)==1&&(items.size-0)==items.size)=true then _ else _) _ _ s;rw[zAz z01];refine zAt (zAt (wpAny_typeOf ht.typeIs (zAx ?_)));rw[zAz z02];exact zAt (wpAny_rule (zAx ⟨_,rfl,zAx h⟩))
end
section
inductive RSlWI(K:Frag)(x:V)(lo:Option Int)(hi:Option Int)(H:Hp)(Q:VK):Prop
 |mk:∀a xs,(x=.ref a)->(SqT K H a xs)->(((HT.sIx xs.length 0 lo=0/\HT.sIx xs.length xs.length hi=xs.length)->Q (.ref a) H))->((¬(HT.sIx xs.length 0 lo=0/\HT.sIx xs.length xs.length hi=xs.length)->∀p,H p=none->Q (.ref p) (upd H p (.tup (jn xs lo hi)))))->RSlWI K x lo hi H Q
def Nx(K:Frag):V->Option Int->Option Int->Hp->VK->Prop:=λx lo hi H Q=>RSlWI K x lo hi H Q
theorem yL:SlR X (Nx X.K):=by
 intro z06 s σ H x v vl vu lo hi sl Q I rx hs pl pu h;obtain⟨a,xs,rfl,hx,q1,q2⟩:=h;by_cases hw:HT.sIx xs.length 0 lo=0/\HT.sIx xs.length xs.length hi=xs.length
 .cases rx;obtain⟨its,r,ht,hz⟩:=I.tuple hx;have hlen:its.toArray.size=xs.length:=by rw[zA8];exact r.length.symm
  refine⟨"tuple",_,PyProof.Rows.slot_tuple_getitem.lookup,ht.typeIs,?_⟩;exact lN ht hs pl pu (by rw[hlen];exact hw.1) (by rw[hlen];exact hw.2) ⟨.ref a,H,I,rfl,q1 hw⟩
 .exact Jv z06 s σ H _ v vl vu lo hi sl Q I rx hs pl pu ⟨a,xs,rfl,hx,hw,q2 hw⟩
end
section
open HT in
theorem Dg(xs:Array Value):((List.range xs.size).filterMap λ(k:Nat)=>xs[(((xs.size:Int)-1)+(k:Int)*(-1)).toNat]?).toArray=xs.toList.reverse.toArray:=by
 congr 1
 have e:∀k∈List.range xs.size,xs[(((xs.size:Int)-1)+(k:Int)*(-1)).toNat]?=xs.toList.reverse.toArray[k]?:=λk hk=>by
  have hk:=Zan.mp hk;have e2:xs.toList.reverse.toArray[k]?=xs.toList.reverse[k]?:=by simp only[List.getElem?_toArray]
  have e3:(((xs.size:Int)-1)+(k:Int)*(-1)).toNat=xs.size-1-k:=z00
  rw[e2,e3,List.getElem?_reverse (by rw[zA9];exact hk),zA9,<-Zav]
 have fc:∀(l:List Nat) (f g:Nat->Option Value),(∀k∈l,f k=g k)->l.filterMap f=l.filterMap g:=λl f g h=>by
  induction l with
  |nil=>rfl
  |cons a l ih=>
   rw[Zaj,Zaj,h a Zap,ih λk hk=>h k (Zai _ hk)]
 rw[fc _ _ _ e];have:=v8 xs.toList.reverse.toArray 0 xs.size
 have e2:(λ(m:Nat)=>xs.toList.reverse.toArray[(((0:Nat):Int)+(m:Int)*1).toNat]?)=λm=>xs.toList.reverse.toArray[m]?:=by
  funext m;congr 1;lia
 rw[e2]at this;have this:=congrArg Array.toList this;rw[show(List.filterMap (λm=>xs.toList.reverse.toArray[m]?) (List.range xs.size)).toArray.toList=List.filterMap (λm=>xs.toList.reverse.toArray[m]?) (List.range xs.size)from rfl]at this;rw[this];show List.take xs.size (List.drop 0 xs.toList.reverse)=xs.toList.reverse;rw[List.drop_zero,Zal (by rw[List.length_reverse,zA9];exact zA3 _)]
open HT in
theorem oM(ht:IsTup s.heap t items)(hs:s.heap.IsSliceOf sl .none .none (.int (-1) u))(hz:items.size<=sizeLine)
  (h:Q (.ref s.heap.objs.size) {s with heap:=s.heap.push {cls:=.type "tuple",data:=.seq items.toList.reverse.toArray}}):wpAny (model prog w) A (getItem (.ref t) (.ref sl)) Q E s:=by
 obtain⟨os,kN,ze,qa⟩:=id hs
 have BD:s.TypeIs (.ref sl) "slice":=⟨os,kN,ze⟩
 unfold getItem
 try with_reducible refine wpAny_holding ?_
 first|refine zAt (zAx ?_)|skip
 refine zAt (wpAny_sequenceKey ht.typeIs z02 ?_)
 refine zAt (wpAny_callSpecial?_slot (name:=Str.ofString "__getitem__") ht.typeIs PyProof.Rows.slot_tuple_getitem
  (wpAny_call_entry PyProof.Rows.slot_tuple_getitem ht.typeIs entry_tuple_getitem ?_ (args_tuple_getitem _ _)))
 show wpAny _ _ (Builtin.Tuple.tupleItemsOf (.ref t)>>=_) _ _ s;refine zAt (tupleItemsOf_ ht ?_);refine zAt (wpAny_typeOf BD ?_);rw[zAz z02];unfold Builtin.Slice.sliceApplied Builtin.Slice.sliceFields;refine zAt (zAt (zAt (wpAny_field kN qa (x:=.none) rfl (zAt (wpAny_field kN qa (x:=.none) rfl (zAt (wpAny_field kN qa (x:=.int (-1) u) rfl (zAx ?_))))))));refine zAt (slicePart_int ?_);show wpAny _ _ (if((-1:Int)==0)=true then _ else _) _ _ s;rw[zAy z02];refine zAt (slicePart_none (zAt (slicePart_none (zAt (zAx ?_)))));have ea:Builtin.Slice.sliceAdjust none none (-1) (items.size:Int)=((items.size:Int)-1,-1):=rfl;show wpAny _ _ (match Builtin.Slice.sliceAdjust none none (-1) (items.size:Int)with | (lo,hi)=>pure (lo,(-1:Int),Builtin.Slice.slicePlaces lo hi (-1))) _ _ s;rw[ea]
 have ep:Builtin.Slice.slicePlaces ((items.size:Int)-1) (-1) (-1)=items.size:=by
  unfold Builtin.Slice.slicePlaces;rw[zAy z02];by_cases h0:items.size=0
  .rw[h0];rfl
  .rw[zAz z00];show(((items.size:Int)-1 - -1-1) / 1+1).toNat=items.size;lia
 show wpAny _ _ (pure ((items.size:Int)-1,(-1:Int),Builtin.Slice.slicePlaces ((items.size:Int)-1) (-1) (-1))) _ _ s;rw[ep];refine zAx ?_;show wpAny _ _ (if(((items.size:Int)-1)==0&&(-1:Int)==1&&items.size==items.size)=true then _ else _) _ _ s;rw[zAy z01,Dg]
 have cm:sizeOk (.seq items.toList.reverse.toArray):=by
  show items.toList.reverse.toArray.size<=sizeLine;rw[zA8,List.length_reverse,zA9];exact hz
 first
  |exact zAt (m:=Builtin.Tuple.tupleExact _) (Zac (zAx ⟨_,rfl,zAx h⟩) cm)
  |exact zAt (m:=Builtin.Tuple.tupleExact _) (Zac (zAt (zAx (zAx ⟨_,rfl,zAx h⟩))) cm)
  |exact zAt (zAt (m:=Builtin.Tuple.tupleExact _) (Zac (zAx (zAx ⟨_,rfl,zAx h⟩)) cm))
  |exact zAt (zAt (m:=Builtin.Tuple.tupleExact _) (Zac (zAx ⟨_,rfl,zAx h⟩) cm))
end
section
def LC(K:Frag)(te:TE):TE:=λσ H Q=>te σ H λx H1=>∃a xs,x=.ref a/\SqT K H1 a xs/\∀p,H1 p=none->Q (.ref p) (upd H1 p (.tup xs.reverse))
theorem JN(he:PE X e te):PE X (.Subscript e (.Slice none none (some (.UnaryOp .USub (.Constant (.int 1) j p4) p3)) p2) pos) (LC X.K te):=by
 intro z06 s σ H Q I h;refine Subscript_ (thn (he z06 s σ H _ I h) λv s1=>?_);rintro⟨x,H1,I1,r1,q1⟩;obtain⟨a,xs,rfl,hx,q⟩:=q1;cases r1;refine wpAny_Slice ?_;rw[evalPart_none];refine zAx (zAx ?_);rw[evalPart_some];refine thn (uY (X:=X) (pos:=p3) pB (au (i:=1) (j:=j) (pos:=p4)) z06 s1 σ H1 (λz H'=>z=V.int (-1)/\H'=H1) I1 ⟨1,rfl,rfl,rfl⟩) λu s2 hh=>?_;obtain⟨z,H2,I2,r2,e1,e2⟩:=hh;subst e1 e2;obtain⟨t,rfl⟩:=r2;have I4:Inv X z06 σ H2 {s2 with heap:=s2.heap.push {cls:=.type "slice",data:=.fields #[.none,.none,.int (-1) t]}}:=I2.kept (t':=s2.toks) λb ob q=>zAv _ q;obtain⟨its,r,ht,hz⟩:=I4.tuple hx;have hlen:its.toArray.size=xs.length:=by rw[zA8];exact r.length.symm
 refine tail_any (ops:=[.ref a,.ref s2.heap.objs.size]) ht.typeIs PyProof.Rows.slot_tuple_getitem.lookup ?_ (by with_unfolding_all rfl);refine oM ht (Heap.IsSliceOf.new ..) (by rw[hlen];exact hz) ?_;refine⟨.ref (s2.heap.push {cls:=.type "slice",data:=.fields #[.none,.none,.int (-1) t]}).objs.size,_,I4.laid (t':=s2.toks) (o:=.tup xs.reverse) (λb ob q=>zAv _ q) (zA3 _) ?_,rfl,q _ (I4.hok.fresh (zA3 _))⟩;exact⟨by rw[List.length_reverse];exact hz,_,r.reverse,IsTup.new _ _⟩
end
end L2
namespace L2.ZT
open PySem PySem.Spec PyProof.Rows L2
section
theorem vG{z TI TO i1 i2 l1 l2:Addr}(D:ZipApart z TI TO i1 i2 l1 l2)
  (hz:IsZip s.heap z TI TO .none) (qv:IsPair s.heap TI (.ref i1) (.ref i2)) (Fh:IsPair s.heap TO a b)
  (h1:Io t1 s.heap i1 l1 k) (h2:Io t2 s.heap i2 l2 k) (bX:Sq t1 s.heap l1 xs) (cx:Sq t2 s.heap l2 ys) (hx:xs[k]?=some x) (hy:ys[k]?=some y)
  (hQ:∀h',IsZip h' z TI TO (rawInt s.heap.objs.size)->IsPair h' TO x y->Io t1 h' i1 l1 (k+1)->Io t2 h' i2 l2 (k+1)->IsPair h' s.heap.objs.size x y->h'.objs.size=s.heap.objs.size+1->
   (∀c o,c≠z->c≠TO->c≠i1->c≠i2->s.heap.get? c=some o->h'.get? c=some o)->Q (some (.ref s.heap.objs.size)) {s with heap:=h'}):
  wpAny (model prog w) A (pyNext (.ref z)) Q E s:=by
 have hT:s.TypeIs (.ref z) "zip":=⟨_,hz,rfl⟩
 unfold pyNext;refine zAt (wpAny_attempt (wpAny_callSpecial?_slot (name:=Str.ofString "__next__") hT F.slot_zip_next (wpAny_call_entry F.slot_zip_next hT F.entry_zip_next ?_ (F.args_zip_next_1 _))));show wpAny _ _ (field (.ref z) 2>>=_) _ _ _;refine zAt (wpAny_field hz rfl (x:=.bool false) rfl ?_);show wpAny _ _ (field (.ref z) 3>>=_) _ _ _;refine zAt (wpAny_field hz rfl (x:=.ref TI) rfl (zAt (wpAny_seqItems qv rfl ?_)));refine zAt ?_;unfold Builtin.SmallTypes.ownedTupleIsFree;refine zAt (wpAny_field hz rfl (x:=.none) rfl (zAx ?_));simp only[if_true];refine zAt (wpAny_rule (zAt (wpAny_field hz rfl (x:=.ref TO) rfl (zAt (wpAny_setField_rec hz z01 λg1 z1 s1=>?_)))))
 replace z1:IsZip g1 z TI TO .ellipsis:=z1
 refine zAt ?_;simp only[List.zipIdx_cons,List.zipIdx_nil,List.forIn_cons,List.forIn_nil];refine zAt (zAt (wpAny_onRaise ?_));show wpAny _ _ (Builtin.SmallTypes.nextOf (.ref i1)>>=_) _ _ _;refine zAt (nx (h1.extBut s1.extBut D.i1z) (bX.extBut s1.extBut D.l1z) hx λg2 q1 s2=>zAx ?_);have o2:IsPair g2 TO a b:=s2.extBut _ _ D.TOi1 (s1.extBut _ _ D.TOz Fh);refine zAt (wpAny_seqItems o2 rfl (zAt (wpAny_updateSeq_pair o2 λg3 o3 s3=>?_)))
 replace o3:IsPair g3 TO x b:=o3
 refine zAt (wpAny_letGo (zAx (zAt (zAt (wpAny_onRaise ?_)))));show wpAny _ _ (Builtin.SmallTypes.nextOf (.ref i2)>>=_) _ _ _;refine zAt (nx (((h2.extBut s1.extBut D.i2z).extBut s2.extBut D.i12.symm).extBut s3.extBut D.TOi2.symm) (((cx.extBut s1.extBut D.l2z).extBut s2.extBut D.l2i1).extBut s3.extBut D.l2TO) hy λg4 q2 s4=>zAx ?_);have o4:IsPair g4 TO x b:=s4.extBut _ _ D.TOi2 o3;refine zAt (wpAny_seqItems o4 rfl (zAt (wpAny_updateSeq_pair o4 λg5 o5 s5=>?_)))
 replace o5:IsPair g5 TO x y:=o5
 refine zAt (wpAny_letGo (zAx (zAx (zAt (wpAny_seqItems o5 rfl (zAt (wpAny_newTuple ?_)))))));have hsz:g5.objs.size=s.heap.objs.size:=by rw[s5.1,s4.1,s3.1,s2.1,s1.1]
 have z5:IsZip g5 z TI TO .ellipsis:=s5.extBut _ _ D.TOz.symm (s4.extBut _ _ D.i2z.symm (s3.extBut _ _ D.TOz.symm (s2.extBut _ _ D.i1z.symm z1)));have k5:∀c o,c≠z->c≠TO->c≠i1->c≠i2->s.heap.get? c=some o->g5.get? c=some o:=λc o c1 c2 c3 c4 e=>s5.extBut _ _ c2 (s4.extBut _ _ c4 (s3.extBut _ _ c2 (s2.extBut _ _ c3 (s1.extBut _ _ c1 e))));have p1:Io t1 g5 i1 l1 (k+1):=((q1.extBut s3.extBut D.TOi1.symm).extBut s4.extBut D.i12).extBut s5.extBut D.TOi1.symm;have p2:Io t2 g5 i2 l2 (k+1):=q2.extBut s5.extBut D.TOi2.symm;have NY:z<g5.objs.size:=zB0 z5;refine zAt ?_;unfold Builtin.SmallTypes.ownedTupleHandOut;have z6:IsZip (g5.push {cls:=.type "tuple",data:=.seq #[x,y]}) z TI TO .ellipsis:=zAv _ z5;refine zAt (wpAny_setField_rec z6 z01 λg7 z7 s7=>?_)
 replace z7:IsZip g7 z TI TO (rawInt g5.objs.size):=z7
 refine wpAny_setField_rec z7 z01 λg8 z8 s8=>?_
 replace z8:IsZip g8 z TI TO (rawInt g5.objs.size):=z8
 have up:∀c o,c≠z->g5.get? c=some o->g8.get? c=some o:=λc o c1 e=>s8.extBut _ _ c1 (s7.extBut _ _ c1 (zAv _ e));have t8:IsPair g8 g5.objs.size x y:=s8.extBut _ _ (Zar NY) (s7.extBut _ _ (Zar NY) (zB1 _ rfl));have n8:g8.objs.size=g5.objs.size+1:=by rw[s8.1,s7.1,Heap.size_push]
 rw[hsz]at z8 t8 n8;refine zAx ⟨_,rfl,zAx ?_⟩;show Q (some (.ref g5.objs.size)) _;rw[hsz];exact hQ g8 z8 (up _ _ D.TOz o5) (p1.at λo e=>up _ o D.i1z e) (p2.at λo e=>up _ o D.i2z e) t8 n8 λc o c1 c2 c3 c4 e=>up c o c1 (k5 c o c1 c2 c3 c4 e)
theorem xQ{z TI TO i1 i2 l1 l2:Addr}(hh:A.handled=none)(D:ZipApart z TI TO i1 i2 l1 l2)
  (hz:IsZip s.heap z TI TO .none) (qv:IsPair s.heap TI (.ref i1) (.ref i2)) (Fh:IsPair s.heap TO a b) (h1:Io t1 s.heap i1 l1 k) (bX:Sq t1 s.heap l1 xs) (hx:xs[k]?=none)
  (hQ:∀h',(∀c o,c≠z->c≠i1->s.heap.get? c=some o->h'.get? c=some o)->Q none {s with heap:=h'}):wpAny (model prog w) A (pyNext (.ref z)) Q E s:=by
 have hT:s.TypeIs (.ref z) "zip":=⟨_,hz,rfl⟩
 refine zAt (wpAny_attempt (wpAny_callSpecial?_slot (name:=Str.ofString "__next__") hT F.slot_zip_next (wpAny_call_entry F.slot_zip_next hT F.entry_zip_next ?_ (F.args_zip_next_1 _))));show wpAny _ _ (field (.ref z) 2>>=_) _ _ _;refine zAt (wpAny_field hz rfl (x:=.bool false) rfl ?_);refine zAt (wpAny_field hz rfl (x:=.ref TI) rfl (zAt (wpAny_seqItems qv rfl ?_)));refine zAt ?_;refine zAt (wpAny_field hz rfl (x:=.none) rfl (zAx ?_));refine zAt (wpAny_rule (zAt (wpAny_field hz rfl (x:=.ref TO) rfl (zAt (wpAny_setField_rec hz z01 λg1 z1 s1=>?_)))))
 replace z1:IsZip g1 z TI TO .ellipsis:=z1
 refine zAt ?_;refine zAt (zAt (wpAny_onRaise ?_));refine zAt (xP hh (h1.extBut s1.extBut D.i1z) (bX.extBut s1.extBut D.l1z) hx λg2 e s2 he=>?_);obtain⟨oe,IM,N0⟩:=he;have z2:IsZip g2 z TI TO .ellipsis:=s2 _ _ D.i1z.symm z1
 have R1:e≠z:=λq=>by
  subst q;rw[z2]at IM;cases IM;simp at N0
 refine wpAny_setField_rec z2 z01 λg3 _ s3=>?_;refine zAt (wpAny_isInstance (T:="StopIteration") (b:=true) ⟨oe,s3.extBut _ _ R1 IM,N0⟩ isSubtype_stop (zAx (hQ _ λc o c1 c2 q=>s3.extBut _ _ c1 (s2 _ _ c2 (s1.extBut _ _ c1 q)))))
end
abbrev zA(t1:Bool)(h:Heap)(t:Addr):Heap:=h.push {cls:=.type (nm t1),data:=.fields #[.ref t,.int 0 0]}
abbrev zB(t1 t2:Bool)(h:Heap)(t l:Addr):Heap:=(zA t1 h t).push {cls:=.type (nm t2),data:=.fields #[.ref l,.int 0 0]}
abbrev zC(t1 t2:Bool)(h:Heap)(t l:Addr):Heap:=(zB t1 t2 h t l).push {cls:=.type "tuple",data:=.seq #[.ref h.objs.size,.ref (zA t1 h t).objs.size]}
abbrev zD(t1 t2:Bool)(h:Heap)(t l:Addr):Heap:=(zC t1 t2 h t l).push {cls:=.type "tuple",data:=.seq #[.none,.none]}
abbrev zE(t1 t2:Bool)(h:Heap)(t l:Addr):Heap:=(zD t1 t2 h t l).push {cls:=.type "zip",data:=.fields #[.none,.bool false,.bool false,.ref (zB t1 t2 h t l).objs.size,.ref (zC t1 t2 h t l).objs.size]}
theorem ue(t l:Addr)(xs ys:Array Value):
  Meets (Builtin.«zip.__new__» ⟨[.type "zip",.ref t,.ref l],[]⟩) (λ_ R s=>Sq t1 s.heap t xs/\Sq t2 s.heap l ys/\R (.ok (.ret (.ref (zD t1 t2 s.heap t l).objs.size))) {s with heap:=zE t1 t2 s.heap t l}):=
 .of_wp λprog w A R s h=>by
  obtain⟨hp,g,d,tk,os⟩:=s;obtain⟨ht,hl,h⟩:=h;have B7:=sub_zip;have hT:Sq t1 (Shared.heap ⟨hp,g,d,tk,os⟩) t xs:=ht;have hL:Sq t2 (Shared.heap ⟨hp.push {cls:=.type (nm t1),data:=.fields #[.ref t,.int 0 0]},g,d,tk,os⟩) l ys:=hl.at λo e=>zAv _ e
  wp_walk using pW hT,pW hL
  exact⟨_,rfl,h⟩
theorem vH{s:Shared}(ht:Sq t1 s.heap t xs)(hl:Sq t2 s.heap l ys)
  (h:∀h',IsZip h' (s.heap.objs.size+4) (s.heap.objs.size+2) (s.heap.objs.size+3) .none->IsPair h' (s.heap.objs.size+2) (.ref s.heap.objs.size) (.ref (s.heap.objs.size+1))->IsPair h' (s.heap.objs.size+3) .none .none->
   Io t1 h' s.heap.objs.size t 0->Io t2 h' (s.heap.objs.size+1) l 0->(∀c o,s.heap.get? c=some o->h'.get? c=some o)->Q (.ref (s.heap.objs.size+4)) {s with heap:=h'}):
  wpAny (model prog w) A (call (.type "zip") [.ref t,.ref l]) Q E s:=by
 refine callType_new F.called_zip z02 (F.typeCall_zip_2 _ _) (F.newCall_zip_2 _ _) (λobj=>F.args_object_init_3 obj _ _) F.entry_zip_new (ue t l xs ys) ⟨ht,hl,?_⟩;have e1:(zA t1 s.heap t).objs.size=s.heap.objs.size+1:=Heap.size_push ..;have e2:(zB t1 t2 s.heap t l).objs.size=s.heap.objs.size+2:=by rw[Heap.size_push,e1]
 have e3:(zC t1 t2 s.heap t l).objs.size=s.heap.objs.size+3:=by rw[Heap.size_push,e2]
 have e4:(zD t1 t2 s.heap t l).objs.size=s.heap.objs.size+4:=by rw[Heap.size_push,e3]
 have N1:∀{c o},(zD t1 t2 s.heap t l).get? c=some o->(zE t1 t2 s.heap t l).get? c=some o:=λe=>zAv _ e;have N3:∀{c o},(zC t1 t2 s.heap t l).get? c=some o->(zE t1 t2 s.heap t l).get? c=some o:=λe=>N1 (zAv _ e);have N4:∀{c o},(zB t1 t2 s.heap t l).get? c=some o->(zE t1 t2 s.heap t l).get? c=some o:=λe=>N3 (zAv _ e);have up1:∀{c o},(zA t1 s.heap t).get? c=some o->(zE t1 t2 s.heap t l).get? c=some o:=λe=>N4 (zAv _ e);have g5:(zE t1 t2 s.heap t l).get? (zD t1 t2 s.heap t l).objs.size=some _:=zB1 _ rfl;have g4:(zE t1 t2 s.heap t l).get? (zC t1 t2 s.heap t l).objs.size=some _:=N1 (zB1 _ rfl);have g3:(zE t1 t2 s.heap t l).get? (zB t1 t2 s.heap t l).objs.size=some _:=N3 (zB1 _ rfl);have g2:(zE t1 t2 s.heap t l).get? (zA t1 s.heap t).objs.size=some _:=N4 (zB1 _ rfl);have g1:(zE t1 t2 s.heap t l).get? s.heap.objs.size=some _:=up1 (zB1 _ rfl);rw[e4,e2,e3]at g5;rw[e2,e1]at g3;rw[e3]at g4;rw[e1]at g2;rw[e4];exact⟨⟨_,g5,rfl⟩,h _ g5 g3 g4 ⟨_,g1,rfl,rfl⟩ ⟨_,g2,rfl,rfl⟩ λc o x=>up1 (zAv _ x)⟩
def Itz(t1 t2:Bool)(K:Frag)(a b:Addr):It:=
 ⟨λi H=>∃xs ys x y,SQ t1 K H a xs/\SQ t2 K H b ys/\xs[i]?=some x/\ys[i]?=some y,
  λi H v H'=>∃T,H T=none/\v=.ref T/\∀xs ys,SQ t1 K H a xs->SQ t2 K H b ys->∃x y,xs[i]?=some x/\ys[i]?=some y/\H'=upd H T (.tup [x,y]),
  λi H=>∃xs,SQ t1 K H a xs/\xs.length<=i⟩
def tnz(t1 t2:Bool)(z TI TO i1 i2 a b:Addr)(i:Nat)(h:Heap):Prop:=IsZip h z TI TO .none/\IsPair h TI (.ref i1) (.ref i2)/\(∃u v,IsPair h TO u v)/\Io t1 h i1 a i/\Io t2 h i2 b i
theorem Dh{K:Frag}{z TI TO i1 i2 a b:Addr}(D:ZipApart z TI TO i1 i2 a b):
  Turn P w K (.Tuple es k pos) (Itz t1 t2 K a b) [z,TI,TO,i1,i2] z (tnz t1 t2 z TI TO i1 i2 a b) where
 mem:=by simp
 obj:=λi h st c hc=>by
  obtain⟨s1,s2,⟨u,v,s3⟩,⟨o4,s4,c4,d4⟩,⟨o5,s5,c5,d5⟩⟩:=st;simp only[List.mem_cons,List.not_mem_nil,or_false]at hc;rcases hc with e|e|e|e|e<;>subst e
  .exact⟨_,s1,λv q=>by cases q⟩
  .exact⟨_,s2,λv q=>by cases q⟩
  .exact⟨_,s3,λv q=>by cases q⟩
  .exact⟨_,s4,λv q=>by rw[d4]at q;cases q⟩
  .exact⟨_,s5,λv q=>by rw[d5]at q;cases q⟩
 keep:=λi h h' st kp=>by
  obtain⟨s1,s2,⟨u,v,s3⟩,s4,s5⟩:=st;exact⟨kp z z01 _ s1,kp TI z01 _ s2,⟨u,v,kp TO z01 _ s3⟩,s4.at λo e=>kp i1 z01 o e,s5.at λo e=>kp i2 z01 o e⟩
 item:=by
  intro X hP hw hK hc i z06 s σ H E I hf st hg;subst hP hw hK;obtain⟨s1,s2,⟨u,v,s3⟩,s4,s5⟩:=st;obtain⟨xs,ys,x,y,qr,N9,hx,hy⟩:=hg;obtain⟨its,rv,p,_⟩:=oF I qr;obtain⟨R4,hU,q,_⟩:=oF I N9;obtain⟨ux,Fc,rx⟩:=rv.get hx;obtain⟨uy,R5,ry⟩:=hU.get hy;refine vG D s1 s2 s3 s4 s5 p q (x:=ux) (y:=uy) (by simpa using Fc) (by simpa using R5) λh1 g1 g2 g3 g4 g5 g6 kp=>?_;refine⟨_,rfl,?_⟩;refine wpAny_letOwnedTupleGo_zip g1 λh2 e1 sb=>?_
  have ne:∀c,c∈[z,TI,TO,i1,i2]->c≠s.heap.objs.size:=λc ax e=>by
   obtain⟨f0,f1,f2,f3,f4,f5⟩:=hf c ax
   have:∃o,s.heap.get? c=some o:=by
    simp only[List.mem_cons,List.not_mem_nil,or_false]at ax;rcases ax with q|q|q|q|q<;>subst q
    .exact⟨_,s1⟩
    .exact⟨_,s2⟩
    .exact⟨_,s3⟩
    .obtain⟨o,h,_⟩:=s4;exact⟨o,h⟩
    .obtain⟨o,h,_⟩:=s5;exact⟨o,h⟩
   obtain⟨o,ho⟩:=this;exact absurd (zB0 ho) (by rw[e];exact Zak _)
  have hT:H s.heap.objs.size=none:=I.hok.fresh (zA3 _)
  have kept:∀c o,c∉[z,TO,i1,i2]->s.heap.get? c=some o->h2.get? c=some o:=λc o ax e=>
   sb.extBut _ _ (λq=>ax (by simp[q])) (kp c o (λq=>ax (by simp[q])) (λq=>ax (by simp[q])) (λq=>ax (by simp[q])) (λq=>ax (by simp[q])) e)
  have B8:∀c,c∈[z,TO,i1,i2]->c∈[z,TI,TO,i1,i2]:=λc ax=>by
   simp only[List.mem_cons,List.not_mem_nil,or_false]at ax⊢;rcases ax with q|q|q|q<;>simp[q]
  have trk:∀c o,H c=some o->c∉[z,TO,i1,i2]:=λc o e ax=>by
   have:=(hf c (B8 c ax)).1;rw[e]at this;cases this
  have vE:h2.get? s.heap.objs.size=some {cls:=.type "tuple",data:=.seq #[ux,uy]}:=sb.extBut _ _ (Ne.symm (ne z z01)) g5
  have mv:HOk X.prog X.w (upd H s.heap.objs.size (.tup [x,y])) h2:=λc o e=>by
   by_cases hb:c=s.heap.objs.size
   .subst hb;rw[aa]at e;cases e;exact⟨by show 2<=sizeLine;decide,[ux,uy],.cons rx (.cons ry .nil),_,vE,rfl,_,rfl⟩
   .rw[aA hb]at e
    refine(I.hok c o e).stay (λd v hd q=>kept d v ?_ q) (λd q=>by rw[aA (aD q hT)];exact q) λd l q=>by rw[aA (aD q hT)];exact q
    rcases hd with e'|e'
    .rw[e'];exact trk c o e
    .exact trk d _ e'
  have I2:Inv X z06 σ (upd H s.heap.objs.size (.tup [x,y])) {s with heap:=h2}:=by
   refine I.step (g':=s.gens) (d':=s.drawn) (t':=s.toks) (ch:=[z,TO,i1,i2]) (λc ax=>?_) (λc o _ _ hn e _=>kept c o hn e) (λc o _ _ hn e _=>⟨o.slots,kept c o hn e⟩)
    (λc o _ e n=>by rw[aA (zB5 (zB0 e))];exact n) (λc o hn e=>⟨o,kept c o hn e⟩) (λc l e=>by rw[aA (aD e hT)];exact e) (λc o l e=>by rw[aA (aD e hT)];exact e)
    (λc l e=>⟨#[],by rw[aA (aD e hT),e];simp⟩) (λm hm=>?_) mv I.bare
   .obtain⟨f0,f1,f2,f3,f4,f5⟩:=hf c (B8 c ax);exact⟨f3,f1,f4,f5⟩
   .obtain⟨o,fN,ep,ho,r⟩:=hm;refine⟨o,fN,ep,kept _ o (λax=>?_) ho,r⟩;exact(hf _ (B8 _ ax)).2.1 rfl
  refine⟨.ref s.heap.objs.size,_,I2,rfl,⟨s.heap.objs.size,hT,rfl,λRZ gg IL R6=>⟨x,y,?_,?_,rfl⟩⟩,⟨e1,?_,?_,?_,?_⟩,λc ax=>?_⟩
  .rw[xO I IL qr];exact hx
  .rw[xO I R6 N9];exact hy
  .exact sb.extBut _ _ D.TIz (kp _ _ D.TIz D.TITO D.TIi1 D.TIi2 s2)
  .exact⟨_,_,sb.extBut _ _ D.TOz g2⟩
  .exact g3.extBut sb.extBut D.i1z
  .exact g4.extBut sb.extBut D.i2z
  .rw[aA (ne c ax)];exact(hf c ax).1
 done:=by
  intro X hP hw hK hc i z06 s σ H E I hf st hg;subst hP hw hK;obtain⟨s1,s2,⟨u,v,s3⟩,s4,s5⟩:=st;obtain⟨xs,qr,hlen⟩:=hg;obtain⟨its,rv,p,_⟩:=oF I qr;have hl:=rv.length
  refine xQ (I.ok.hd hc) D s1 s2 s3 s4 p (by simp;lia) λh' kp=>⟨rfl,?_⟩
  refine I.step (h':=h') (H':=H) (g':=s.gens) (d':=s.drawn) (t':=s.toks) (ch:=[z,i1]) (λc ax=>?_) (λc o _ _ hn e _=>kp c o (λq=>hn (by simp[q])) (λq=>hn (by simp[q])) e)
   (λc o _ _ hn e _=>⟨o.slots,kp c o (λq=>hn (by simp[q])) (λq=>hn (by simp[q])) e⟩) (λc o _ e n=>n) (λc o hn e=>⟨o,kp c o (λq=>hn (by simp[q])) (λq=>hn (by simp[q])) e⟩)
   (λ_ _ e=>e) (λ_ _ _ e=>e) (λc l e=>⟨#[],by rw[e];simp⟩) (λm hm=>?_) (λc o e=>?_) I.bare
  .have:c∈[z,TI,TO,i1,i2]:=by
    simp only[List.mem_cons,List.not_mem_nil,or_false]at ax⊢;rcases ax with q|q<;>simp[q]
   obtain⟨f0,f1,f2,f3,f4,f5⟩:=hf c this;exact⟨f3,f1,f4,f5⟩
  .obtain⟨o,fN,ep,ho,r⟩:=hm;exact⟨o,fN,ep,kp _ o (Ne.symm (hf z z01).2.1) (Ne.symm (hf i1 z01).2.1) ho,r⟩
  .have nn:∀d v c',c'∈[z,TI,TO,i1,i2]->H d=some v->d≠c':=λd v c' ax q e'=>by
    have:=(hf c' ax).1;rw[<-e',q]at this;cases this
   have nz:∀d v,H d=some v->d≠z/\d≠i1:=λd v q=>⟨nn d v z z01 q,nn d v i1 z01 q⟩
   refine(I.hok c o e).stay (λd v hd q=>?_) (λ_ q=>q) λ_ _ q=>q;rcases hd with e'|e'
   .rw[e']at q⊢;exact kp c v (nz c o e).1 (nz c o e).2 q
   .exact kp d v (nz d _ e').1 (nz d _ e').2 q
 self:=λ_ _ _ _ _ st h=>wpAny_pyIter_zip st.1 h
section
def Ny(t1 t2:Bool)(K:Frag)(t:TA):TI:=λσ H R=>t σ H λvs H1=>∃a b xs ys,vs=[.ref a,.ref b]/\SQ t1 K H1 a xs/\SQ t2 K H1 b ys/\R (Itz t1 t2 K a b) H1
theorem pi_zip(t1 t2:Bool){es:List Expr}{k:Nat}{tp:Pos}{p pos:Pos}(hg:Gl X "zip")(hm:X.mg "zip"=none)(ha:PA X [a,b] ta)(hs:starEach [a,b] X.env=[(false,eval a X.env),(false,eval b X.env)]:=by rfl)(se:starEach [b] X.env=[(false,eval b X.env)]:=by rfl):
  PI X (.Tuple es k tp) (.Call (.Name "zip" p) [a,b] [] pos) (Ny t1 t2 X.K ta):=by
 intro z06 s σ H R I h;refine Call_ (j6 I hg hm boot_zip (PyProof.Rows.callWith_type1 (thn (ha pos z06 s σ H _ I h) λus s1=>?_) (by rw[hs,se]) (by rw[se];rfl)));rintro⟨vs,H1,I1,r1,q1⟩;obtain⟨x,y,xs,ys,e,hx,hy,q⟩:=q1;subst e;obtain⟨u,v,rfl,ru,rv⟩:=vals2 r1;cases ru;cases rv;obtain⟨its,_,p1,_⟩:=oF I1 hx;obtain⟨R4,_,p2,_⟩:=oF I1 hy;refine vH p1 p2 λh' z1 z2 z3 z4 z5 kp=>?_;refine wpAny_pyIter_zip z1 ?_;have lx:x<s1.heap.objs.size:=by obtain⟨_,e,_⟩:=p1;exact zB0 e
 have ly:y<s1.heap.objs.size:=by obtain⟨_,e,_⟩:=p2;exact zB0 e
 refine⟨_,_,_,_,H1,rfl,I1.kept (t':=s1.toks) kp,Dh (zipApart_new lx ly),⟨z1,z2,⟨_,_,z3⟩,z4,z5⟩,λc hc=>?_,q⟩;have hle:s1.heap.objs.size<=c:=by grind
 exact I1.fpOk hle (I1.hok.fresh hle)
end
end L2.ZT
namespace L2
open PySem PySem.Spec PyProof.Rows PySem.Calls
section
theorem gM(hc:X.calm=true):dH X (.builtin "sum") (λxs H Q=>∃(p:Addr) (ns:UV),xs=[.ref p]/\(SqL X.K H p (ns.map V.int)\/SqT X.K H p (ns.map V.int))/\Q (.int ns.sum) H):=by
 intro z06 s σ H xs us Q I r h;obtain⟨p,ns,rfl,hq,q⟩:=h;obtain⟨u,rfl,ru⟩:=vals1 r;cases ru
 have go:∀its:List Value,Vals (ns.map V.int) its->∃zs:Array (Int×Tok),its.toArray=intItems zs/\preSum (numAt zs) zs.size=ns.sum:=λits rv=>by
  have hi:IntsAre its ns:=intsAre_of rv;obtain⟨zs,ez⟩:=(hi.allInts:AllInts its.toArray).items;refine⟨zs,ez,?_⟩;have en:numsOf its.toArray.toList=ns:=hi.numsOf;rw[ez,nums_intItems]at en;rw[preSum_eq,Zal z01,en]
 rcases hq with hq|hq
 .obtain⟨its,rv,pl,hz⟩:=I.list hq;obtain⟨zs,ez,es⟩:=go its rv;refine sum_intListG (I.ok.hd hc) (ez▸pl.isList) λh' tk t' hk=>?_;rw[es];exact⟨.int _,H,I.kept (t':=tk) hk,⟨t',rfl⟩,q⟩
 .obtain⟨its,rv,pl,hz⟩:=I.tuple hq;obtain⟨zs,ez,es⟩:=go its rv;have ht:s.heap.IsTuple p its.toArray:=pl;refine PySem.W.ktm_sumG (I.ok.hd hc) (ez▸ht) λh' tk t' hk=>?_;rw[es];exact⟨.int _,H,I.kept (t':=tk) hk,⟨t',rfl⟩,q⟩
end
section
open PySem.W
end
section
end
end L2
namespace So
open PySem PyProof.Rows
def iu:Bool->Keyed->Array Keyed->Nat->Nat->Nat->StateT SortSt Sem (Option Nat):=sortPriv% PySem.Builtin.gallop
section
def LtP(prog:Program)(w:World)(A:Around)(E:Value->Shared->Prop)(s:Shared)(Ok:Keyed->Prop)(st:SortSt):Prop:=
 ∀x y Q,Ok x->Ok y->(∀r,Q (some r) st)->wpS (model prog w) A E s (lt' x y) Q st
theorem bz{st:SortSt}(e:arr[i]?=some p)(h:Q p st):wpS (model prog w) A E s (elem' arr i) Q st:=by
 rw[elem'_eq,e];exact Zab h
theorem fW{st:SortSt}(hL:LtP prog w A E s Ok st)(hk:Ok key)(hn:h<n)
  (pe:∀i,i<n->∃p,arr[b+i]?=some p/\Ok p) (q:∀k,k<=n->Q (some k) st):
  wpS (model prog w) A E s (iu left key arr b n h) Q st:=by
 have hb:∀(i:Nat) (R:Option Bool->SortSt->Prop),i<n->(∀r,R (some r) st)->wpS (model prog w) A E s (do
   let x <-elem' arr (b+i)
   if left=true then lt' x key else do
    let r <-lt' key x
    pure (Option.map (λx=>!x) r)) R st:=λi R hi hR=>by
  obtain⟨p,e1,e2⟩:=pe i hi;refine Zaa (bz e1 ?_)
  cases left with
  |true=>
   rw[zAz rfl];exact hL _ _ _ e2 hk hR
  |false=>
   rw[zAy z02];exact Zaa (hL _ _ _ hk e2 λr=>Zab (hR _))
 delta iu
 refine Zaa (hb h _ hn λr=>?_)
 cases r with
 |true=>
  dsimp only;rw[zAz rfl]
  refine Zaa (wpS_mono (wpS_forRange (I:=λx c z07=>z07=st/\c.1=none/\c.2.1<c.2.2/\c.2.1<n-h/\x<c.2.2)
   (Q:=λc z07=>z07=st/\c.1=none/\c.2.1<c.2.2/\c.2.1<n-h) ?_ ?_ ⟨rfl,rfl,(by show 0<1;decide),(by show 0<n-h;lia),(by show 0<1;decide)⟩) ?_)
  .rintro x ⟨c0,l,o⟩ z07 _ hx ⟨rfl,rfl,g1,g2,g3⟩;dsimp only at g1 g2 g3⊢;by_cases ho:o≥n-h
   .rw[zAz ho];exact Zab ⟨rfl,rfl,g1,g2⟩
   .rw[zAy ho];refine Zaa (hb (h+o) _ z00 λr=>?_)
    cases r with
    |true=>
     dsimp only;rw[zAy z02];exact Zab ⟨rfl,rfl,by dsimp only;lia,by dsimp only;lia,by dsimp only;lia⟩
    |false=>
     dsimp only;rw[zAz z02];exact Zab ⟨rfl,rfl,g1,g2⟩
  .rintro⟨c0,l,o⟩ z07 ⟨rfl,rfl,g1,g2,g3⟩;exact⟨rfl,rfl,g1,g2⟩
  .rintro⟨c0,l,o⟩ z07 ⟨rfl,rfl,g1,g2⟩;dsimp only at g1 g2⊢
   refine Zaa (wpS_mono (wpS_forRange (I:=λx c cE=>cE=z07/\c.1=none/\c.2.2<=n)
    (Q:=λc cE=>cE=z07/\c.1=none/\c.2.2<=n) ?_ ?_ ⟨rfl,rfl,(by show h+min o (n-h)<=n;lia)⟩) ?_)
   .rintro x ⟨c0,l,r⟩ cE _ hx ⟨rfl,rfl,g2⟩;dsimp only at g2⊢;by_cases kP:l≥r
    .rw[zAz kP];exact Zab ⟨rfl,rfl,g2⟩
    .rw[zAy kP];refine Zaa (hb (l+(r-l) / 2) _ z00 λt=>?_)
     cases t with
     |true=>
      dsimp only;rw[zAz rfl];exact Zab ⟨rfl,rfl,g2⟩
     |false=>
      dsimp only;rw[zAy z02];exact Zab ⟨rfl,rfl,by dsimp only;lia⟩
   .rintro⟨c0,l,r⟩ cE ⟨rfl,rfl,g2⟩;exact⟨rfl,rfl,g2⟩
   .rintro⟨c0,l,r⟩ cE ⟨rfl,rfl,g1⟩;exact Zab (q _ g1)
 |false=>
  dsimp only;rw[zAy z02]
  refine Zaa (wpS_mono (wpS_forRange (I:=λx c z07=>z07=st/\c.1=none/\c.2.1<c.2.2/\c.2.1<h+1/\x<c.2.2)
   (Q:=λc z07=>z07=st/\c.1=none/\c.2.1<c.2.2/\c.2.1<h+1) ?_ ?_ ⟨rfl,rfl,(by show 0<1;decide),(by show 0<h+1;lia),(by show 0<1;decide)⟩) ?_)
  .rintro x ⟨c0,l,o⟩ z07 _ hx ⟨rfl,rfl,g1,g2,g3⟩;dsimp only at g1 g2 g3⊢;by_cases ho:o≥h+1
   .rw[zAz ho];exact Zab ⟨rfl,rfl,g1,g2⟩
   .rw[zAy ho];refine Zaa (hb (h-o) _ z00 λr=>?_)
    cases r with
    |false=>
     dsimp only;rw[zAy z02];exact Zab ⟨rfl,rfl,by dsimp only;lia,by dsimp only;lia,by dsimp only;lia⟩
    |true=>
     dsimp only;rw[zAz rfl];exact Zab ⟨rfl,rfl,g1,g2⟩
  .rintro⟨c0,l,o⟩ z07 ⟨rfl,rfl,g1,g2,g3⟩;exact⟨rfl,rfl,g1,g2⟩
  .rintro⟨c0,l,o⟩ z07 ⟨rfl,rfl,g1,g2⟩;dsimp only at g1 g2⊢
   refine Zaa (wpS_mono (wpS_forRange (I:=λx c cE=>cE=z07/\c.1=none/\c.2.2<=n)
    (Q:=λc cE=>cE=z07/\c.1=none/\c.2.2<=n) ?_ ?_ ⟨rfl,rfl,(by show h-l<=n;lia)⟩) ?_)
   .rintro x ⟨c0,l,r⟩ cE _ hx ⟨rfl,rfl,g2⟩;dsimp only at g2⊢;by_cases kP:l≥r
    .rw[zAz kP];exact Zab ⟨rfl,rfl,g2⟩
    .rw[zAy kP];refine Zaa (hb (l+(r-l) / 2) _ z00 λt=>?_)
     cases t with
     |true=>
      dsimp only;rw[zAz rfl];exact Zab ⟨rfl,rfl,g2⟩
     |false=>
      dsimp only;rw[zAy z02];exact Zab ⟨rfl,rfl,by dsimp only;lia⟩
   .rintro⟨c0,l,r⟩ cE ⟨rfl,rfl,g2⟩;exact⟨rfl,rfl,g2⟩
   .rintro⟨c0,l,r⟩ cE ⟨rfl,rfl,g1⟩;exact Zab (q _ g1)
end
abbrev Sm:=StateT SortSt Sem
def GD(lo a m:Nat):Sm AscSt:=
 forIn [a:m] ((none,a):AscSt) λ_ c=>do
  let x <-ltAt' (lo+c.snd) (lo+c.snd-1)
  match x with
  |some b=>if b=true then pure (ForInStep.done (none,c.snd))else pure (ForInStep.yield (none,c.snd+1))
  |_=>pure (ForInStep.done (some none,c.snd))
def yM(lo n m:Nat):Sm (Option Nat):=do
 reverseSlice' lo (lo+n)
 let c <-GD lo n m
 match c.fst with
 |some r=>pure r
 |none=>pure (some c.snd)
def Di(lo n m:Nat):Sm DescSt:=
 forIn [n:m] ((none,n,0):DescSt) λ_ c=>do
  let x <-ltAt' (lo+c.snd.fst) (lo+c.snd.fst-1)
  match x with
  |some b=>
   if b=true then
    if c.snd.snd>0 then do
     reverseSlice' (lo+c.snd.fst-(c.snd.snd+1)) (lo+c.snd.fst)
     pure (ForInStep.yield (none,c.snd.fst+1,0))
    else pure (ForInStep.yield (none,c.snd.fst+1,0))
   else do
    let y <-ltAt' (lo+c.snd.fst-1) (lo+c.snd.fst)
    match y with
    |some d=>
     if d=true then pure (ForInStep.done (none,c.snd.fst,c.snd.snd))
     else pure (ForInStep.yield (none,c.snd.fst+1,c.snd.snd+1))
    |_=>pure (ForInStep.done (some none,c.snd.fst,c.snd.snd))
  |_=>pure (ForInStep.done (some none,c.snd.fst,c.snd.snd))
def yN(lo n m:Nat):Sm (Option Nat):=do
 liftM (rule "list.sort.descending-run")
 let c <-Di lo (n+1) m
 match c.fst with
 |some r=>pure r
 |none=>
  if c.snd.snd>0 then do
   reverseSlice' (lo+c.snd.fst-(c.snd.snd+1)) (lo+c.snd.fst)
   yM lo c.snd.fst m
  else yM lo c.snd.fst m
theorem bc{f f':α->Sm β}(h:m=m')(h':f=f'):(m>>=f)=(m'>>=f'):=by rw[h,h']
theorem Aq(lo m:Nat):countRun' lo m=(do
  let c <-GD lo 1 m
  match c.fst with
  |some r=>pure r
  |none=>
   if(c.snd==m)=true then pure (some c.snd)
   else if c.snd>1 then do
    let x <-ltAt' lo (lo+c.snd-1)
    match x with
    |some b=>if b=true then pure (some c.snd)else do
      reverseSlice' lo (lo+c.snd)
      yN lo c.snd m
    |_=>pure none
   else yN lo c.snd m):=by
 have tl:∀n:Nat,((do
   reverseSlice' lo (lo+n)
   let mut n:=n
   for _ in[n:m]do
    let some smaller <-ltAt' (lo+n) (lo+n-1)|return none
    if smaller then break
    n:=n+1
   return some n):Sm (Option Nat))=yM lo n m:=λn=>by
  refine bc rfl (funext λu=>bc rfl (funext λc=>?_));obtain⟨r,n⟩:=c;cases r<;>rfl
 have pl:∀n:Nat,((do
   rule "list.sort.descending-run"
   let mut n:=n+1
   let mut neq:=0
   for _ in[n:m]do
    let some smaller <-ltAt' (lo+n) (lo+n-1)|return none
    if smaller then
     if neq>0 then reverseSlice' (lo+n-(neq+1)) (lo+n)
     neq:=0
    else
     let some larger <-ltAt' (lo+n-1) (lo+n)|return none
     if larger then break
     neq:=neq+1
    n:=n+1
   if neq>0 then reverseSlice' (lo+n-(neq+1)) (lo+n)
   reverseSlice' lo (lo+n)
   for _ in[n:m]do
    let some smaller <-ltAt' (lo+n) (lo+n-1)|return none
    if smaller then break
    n:=n+1
   return some n):Sm (Option Nat))=yN lo n m:=λn=>by
  refine bc rfl (funext λu=>bc rfl (funext λc=>?_));obtain⟨r,n2,q2⟩:=c
  cases r with
  |some r=>rfl
  |none=>
   dsimp only;split
   .exact bc rfl (funext λu=>tl n2)
   .exact tl n2
 unfold GD;refine bc rfl (funext λc=>?_);obtain⟨r,n⟩:=c
 cases r with
 |some r=>rfl
 |none=>
  dsimp only;split
  .rfl
  .split
   .refine bc rfl (funext λx=>?_)
    cases x with
    |none=>rfl
    |some b=>
     dsimp only;split
     .rfl
     .exact bc rfl (funext λu=>pl n)
   .exact pl n
structure SB(ks:SortKind)(ae:Array Keyed)(st:SortSt):Prop where
 kind:kindOf st=ks
 ok:failedOf st=none
 pm:(arrOf st).Perm ae
section
variable{Ok:Keyed->Prop}{ae:Array Keyed}
def LtAll(prog:Program)(w:World)(A:Around)(E:Value->Shared->Prop)(s:Shared)(Ok:Keyed->Prop)(ks:SortKind):Prop:=∀st,kindOf st=ks->LtP prog w A E s Ok st
structure Go(ks:SortKind)(ae:Array Keyed)(st z07:SortSt):Prop where
 b:SB ks ae z07
 p:pendingOf z07=pendingOf st
theorem SB.size{st:SortSt}(B:SB ks ae st):(arrOf st).size=ae.size:=B.pm.size_eq
theorem SB.item{st:SortSt}(B:SB ks ae st)(h0:∀p∈ae.toList,Ok p)(hi:i<ae.size):∃p,(arrOf st)[i]?=some p/\Ok p:=by
 have pb:i<(arrOf st).size:=by rw[B.size];exact hi
 exact⟨_,Zam pb,h0 _ ((Zaz.mp B.pm).mem_iff.mp (Array.mem_toList_iff.mpr (Array.getElem_mem pb)))⟩
theorem SB.arr{st:SortSt}(B:SB ks ae st)(h:xs.Perm (arrOf st)):SB ks ae (setArr st xs):=⟨B.kind,B.ok,h.trans B.pm⟩
theorem Go.refl{st:SortSt}(B:SB ks ae st):Go ks ae st st:=⟨B,rfl⟩
theorem Go.arr{st z07:SortSt}(g:Go ks ae st z07)(h:xs.Perm (arrOf z07)):Go ks ae st (setArr z07 xs):=⟨g.b.arr h,g.p⟩
theorem ltA(hL:LtAll prog w A E s Ok ks){st:SortSt}(B:SB ks ae st)(h0:∀p∈ae.toList,Ok p)(hi:i<ae.size)(hj:j<ae.size)(h:∀r,Q (some r) st):
  wpS (model prog w) A E s (ltAt' i j) Q st:=by
 obtain⟨p,e1,ka⟩:=B.item h0 hi;obtain⟨q,e2,kb⟩:=B.item h0 hj;exact Zaa (wpS_get (Zaa (bz e1 (Zaa (bz e2 (hL st B.kind p q Q ka kb h))))))
theorem uf{st av:SortSt}(g:Go ks ae av st)(h:∀z07,Go ks ae av z07->Q () z07):wpS (model prog w) A E s (reverseSlice' i j) Q st:=wpS_reverse (h _ (g.arr (mirror_perm _ _ _ _)))
variable(hL:LtAll prog w A E s Ok ks)(h0:∀p∈ae.toList,Ok p)
include hL h0
theorem yO{st:SortSt}{lo a m:Nat}(hn:lo+m<=ae.size)(ha:1<=a)(Ys:a<=m)(B:SB ks ae st)(h:∀n,a<=n->n<=m->Q (none,n) st):wpS (model prog w) A E s (GD lo a m) Q st:=by
 refine wpS_forRange (I:=λx c z07=>z07=st/\c=(none,x)) ?_ ?_ ⟨rfl,rfl⟩
 .rintro x c z07 IP R7 ⟨rfl,rfl⟩;refine Zaa (ltA hL B h0 z00 z00 λr=>?_)
  cases r with
  |true=>exact Zab (h x IP z00)
  |false=>exact Zab ⟨rfl,rfl⟩
 .rintro c z07 ⟨rfl,rfl⟩;exact h _ z00 z00
theorem vI{av st:SortSt}{lo n m:Nat}(hn:lo+m<=ae.size)(h1:1<=n)(vF:n<=m)(g:Go ks ae av st)
  (h:∀k z07,Go ks ae av z07->1<=k->k<=m->Q (some k) z07):wpS (model prog w) A E s (yM lo n m) Q st:=
 Zaa (uf g λz07 g'=>Zaa (yO hL h0 hn h1 vF g'.b λk k1 k2=>Zab (h k _ g' z00 k2)))
theorem Dj{av st:SortSt}{lo n m:Nat}(hn:lo+m<=ae.size)(h1:1<=n)(vF:n<=m)(g:Go ks ae av st)
  (h:∀k q z07,Go ks ae av z07->n<=k->k<=m->Q (none,k,q) z07):wpS (model prog w) A E s (Di lo n m) Q st:=by
 unfold Di;refine wpS_forRange (I:=λx c z07=>∃q,c=(none,x,q)/\Go ks ae av z07) ?_ ?_ ⟨0,rfl,g⟩
 .rintro x c z07 IP R7 ⟨q,rfl,g⟩;dsimp only;refine Zaa (ltA hL g.b h0 z00 z00 λr=>?_)
  cases r with
  |true=>
   dsimp only;rw[zAz rfl];by_cases B9:q>0
   .rw[zAz B9];exact Zaa (uf g λst2 g2=>Zab ⟨0,rfl,g2⟩)
   .rw[zAy B9];exact Zab ⟨0,rfl,g⟩
  |false=>
   dsimp only;refine Zaa (ltA hL g.b h0 z00 z00 λr=>?_)
   cases r with
   |true=>exact Zab (h x q z07 g IP z00)
   |false=>exact Zab ⟨q+1,rfl,g⟩
 .rintro c z07 ⟨q,rfl,g⟩;exact h _ q z07 g z00 z00
theorem vJ{av st:SortSt}{lo n m:Nat}(hn:lo+m<=ae.size)(vF:n+1<=m)(g:Go ks ae av st)
  (h:∀k z07,Go ks ae av z07->1<=k->k<=m->Q (some k) z07):wpS (model prog w) A E s (yN lo n m) Q st:=by
 refine Zaa (wpS_lift (wpAny_rule ⟨rfl,?_⟩));refine Zaa (Dj hL h0 hn z00 vF g λk q z07 g k1 k2=>?_);dsimp only;by_cases B9:q>0
 .rw[zAz B9];exact Zaa (uf g λst2 g2=>vI hL h0 hn z00 k2 g2 h)
 .rw[zAy B9];exact vI hL h0 hn z00 k2 g h
theorem Dk{st:SortSt}{lo m:Nat}(hn:lo+m<=ae.size)(h1:1<=m)(B:SB ks ae st)
  (h:∀k z07,Go ks ae st z07->1<=k->k<=m->Q (some k) z07):wpS (model prog w) A E s (countRun' lo m) Q st:=by
 rw[Aq];refine Zaa (yO hL h0 hn (zA3 1) h1 B λn n1 n2=>?_);dsimp only;have g:=Go.refl B;by_cases vF:n=m
 .rw[zAz (by simpa using vF)];exact Zab (h n st g n1 n2)
 .rw[zAy (by simpa using vF)];by_cases Oa:n>1
  .rw[zAz Oa];refine Zaa (ltA hL B h0 z00 z00 λr=>?_)
   cases r with
   |true=>exact Zab (h n st g n1 n2)
   |false=>exact Zaa (uf g λst2 g2=>vJ hL h0 hn z00 g2 h)
  .rw[zAy Oa];exact vJ hL h0 hn z00 g h
theorem JP{av st:SortSt}{lo n ok:Nat}(hn:lo+n<=ae.size)(g:Go ks ae av st)(h:∀z07,Go ks ae av z07->Q true z07):wpS (model prog w) A E s (binarySort' lo n ok) Q st:=by
 rw[binarySort'_eq];refine Zaa (wpS_mono (wpS_forRange (I:=λk c z07=>c=(none,())/\Go ks ae av z07) (Q:=λc z07=>c=(none,())/\Go ks ae av z07) ?_ (λc z07 h=>h) ⟨rfl,g⟩) ?_)
 .rintro k c z07 IQ Yt ⟨rfl,g⟩
  refine Zaa (wpS_mono (wpS_forRange (I:=λx c st2=>st2=z07/\∃l r,c=(none,l,r)/\l<=r/\r<=k)
   (Q:=λc st2=>st2=z07/\∃l r,c=(none,l,r)) ?_ ?_ ⟨rfl,0,k,rfl,z00,z00⟩) ?_)
  .rintro x c st2 _ Yu ⟨rfl,l,r,rfl,kP,IS⟩;dsimp only;by_cases kQ:l≥r
   .rw[zAz kQ];exact Zab ⟨rfl,l,r,rfl⟩
   .rw[zAy kQ];refine Zaa (ltA hL g.b h0 z00 z00 λt=>?_)
    cases t with
    |true=>
     dsimp only;rw[zAz rfl];exact Zab ⟨rfl,l,(l+r) / 2,rfl,z00,z00⟩
    |false=>
     dsimp only;rw[zAy z02];exact Zab ⟨rfl,(l+r) / 2+1,r,rfl,z00,z00⟩
  .rintro c st2 ⟨rfl,l,r,rfl,_⟩;exact⟨rfl,l,r,rfl⟩
  .rintro c st2 ⟨rfl,l,r,rfl⟩;show wpS _ _ _ _ (do moveDown' (lo+k) (lo+l);pure (ForInStep.yield (none,()))) _ _;rw[moveDown'_eq];exact Zaa (wpS_modify (Zab ⟨rfl,g.arr (bubble_perm _ _ _)⟩))
 .rintro c z07 ⟨rfl,g⟩;exact Zab (h z07 g)
end
def lO:Array Keyed->Array Keyed->Sm (Array Keyed):=sortPriv% PySem.Builtin.mergeLo
def lQ:Nat->Sm Unit:=sortPriv% PySem.Builtin.setMinGallop
abbrev C1:=Option (Array Keyed)×Array Keyed×Nat×Nat×Nat×Nat
abbrev C2:=Option (Array Keyed)×Array Keyed×Nat×Nat×Nat×Nat×Nat
abbrev C0:=Option (Array Keyed)×Array Keyed×Nat×Nat×Nat
def one(a b:Array Keyed)(g:Nat)(out:Array Keyed)(ia ib ac bc:Nat):Sm (ForInStep C1):=do
 let y <-elem' b ib
 let x <-elem' a ia
 let r <-lt' y x
 match r with
 |some w=>
  if w=true then do
   let y <-elem' b ib
   if(ib+1==b.size)=true then pure (ForInStep.done (some (out.push y++a.extract ia a.size++b.extract (ib+1) b.size),out.push y,ia,ib+1,0,bc+1))
   else if bc+1≥g then pure (ForInStep.done (none,out.push y,ia,ib+1,0,bc+1))else pure (ForInStep.yield (none,out.push y,ia,ib+1,0,bc+1))
  else do
   let x <-elem' a ia
   if(ia+1+1==a.size)=true then pure (ForInStep.done (some (out.push x++b.extract ib b.size++a.extract (ia+1) a.size),out.push x,ia+1,ib,ac+1,0))
   else if ac+1≥g then pure (ForInStep.done (none,out.push x,ia+1,ib,ac+1,0))else pure (ForInStep.yield (none,out.push x,ia+1,ib,ac+1,0))
 |_=>pure (ForInStep.done (some (out++a.extract ia a.size++b.extract ib b.size),out,ia,ib,ac,bc))
def gl4(a b:Array Keyed)(out:Array Keyed)(ia ib g k k1:Nat):Sm (ForInStep C2):=do
 let x <-elem' a ia
 if(ia+1+1==a.size)=true then pure (ForInStep.done (some (out.push x++b.extract ib b.size++a.extract (ia+1) a.size),out.push x,ia+1,ib,g,k,k1))
 else if(decide (k<7)&&decide (k1<7))=true then pure (ForInStep.done (none,out.push x,ia+1,ib,g,k,k1))else pure (ForInStep.yield (none,out.push x,ia+1,ib,g,k,k1))
def gl3(a b:Array Keyed)(out:Array Keyed)(ia ib g k bc:Nat):Sm (ForInStep C2):=do
 let x <-elem' a ia
 let r <-iu true x b ib (b.size-ib) 0
 match r with
 |some k1=>
  if k1>0 then
   if(ib+k1==b.size)=true then pure (ForInStep.done (some (out++b.extract ib (ib+k1)++a.extract ia a.size++b.extract (ib+k1) b.size),out++b.extract ib (ib+k1),ia,ib+k1,g,k,k1))
   else gl4 a b (out++b.extract ib (ib+k1)) ia (ib+k1) g k k1
  else gl4 a b out ia ib g k k1
 |_=>pure (ForInStep.done (some (out++a.extract ia a.size++b.extract ib b.size),out,ia,ib,g,k,bc))
def gl2(a b:Array Keyed)(out:Array Keyed)(ia ib g k bc:Nat):Sm (ForInStep C2):=do
 let y <-elem' b ib
 if(ib+1==b.size)=true then pure (ForInStep.done (some (out.push y++a.extract ia a.size++b.extract (ib+1) b.size),out.push y,ia,ib+1,g,k,bc))
 else gl3 a b (out.push y) ia (ib+1) g k bc
def gl1(a b:Array Keyed)(out:Array Keyed)(ia ib g ac bc:Nat):Sm (ForInStep C2):=do
 lQ g
 let y <-elem' b ib
 let r <-iu false y a ia (a.size-ia) 0
 match r with
 |some k=>
  if k>0 then
   if(ia+k+1==a.size)=true then pure (ForInStep.done (some (out++a.extract ia (ia+k)++b.extract ib b.size++a.extract (ia+k) a.size),out++a.extract ia (ia+k),ia+k,ib,g,k,bc))
   else if(ia+k==a.size)=true then pure (ForInStep.done (some (out++a.extract ia (ia+k)++a.extract (ia+k) a.size++b.extract ib b.size),out++a.extract ia (ia+k),ia+k,ib,g,k,bc))
   else gl2 a b (out++a.extract ia (ia+k)) (ia+k) ib g k bc
  else gl2 a b out ia ib g k bc
 |_=>pure (ForInStep.done (some (out++a.extract ia a.size++b.extract ib b.size),out,ia,ib,g,ac,bc))
def gal(a b:Array Keyed)(out:Array Keyed)(ia ib g ac bc:Nat):Sm (ForInStep C2):=if g>1 then gl1 a b out ia ib (g-1) ac bc else gl1 a b out ia ib g ac bc
def round(a b:Array Keyed)(out:Array Keyed)(ia ib g:Nat):Sm (ForInStep C0):=do
 let c <-forIn [0:a.size+b.size] ((none,out,ia,ib,0,0):C1) λ_ c=>one a b g c.2.1 c.2.2.1 c.2.2.2.1 c.2.2.2.2.1 c.2.2.2.2.2
 match c.1 with
 |some r=>pure (ForInStep.done (some r,c.2.1,c.2.2.1,c.2.2.2.1,g))
 |none=>do
  liftM (rule "list.sort.gallop")
  let d <-forIn [0:a.size+b.size] ((none,c.2.1,c.2.2.1,c.2.2.2.1,g+1,c.2.2.2.2.1,c.2.2.2.2.2):C2) λ_ d=>gal a b d.2.1 d.2.2.1 d.2.2.2.1 d.2.2.2.2.1 d.2.2.2.2.2.1 d.2.2.2.2.2.2
  match d.1 with
  |some r=>pure (ForInStep.done (some r,d.2.1,d.2.2.1,d.2.2.2.1,d.2.2.2.2.1))
  |none=>do
   lQ (d.2.2.2.2.1+1)
   pure (ForInStep.yield (none,d.2.1,d.2.2.1,d.2.2.2.1,d.2.2.2.2.1+1))
theorem fi{r:Std.Legacy.Range}{f f':Nat->β->Sm (ForInStep β)}(h:f=f'):(forIn r c f:Sm β)=forIn r c f':=by rw[h]
theorem ic{α:Type}[Decidable c]{x x' y y':α}(h:x=x')(h':y=y'):(if c then x else y)=if c then x' else y':=by rw[h,h']
theorem LK(a b:Array Keyed):lO a b=(do
  liftM (rule "list.sort.merge-lo")
  let e <-elem' b 0
  if(1==b.size)=true then pure (#[e]++a.extract 0 a.size++b.extract 1 b.size)
  else if(0+1==a.size)=true then pure (#[e]++b.extract 1 b.size++a.extract 0 a.size)
  else do
   let s <-get
   let c <-forIn [0:a.size+b.size] ((none,#[e],0,1,gallopOf s):C0) λ_ c=>round a b c.2.1 c.2.2.1 c.2.2.2.1 c.2.2.2.2
   match c.1 with
   |some r=>pure r
   |none=>liftM (unsupported "internal:list.sort.merge-bound")):=by
 delta lO
 refine bc rfl (funext λu=>bc rfl (funext λe=>ic rfl (ic rfl (bc rfl (funext λs=>bc (fi (funext λx=>funext λc=>?_)) (funext λc=>?_))))))
 .unfold round;refine bc (fi (funext λx=>funext λc1=>?_)) (funext λc1=>?_)
  .unfold one;refine bc rfl (funext λy=>bc rfl (funext λx=>bc rfl (funext λr=>?_)))
   cases r with
   |none=>rfl
   |some w=>exact ic (bc rfl (funext λy=>ic rfl (ic rfl rfl))) (bc rfl (funext λy=>ic rfl (ic rfl rfl)))
  .obtain⟨r,c1⟩:=c1
   cases r with
   |some r=>rfl
   |none=>
    refine bc rfl (funext λu=>bc (fi (funext λx=>funext λd=>?_)) (funext λd=>?_))
    .unfold gal
     refine ic ?_ ?_<;>(unfold gl1;exact bc rfl (funext λu=>bc rfl (funext λy=>bc rfl (funext λr=>by rfl))))
    .obtain⟨r,d⟩:=d;cases r<;>rfl
 .obtain⟨r,c⟩:=c;cases r<;>rfl
structure SG(st z07:SortSt):Prop where
 kind:kindOf z07=kindOf st
 arr:arrOf z07=arrOf st
 pend:pendingOf z07=pendingOf st
 fail:failedOf z07=failedOf st
theorem SG.refl(st:SortSt):SG st st:=⟨rfl,rfl,rfl,rfl⟩
theorem SG.trans(g:SG a b)(h:SG b c):SG a c:=⟨h.kind.trans g.kind,h.arr.trans g.arr,h.pend.trans g.pend,h.fail.trans g.fail⟩
structure Two(Ok:Keyed->Prop)(a b:Array Keyed):Prop where
 ka:∀p∈a.toList,Ok p
 kb:∀p∈b.toList,Ok p
theorem item{Ok:Keyed->Prop}{a:Array Keyed}(ka:∀p∈a.toList,Ok p)(hi:i<a.size):∃p,a[i]?=some p/\Ok p/\a.toList.drop i=p::a.toList.drop (i+1):=by
 refine⟨a[i],Zam hi,ka _ (Array.mem_toList_iff.mpr (Array.getElem_mem hi)),?_⟩;have:=Za0 (l:=a.toList) (i:=i) (by simpa using hi);rw[this];simp
theorem lU(a:Array Keyed)(i j:Nat):(a.extract i j).toList=(a.toList.drop i).take (j-i):=by
 rw[Array.toList_extract]
theorem oX(a:Array Keyed)(i:Nat):(a.extract i a.size).toList=a.toList.drop i:=by
 rw[lU];refine Zal ?_;rw[Za2];exact zA3 _
def M(a b out:Array Keyed)(ia ib:Nat):Prop:=(out.toList++(a.toList.drop ia++b.toList.drop ib)).Perm (a.toList++b.toList)
abbrev Rs(a b r:Array Keyed):Prop:=r.toList.Perm (a.toList++b.toList)
theorem mid(o t A R:List Keyed):(o++t++(A++R)).Perm (o++(A++(t++R))):=by
 rw[zAf,<-zAf t,<-zAf A];exact(List.perm_append_comm.append_right R).append_left o
theorem M.pushA(m:M a b out ia ib)(e:a.toList.drop ia=x::a.toList.drop (ia+1)):M a b (out.push x) (ia+1) ib:=by
 unfold M at m⊢;rw[e]at m;rw[Array.toList_push,zAf];exact m
theorem M.pushB(m:M a b out ia ib)(e:b.toList.drop ib=x::b.toList.drop (ib+1)):M a b (out.push x) ia (ib+1):=by
 unfold M at m⊢;rw[e]at m;rw[Array.toList_push];exact(mid _ [x] _ _).trans m
theorem M.segA(k:Nat)(m:M a b out ia ib):M a b (out++a.extract ia (ia+k)) (ia+k) ib:=by
 unfold M at m⊢;rw[Zag,lU,show ia+k-ia=k by lia,zAf,<-zAf (List.take _ _),<-List.drop_drop,zBg];exact m
theorem M.segB(k:Nat)(m:M a b out ia ib):M a b (out++b.extract ib (ib+k)) ia (ib+k):=by
 unfold M at m⊢;rw[Zag,lU,show ib+k-ib=k by lia];refine(mid _ _ _ _).trans ?_;rw[<-List.drop_drop,zBg];exact m
theorem M.e1(m:M a b out ia ib):Rs a b (out++a.extract ia a.size++b.extract ib b.size):=by
 unfold M at m;unfold Rs;rw[Zag,Zag,oX,oX,zAf];exact m
theorem M.e2(m:M a b out ia ib):Rs a b (out++b.extract ib b.size++a.extract ia a.size):=by
 unfold M at m;unfold Rs;rw[Zag,Zag,oX,oX,zAf];exact(List.perm_append_comm.append_left _).trans m
section
theorem jK{st:SortSt}(h:∀z07,SG st z07->Q () z07):wpS (model prog w) A E s (lQ g) Q st:=wpS_modify (h _ ⟨rfl,rfl,rfl,rfl⟩)
structure At(a b out:Array Keyed)(ia ib:Nat):Prop where
 mi:M a b out ia ib
 ha:ia+1<a.size
 hb:ib<b.size
def G2(a b:Array Keyed)(n:Nat)(st:SortSt)(r:ForInStep C2)(z07:SortSt):Prop:=SG st z07/\match r with
 |.done c=>(∃z,c.1=some z/\Rs a b z)\/(c.1=none/\At a b c.2.1 c.2.2.1 c.2.2.2.1/\n<=c.2.2.1+c.2.2.2.1)
 |.yield c=>c.1=none/\At a b c.2.1 c.2.2.1 c.2.2.2.1/\n<=c.2.2.1+c.2.2.2.1
variable(hL:LtAll prog w A E s Ok ks)(T:Two Ok a b)
include T
theorem pZ{av st:SortSt}(sg:SG av st)(m:At a b out ia ib)(hn:n<=ia+ib+1):
  wpS (model prog w) A E s (gl4 a b out ia ib g k k1) (G2 a b n av) st:=by
 obtain⟨x,x1,x2,x4⟩:=item T.ka (i:=ia) (by have:=m.ha;lia);refine Zaa (bz x1 ?_);have m':=m.mi.pushA x4;by_cases ha:ia+1+1=a.size
 .rw[zAz (by simpa using ha)];exact Zab ⟨sg,.inl ⟨_,rfl,m'.e2⟩⟩
 .rw[zAy (by simpa using ha)]
  have at':At a b (out.push x) (ia+1) ib:=⟨m',by have:=m.ha;lia,m.hb⟩
  split
  .exact Zab ⟨sg,.inr ⟨rfl,at',by dsimp only;lia⟩⟩
  .exact Zab ⟨sg,rfl,at',by dsimp only;lia⟩
include hL
theorem xR{g ia ib ac bc:Nat}{st:SortSt}(hk:kindOf st=ks)(m:At a b out ia ib):
  wpS (model prog w) A E s (one a b g out ia ib ac bc) (λr z07=>z07=st/\match r with
   |.done c=>(∃z,c.1=some z/\Rs a b z)\/(c.1=none/\At a b c.2.1 c.2.2.1 c.2.2.2.1/\ia+ib+1=c.2.2.1+c.2.2.2.1)
   |.yield c=>c.1=none/\At a b c.2.1 c.2.2.1 c.2.2.2.1/\ia+ib+1=c.2.2.1+c.2.2.2.1) st:=by
 obtain⟨x,x1,x2,x4⟩:=item T.ka (i:=ia) (by have:=m.ha;lia);obtain⟨y,y1,y2,y4⟩:=item T.kb m.hb;unfold one;refine Zaa (bz y1 (Zaa (bz x1 (Zaa (hL st hk _ _ _ y2 x2 λe=>?_)))))
 cases e with
 |true=>
  refine Zaa (bz y1 ?_);have m':=m.mi.pushB y4;by_cases hb:ib+1=b.size
  .rw[zAz (by simpa using hb)];exact Zab ⟨rfl,.inl ⟨_,rfl,m'.e1⟩⟩
  .rw[zAy (by simpa using hb)]
   have at':At a b (out.push y) ia (ib+1):=⟨m',m.ha,by have:=m.hb;lia⟩
   split
   .exact Zab ⟨rfl,.inr ⟨rfl,at',by dsimp only;lia⟩⟩
   .exact Zab ⟨rfl,rfl,at',by dsimp only;lia⟩
 |false=>
  refine Zaa (bz x1 ?_);have m':=m.mi.pushA x4;by_cases ha:ia+1+1=a.size
  .rw[zAz (by simpa using ha)];exact Zab ⟨rfl,.inl ⟨_,rfl,m'.e2⟩⟩
  .rw[zAy (by simpa using ha)]
   have at':At a b (out.push x) (ia+1) ib:=⟨m',by have:=m.ha;lia,m.hb⟩
   split
   .exact Zab ⟨rfl,.inr ⟨rfl,at',by dsimp only;lia⟩⟩
   .exact Zab ⟨rfl,rfl,at',by dsimp only;lia⟩
theorem xT{g ia ib k bc n:Nat}{av st:SortSt}(hk:kindOf st=ks)(sg:SG av st)(m:At a b out ia ib)(hn:n<=ia+ib+1):
  wpS (model prog w) A E s (gl3 a b out ia ib g k bc) (G2 a b n av) st:=by
 obtain⟨x,x1,x2,x4⟩:=item T.ka (i:=ia) (by have:=m.ha;lia);have hb:=m.hb;refine Zaa (bz x1 ?_);refine Zaa (fW (hL st hk) x2 z00 (λi hi=>?_) λk1 kn=>?_)
 .obtain⟨p,p1,p2,_⟩:=item T.kb (i:=ib+i) z00;exact⟨p,p1,p2⟩
 .by_cases h0:k1>0
  .dsimp only;rw[zAz h0];have m':=m.mi.segB k1;by_cases e:ib+k1=b.size
   .rw[zAz (by simpa using e)];exact Zab ⟨sg,.inl ⟨_,rfl,m'.e1⟩⟩
   .rw[zAy (by simpa using e)];exact pZ T sg ⟨m',m.ha,z00⟩ z00
  .dsimp only;rw[zAy h0];exact pZ T sg m hn
theorem qb{g ia ib k bc n:Nat}{av st:SortSt}(hk:kindOf st=ks)(sg:SG av st)(m:At a b out ia ib)(hn:n<=ia+ib+1):
  wpS (model prog w) A E s (gl2 a b out ia ib g k bc) (G2 a b n av) st:=by
 obtain⟨y,y1,y2,y4⟩:=item T.kb m.hb;refine Zaa (bz y1 ?_);have m':=m.mi.pushB y4;by_cases hb:ib+1=b.size
 .rw[zAz (by simpa using hb)];exact Zab ⟨sg,.inl ⟨_,rfl,m'.e1⟩⟩
 .rw[zAy (by simpa using hb)];exact xT hL T hk sg ⟨m',m.ha,by have:=m.hb;lia⟩ z00
theorem xU{g ia ib ac bc n:Nat}{av st:SortSt}(hk:kindOf st=ks)(sg:SG av st)(m:At a b out ia ib)(hn:n<=ia+ib+1):
  wpS (model prog w) A E s (gl1 a b out ia ib g ac bc) (G2 a b n av) st:=by
 obtain⟨y,y1,y2,y4⟩:=item T.kb m.hb;have ha:=m.ha;unfold gl1;refine Zaa (jK λz07 Cb=>?_);have fk:kindOf z07=ks:=Cb.kind.trans hk;have bP:SG av z07:=sg.trans Cb;refine Zaa (bz y1 ?_);refine Zaa (fW (hL z07 fk) y2 z00 (λi hi=>?_) λk kn=>?_)
 .obtain⟨p,p1,p2,_⟩:=item T.ka (i:=ia+i) z00;exact⟨p,p1,p2⟩
 .by_cases h0:k>0
  .dsimp only;rw[zAz h0];have m':=m.mi.segA k;by_cases e:ia+k+1=a.size
   .rw[zAz (by simpa using e)];exact Zab ⟨bP,.inl ⟨_,rfl,m'.e2⟩⟩
   .rw[zAy (by simpa using e)];by_cases e2:ia+k=a.size
    .rw[zAz (by simpa using e2)];exact Zab ⟨bP,.inl ⟨_,rfl,m'.e1⟩⟩
    .rw[zAy (by simpa using e2)];exact qb hL T fk bP ⟨m',z00,m.hb⟩ z00
  .dsimp only;rw[zAy h0];exact qb hL T fk bP m hn
theorem qd{av st:SortSt}(hk:kindOf st=ks)(sg:SG av st)(m:At a b out ia ib):
  wpS (model prog w) A E s (round a b out ia ib g) (λr z07=>SG av z07/\match r with
   |.done c=>∃z,c.1=some z/\Rs a b z
   |.yield c=>c.1=none/\At a b c.2.1 c.2.2.1 c.2.2.2.1/\ia+ib+1<=c.2.2.1+c.2.2.2.1) st:=by
 have R8:0<a.size+b.size:=by have:=m.ha;lia
 refine Zaa (wpS_mono (wpS_forRange (I:=λx c z07=>z07=st/\c.1=none/\At a b c.2.1 c.2.2.1 c.2.2.2.1/\ia+ib+x=c.2.2.1+c.2.2.2.1)
  (Q:=λc z07=>z07=st/\((∃z,c.1=some z/\Rs a b z)\/(c.1=none/\At a b c.2.1 c.2.2.1 c.2.2.2.1/\ia+ib+1<=c.2.2.1+c.2.2.2.1))) ?_ ?_ ⟨rfl,rfl,m,rfl⟩) ?_)
 .rintro x ⟨c0,o,i,j,ac,bc⟩ z07 _ hx ⟨rfl,rfl,m',e⟩;dsimp only at m' e⊢;refine wpS_mono (xR hL T hk m') λr st2 h2=>?_;obtain⟨rfl,h2⟩:=h2
  cases r with
  |done c=>
   rcases h2 with h2|⟨h2,h3,h4⟩
   .exact⟨rfl,.inl h2⟩
   .exact⟨rfl,.inr ⟨h2,h3,z00⟩⟩
  |yield c=>
   obtain⟨h2,h3,h4⟩:=h2;exact⟨rfl,h2,h3,z00⟩
 .rintro c z07 ⟨rfl,h1,h2,h3⟩;exact⟨rfl,.inr ⟨h1,h2,z00⟩⟩
 .rintro⟨c0,o,i,j,ac,bc⟩ z07 ⟨rfl,h⟩;dsimp only at h⊢;rcases h with⟨z,rfl,hz⟩|⟨rfl,m',Bn⟩
  .exact Zab ⟨sg,z,rfl,hz⟩
  .dsimp only;refine Zaa (wpS_lift (wpAny_rule ⟨rfl,?_⟩))
   refine Zaa (wpS_mono (wpS_forRange (I:=λx c st2=>SG av st2/\c.1=none/\At a b c.2.1 c.2.2.1 c.2.2.2.1/\ia+ib+1<=c.2.2.1+c.2.2.2.1)
    (Q:=λc st2=>SG av st2/\((∃z,c.1=some z/\Rs a b z)\/(c.1=none/\At a b c.2.1 c.2.2.1 c.2.2.2.1/\ia+ib+1<=c.2.2.1+c.2.2.2.1))) ?_ ?_ ⟨sg,rfl,m',Bn⟩) ?_)
   .rintro x ⟨c0,o,i,j,g2,ac,bc⟩ st2 _ hx ⟨bP,rfl,m2,e2⟩;dsimp only at m2 e2⊢;have IT:kindOf st2=ks:=bP.kind.trans (sg.kind.symm.trans hk);have go:∀g',wpS (model prog w) A E s (gl1 a b o i j g' ac bc) (G2 a b (ia+ib+1) av) st2:=λg'=>xU hL T IT bP m2 z00;unfold gal;split
    .refine wpS_mono (go _) λr gT h3=>?_;obtain⟨h3,h4⟩:=h3
     cases r with
     |done c=>exact⟨h3,h4⟩
     |yield c=>exact⟨h3,h4⟩
    .refine wpS_mono (go _) λr gT h3=>?_;obtain⟨h3,h4⟩:=h3
     cases r with
     |done c=>exact⟨h3,h4⟩
     |yield c=>exact⟨h3,h4⟩
   .rintro c st2 ⟨h0,h1,h2,h3⟩;exact⟨h0,.inr ⟨h1,h2,h3⟩⟩
   .rintro⟨c0,o,i,j,g2,ac,bc⟩ st2 ⟨bP,h⟩;dsimp only at h⊢;rcases h with⟨z,rfl,hz⟩|⟨rfl,m2,vS⟩
    .exact Zab ⟨bP,z,rfl,hz⟩
    .dsimp only;refine Zaa (jK λgT qA=>Zab ⟨⟨qA.kind.trans bP.kind,qA.arr.trans bP.arr,qA.pend.trans bP.pend,qA.fail.trans bP.fail⟩,rfl,m2,vS⟩)
theorem LQ(ha:0<a.size)(hb:0<b.size){st:SortSt}(hk:kindOf st=ks)
  (h:∀r z07,SG st z07->Rs a b r->Q r z07):wpS (model prog w) A E s (lO a b) Q st:=by
 rw[LK];obtain⟨y,y1,y2,y4⟩:=item T.kb hb;refine Zaa (wpS_lift (wpAny_rule ⟨rfl,?_⟩));refine Zaa (bz y1 ?_)
 have m0:M a b #[] 0 0:=by
  unfold M;exact .refl _
 have m:M a b #[y] 0 1:=m0.pushB y4;by_cases e1:1=b.size
 .rw[zAz (by simpa using e1)];exact Zab (h _ st (SG.refl _) m.e1)
 .rw[zAy (by simpa using e1)];by_cases e2:0+1=a.size
  .rw[zAz (by simpa using e2)];exact Zab (h _ st (SG.refl _) m.e2)
  .rw[zAy (by simpa using e2)];refine Zaa (wpS_get ?_)
   refine Zaa (wpS_mono (wpS_forRange (I:=λx c z07=>SG st z07/\c.1=none/\At a b c.2.1 c.2.2.1 c.2.2.2.1/\1+x<=c.2.2.1+c.2.2.2.1)
    (Q:=λc z07=>SG st z07/\∃z,c.1=some z/\Rs a b z) ?_ ?_ ⟨SG.refl _,rfl,⟨m,by dsimp only;lia,by dsimp only;lia⟩,by dsimp only;lia⟩) ?_)
   .rintro x ⟨c0,o,i,j,g⟩ z07 _ hx ⟨sg,rfl,m',e⟩;dsimp only at m' e⊢;refine wpS_mono (qd hL T (sg.kind.trans hk) sg m') λr st2 h2=>?_;obtain⟨bP,h2⟩:=h2
    cases r with
    |done c=>exact⟨bP,h2⟩
    |yield c=>
     obtain⟨h2,h3,h4⟩:=h2;exact⟨bP,h2,h3,z00⟩
   .rintro c z07 ⟨sg,h1,m',e⟩;have:=m'.ha;have:=m'.hb;exact absurd e z00
   .rintro⟨c0,o,i,j,g⟩ z07 ⟨sg,z,e,hz⟩;rw[e];exact Zab (h z z07 sg hz)
end
def lV:Array Keyed->Array Keyed->Sm (Array Keyed):=sortPriv% PySem.Builtin.mergeHi
namespace Hi
abbrev dn(a b out:Array Keyed)(na nb:Nat):Array Keyed:=a.extract 0 na++b.extract 0 nb++out.reverse
abbrev fb(a b out:Array Keyed)(na nb:Nat):Array Keyed:=b.extract 0 nb++a.extract 0 na++out.reverse
abbrev H1:=Option (Array Keyed)×Nat×Nat×Array Keyed×Nat×Nat
abbrev H2:=Option (Array Keyed)×Nat×Nat×Array Keyed×Nat×Nat×Nat
abbrev H0:=Option (Array Keyed)×Nat×Nat×Array Keyed×Nat
def one(a b:Array Keyed)(g:Nat)(na nb:Nat)(out:Array Keyed)(ac bc:Nat):Sm (ForInStep H1):=do
 let y <-elem' b (nb-1)
 let x <-elem' a (na-1)
 let r <-lt' y x
 match r with
 |some w=>
  if w=true then do
   let x <-elem' a (na-1)
   if(na-1==0)=true then pure (ForInStep.done (some (dn a b (out.push x) (na-1) nb),na-1,nb,out.push x,ac+1,0))
   else if ac+1≥g then pure (ForInStep.done (none,na-1,nb,out.push x,ac+1,0))else pure (ForInStep.yield (none,na-1,nb,out.push x,ac+1,0))
  else do
   let y <-elem' b (nb-1)
   if(nb-1==1)=true then pure (ForInStep.done (some (fb a b (out.push y) na (nb-1)),na,nb-1,out.push y,0,bc+1))
   else if bc+1≥g then pure (ForInStep.done (none,na,nb-1,out.push y,0,bc+1))else pure (ForInStep.yield (none,na,nb-1,out.push y,0,bc+1))
 |_=>pure (ForInStep.done (some (dn a b out na nb),na,nb,out,ac,bc))
def gl4(a b:Array Keyed)(na nb:Nat)(out:Array Keyed)(g k k1:Nat):Sm (ForInStep H2):=do
 let x <-elem' a (na-1)
 if(na-1==0)=true then pure (ForInStep.done (some (dn a b (out.push x) (na-1) nb),na-1,nb,out.push x,g,k,k1))
 else if(decide (k<7)&&decide (k1<7))=true then pure (ForInStep.done (none,na-1,nb,out.push x,g,k,k1))else pure (ForInStep.yield (none,na-1,nb,out.push x,g,k,k1))
def gl3(a b:Array Keyed)(na nb:Nat)(out:Array Keyed)(g k bc:Nat):Sm (ForInStep H2):=do
 let x <-elem' a (na-1)
 let r <-iu true x b 0 nb (nb-1)
 match r with
 |some t=>
  if nb-t>0 then
   if(t==1)=true then pure (ForInStep.done (some (fb a b (out++(b.extract t nb).reverse) na t),na,t,out++(b.extract t nb).reverse,g,k,nb-t))
   else if(t==0)=true then pure (ForInStep.done (some (dn a b (out++(b.extract t nb).reverse) na t),na,t,out++(b.extract t nb).reverse,g,k,nb-t))
   else gl4 a b na t (out++(b.extract t nb).reverse) g k (nb-t)
  else gl4 a b na nb out g k (nb-t)
 |_=>pure (ForInStep.done (some (dn a b out na nb),na,nb,out,g,k,bc))
def gl2(a b:Array Keyed)(na nb:Nat)(out:Array Keyed)(g k bc:Nat):Sm (ForInStep H2):=do
 let y <-elem' b (nb-1)
 if(nb-1==1)=true then pure (ForInStep.done (some (fb a b (out.push y) na (nb-1)),na,nb-1,out.push y,g,k,bc))
 else gl3 a b na (nb-1) (out.push y) g k bc
def gl1(a b:Array Keyed)(na nb:Nat)(out:Array Keyed)(g ac bc:Nat):Sm (ForInStep H2):=do
 lQ g
 let y <-elem' b (nb-1)
 let r <-iu false y a 0 na (na-1)
 match r with
 |some t=>
  if na-t>0 then
   if(t==0)=true then pure (ForInStep.done (some (dn a b (out++(a.extract t na).reverse) t nb),t,nb,out++(a.extract t na).reverse,g,na-t,bc))
   else gl2 a b t nb (out++(a.extract t na).reverse) g (na-t) bc
  else gl2 a b na nb out g (na-t) bc
 |_=>pure (ForInStep.done (some (dn a b out na nb),na,nb,out,g,ac,bc))
def gal(a b:Array Keyed)(na nb:Nat)(out:Array Keyed)(g ac bc:Nat):Sm (ForInStep H2):=if g>1 then gl1 a b na nb out (g-1) ac bc else gl1 a b na nb out g ac bc
def round(a b:Array Keyed)(na nb:Nat)(out:Array Keyed)(g:Nat):Sm (ForInStep H0):=do
 let c <-forIn [0:a.size+b.size] ((none,na,nb,out,0,0):H1) λ_ c=>one a b g c.2.1 c.2.2.1 c.2.2.2.1 c.2.2.2.2.1 c.2.2.2.2.2
 match c.1 with
 |some r=>pure (ForInStep.done (some r,c.2.1,c.2.2.1,c.2.2.2.1,g))
 |none=>do
  liftM (rule "list.sort.gallop")
  let d <-forIn [0:a.size+b.size] ((none,c.2.1,c.2.2.1,c.2.2.2.1,g+1,c.2.2.2.2.1,c.2.2.2.2.2):H2) λ_ d=>gal a b d.2.1 d.2.2.1 d.2.2.2.1 d.2.2.2.2.1 d.2.2.2.2.2.1 d.2.2.2.2.2.2
  match d.1 with
  |some r=>pure (ForInStep.done (some r,d.2.1,d.2.2.1,d.2.2.2.1,d.2.2.2.2.1))
  |none=>do
   lQ (d.2.2.2.2.1+1)
   pure (ForInStep.yield (none,d.2.1,d.2.2.1,d.2.2.2.1,d.2.2.2.2.1+1))
theorem LR(a b:Array Keyed):lV a b=(do
  liftM (rule "list.sort.merge-hi")
  let e <-elem' a (a.size-1)
  if(a.size-1==0)=true then pure (dn a b #[e] (a.size-1) b.size)
  else if(b.size==1)=true then pure (fb a b #[e] (a.size-1) b.size)
  else do
   let s <-get
   let c <-forIn [0:a.size+b.size] ((none,a.size-1,b.size,#[e],gallopOf s):H0) λ_ c=>round a b c.2.1 c.2.2.1 c.2.2.2.1 c.2.2.2.2
   match c.1 with
   |some r=>pure r
   |none=>liftM (unsupported "internal:list.sort.merge-bound")):=by
 delta lV
 refine bc rfl (funext λu=>bc rfl (funext λe=>ic rfl (ic rfl (bc rfl (funext λs=>bc (fi (funext λx=>funext λc=>?_)) (funext λc=>?_))))))
 .unfold round;refine bc (fi (funext λx=>funext λc1=>?_)) (funext λc1=>?_)
  .unfold one;refine bc rfl (funext λy=>bc rfl (funext λx=>bc rfl (funext λr=>?_)))
   cases r with
   |none=>rfl
   |some w=>exact ic (bc rfl (funext λy=>ic rfl (ic rfl rfl))) (bc rfl (funext λy=>ic rfl (ic rfl rfl)))
  .obtain⟨r,c1⟩:=c1
   cases r with
   |some r=>rfl
   |none=>
    refine bc rfl (funext λu=>bc (fi (funext λx=>funext λd=>?_)) (funext λd=>?_))
    .unfold gal
     refine ic ?_ ?_<;>(unfold gl1;exact bc rfl (funext λu=>bc rfl (funext λy=>bc rfl (funext λr=>by rfl))))
    .obtain⟨r,d⟩:=d;cases r<;>rfl
 .obtain⟨r,c⟩:=c;cases r<;>rfl
theorem GF(a:Array Keyed)(n:Nat):(a.extract 0 n).toList=a.toList.take n:=by
 simp
theorem ext_cut(a:Array Keyed)(t n:Nat):(a.extract t n).toList=(a.toList.take n).drop t:=by
 rw[lU,List.drop_take]
theorem vK(out:Array Keyed)(x:Keyed):(out.push x).reverse.toList=x::out.reverse.toList:=by simp
theorem yP(out seg:Array Keyed):(out++seg.reverse).reverse.toList=seg.toList++out.reverse.toList:=by simp
def Mh(a b out:Array Keyed)(na nb:Nat):Prop:=(a.toList.take na++(b.toList.take nb++out.reverse.toList)).Perm (a.toList++b.toList)
theorem iR{l:List Keyed}(h:t<=n):l.take n=l.take t++(l.take n).drop t:=by
 have e:=zBg t (l.take n);rw[List.take_take,show min t n=t by lia]at e;exact e.symm
theorem M3{a b:Array Keyed}(m:(a.toList.take na++(b.toList.take nb++o)).Perm out)(h:t<=na)(e:(a.toList.take na).drop t=seg):(a.toList.take t++(b.toList.take nb++(seg++o))).Perm out:=by
 rw[iR h,e,zAf]at m;exact((List.perm_append_comm_assoc _ _ _).append_left _).trans m
theorem M4{a b:Array Keyed}(m:(a.toList.take na++(b.toList.take nb++o)).Perm out)(h:t<=nb)(e:(b.toList.take nb).drop t=seg):(a.toList.take na++(b.toList.take t++(seg++o))).Perm out:=by
 rw[iR (l:=b.toList) h,e,zAf]at m;exact m
structure At(a b out:Array Keyed)(na nb:Nat):Prop where
 mi:Mh a b out na nb
 a1:1<=na
 a2:na<=a.size
 b1:2<=nb
 b2:nb<=b.size
theorem jf{Ok:Keyed->Prop}{a:Array Keyed}(ka:∀p∈a.toList,Ok p)(h1:1<=n)(h2:n<=a.size):∃p,a[n-1]?=some p/\Ok p/\(a.toList.take n).drop (n-1)=[p]:=by
 obtain⟨p,p1,p2,p4⟩:=item ka (i:=n-1) z00;refine⟨p,p1,p2,?_⟩;rw[List.drop_take,p4,show n-(n-1)=1 by lia];rfl
theorem pushA(m:Mh a b out na nb)(e:(a.toList.take na).drop (na-1)=[x]):Mh a b (out.push x) (na-1) nb:=by
 unfold Mh;rw[vK];exact M3 m z00 e
theorem pushB(m:Mh a b out na nb)(e:(b.toList.take nb).drop (nb-1)=[x]):Mh a b (out.push x) na (nb-1):=by
 unfold Mh;rw[vK];exact M4 m z00 e
theorem segA(m:Mh a b out na nb)(ht:t<=na):Mh a b (out++(a.extract t na).reverse) t nb:=by
 unfold Mh;rw[yP,ext_cut];exact M3 m ht rfl
theorem segB(m:Mh a b out na nb)(ht:t<=nb):Mh a b (out++(b.extract t nb).reverse) na t:=by
 unfold Mh;rw[yP,ext_cut];exact M4 m ht rfl
theorem e_d(m:Mh a b out na nb):Rs a b (dn a b out na nb):=by
 unfold Mh at m;unfold Rs dn;rw[Zag,Zag,GF,GF,zAf];exact m
theorem e_f(m:Mh a b out na nb):Rs a b (fb a b out na nb):=by
 unfold Mh at m;unfold Rs fb;rw[Zag,Zag,GF,GF,zAf];exact(List.perm_append_comm_assoc _ _ _).trans m
section
theorem xR(hL:LtAll prog w A E s Ok ks)(T:Two Ok a b){g na nb ac bc:Nat}{st:SortSt}(hk:kindOf st=ks)(m:At a b out na nb):
  wpS (model prog w) A E s (one a b g na nb out ac bc) (λr z07=>z07=st/\match r with
   |.done c=>(∃z,c.1=some z/\Rs a b z)\/(c.1=none/\At a b c.2.2.2.1 c.2.1 c.2.2.1/\c.2.1+c.2.2.1+1=na+nb)
   |.yield c=>c.1=none/\At a b c.2.2.2.1 c.2.1 c.2.2.1/\c.2.1+c.2.2.1+1=na+nb) st:=by
 obtain⟨mi,a1,a2,b1,b2⟩:=m;obtain⟨x,x1,x2,x4⟩:=jf T.ka a1 a2;obtain⟨y,y1,y2,y4⟩:=jf T.kb (show 1<=nb by lia) b2;unfold one;refine Zaa (bz y1 (Zaa (bz x1 (Zaa (hL st hk _ _ _ y2 x2 λe=>?_)))))
 cases e with
 |true=>
  dsimp only;refine Zaa (bz x1 ?_);have m':=pushA mi x4;by_cases h0:na-1=0
  .rw[zAz (by simpa using h0)];exact Zab ⟨rfl,.inl ⟨_,rfl,e_d m'⟩⟩
  .rw[zAy (by simpa using h0)]
   have at':At a b (out.push x) (na-1) nb:=⟨m',z00,z00,b1,b2⟩
   split
   .exact Zab ⟨rfl,.inr ⟨rfl,at',by dsimp only;lia⟩⟩
   .exact Zab ⟨rfl,rfl,at',by dsimp only;lia⟩
 |false=>
  dsimp only;refine Zaa (bz y1 ?_);have m':=pushB mi y4;by_cases h0:nb-1=1
  .rw[zAz (by simpa using h0)];exact Zab ⟨rfl,.inl ⟨_,rfl,e_f m'⟩⟩
  .rw[zAy (by simpa using h0)]
   have at':At a b (out.push y) na (nb-1):=⟨m',a1,a2,z00,z00⟩
   split
   .exact Zab ⟨rfl,.inr ⟨rfl,at',by dsimp only;lia⟩⟩
   .exact Zab ⟨rfl,rfl,at',by dsimp only;lia⟩
def G2(a b:Array Keyed)(n:Nat)(st:SortSt)(r:ForInStep H2)(z07:SortSt):Prop:=SG st z07/\match r with
 |.done c=>(∃z,c.1=some z/\Rs a b z)\/(c.1=none/\At a b c.2.2.2.1 c.2.1 c.2.2.1/\c.2.1+c.2.2.1<n)
 |.yield c=>c.1=none/\At a b c.2.2.2.1 c.2.1 c.2.2.1/\c.2.1+c.2.2.1<n
theorem pZ(T:Two Ok a b){av st:SortSt}(sg:SG av st)(m:At a b out na nb)(hn:na+nb<=n):
  wpS (model prog w) A E s (gl4 a b na nb out g k k1) (G2 a b n av) st:=by
 obtain⟨mi,a1,a2,b1,b2⟩:=m;obtain⟨x,x1,x2,x4⟩:=jf T.ka a1 a2;refine Zaa (bz x1 ?_);have m':=pushA mi x4;by_cases h0:na-1=0
 .rw[zAz (by simpa using h0)];exact Zab ⟨sg,.inl ⟨_,rfl,e_d m'⟩⟩
 .rw[zAy (by simpa using h0)]
  have at':At a b (out.push x) (na-1) nb:=⟨m',z00,z00,b1,b2⟩
  split
  .exact Zab ⟨sg,.inr ⟨rfl,at',by dsimp only;lia⟩⟩
  .exact Zab ⟨sg,rfl,at',by dsimp only;lia⟩
theorem xT(hL:LtAll prog w A E s Ok ks)(T:Two Ok a b){g na nb k bc n:Nat}{av st:SortSt}(hk:kindOf st=ks)(sg:SG av st)(m:At a b out na nb)(hn:na+nb<=n):
  wpS (model prog w) A E s (gl3 a b na nb out g k bc) (G2 a b n av) st:=by
 obtain⟨mi,a1,a2,b1,b2⟩:=id m;obtain⟨x,x1,x2,x4⟩:=jf T.ka a1 a2;unfold gl3;refine Zaa (bz x1 ?_);refine Zaa (fW (hL st hk) x2 z00 (λi hi=>?_) λt kn=>?_)
 .obtain⟨p,p1,p2,_⟩:=item T.kb (i:=0+i) z00;exact⟨p,p1,p2⟩
 .by_cases h0:nb-t>0
  .dsimp only;rw[zAz h0];have m':=segB mi (show t<=nb by lia);by_cases e:t=1
   .rw[zAz (by simpa using e)];exact Zab ⟨sg,.inl ⟨_,rfl,e_f m'⟩⟩
   .rw[zAy (by simpa using e)];by_cases e2:t=0
    .rw[zAz (by simpa using e2)];exact Zab ⟨sg,.inl ⟨_,rfl,e_d m'⟩⟩
    .rw[zAy (by simpa using e2)];exact pZ T sg ⟨m',a1,a2,z00,z00⟩ z00
  .dsimp only;rw[zAy h0];exact pZ T sg m hn
theorem qb(hL:LtAll prog w A E s Ok ks)(T:Two Ok a b){g na nb k bc n:Nat}{av st:SortSt}(hk:kindOf st=ks)(sg:SG av st)(m:At a b out na nb)(hn:na+nb<=n):
  wpS (model prog w) A E s (gl2 a b na nb out g k bc) (G2 a b n av) st:=by
 obtain⟨mi,a1,a2,b1,b2⟩:=m;obtain⟨y,y1,y2,y4⟩:=jf T.kb (show 1<=nb by lia) b2;refine Zaa (bz y1 ?_);have m':=pushB mi y4;by_cases h0:nb-1=1
 .rw[zAz (by simpa using h0)];exact Zab ⟨sg,.inl ⟨_,rfl,e_f m'⟩⟩
 .rw[zAy (by simpa using h0)];exact xT hL T hk sg ⟨m',a1,a2,z00,z00⟩ z00
theorem xU(hL:LtAll prog w A E s Ok ks)(T:Two Ok a b){g na nb ac bc n:Nat}{av st:SortSt}(hk:kindOf st=ks)(sg:SG av st)(m:At a b out na nb)(hn:na+nb<=n):
  wpS (model prog w) A E s (gl1 a b na nb out g ac bc) (G2 a b n av) st:=by
 obtain⟨mi,a1,a2,b1,b2⟩:=id m;obtain⟨y,y1,y2,y4⟩:=jf T.kb (show 1<=nb by lia) b2;refine Zaa (jK λz07 Cb=>?_);have fk:kindOf z07=ks:=Cb.kind.trans hk;have bP:SG av z07:=sg.trans Cb;refine Zaa (bz y1 ?_);refine Zaa (fW (hL z07 fk) y2 z00 (λi hi=>?_) λt kn=>?_)
 .obtain⟨p,p1,p2,_⟩:=item T.ka (i:=0+i) z00;exact⟨p,p1,p2⟩
 .by_cases h0:na-t>0
  .dsimp only;rw[zAz h0];have m':=segA mi (show t<=na by lia);by_cases e:t=0
   .rw[zAz (by simpa using e)];exact Zab ⟨bP,.inl ⟨_,rfl,e_d m'⟩⟩
   .rw[zAy (by simpa using e)];exact qb hL T fk bP ⟨m',z00,z00,b1,b2⟩ z00
  .dsimp only;rw[zAy h0];exact qb hL T fk bP m hn
theorem qd(hL:LtAll prog w A E s Ok ks)(T:Two Ok a b){av st:SortSt}(hk:kindOf st=ks)(sg:SG av st)(m:At a b out na nb):
  wpS (model prog w) A E s (round a b na nb out g) (λr z07=>SG av z07/\match r with
   |.done c=>∃z,c.1=some z/\Rs a b z
   |.yield c=>c.1=none/\At a b c.2.2.2.1 c.2.1 c.2.2.1/\c.2.1+c.2.2.1<na+nb) st:=by
 have R8:0<a.size+b.size:=by
  have:=m.a1;have:=m.a2;lia
 refine Zaa (wpS_mono (wpS_forRange (I:=λx c z07=>z07=st/\c.1=none/\At a b c.2.2.2.1 c.2.1 c.2.2.1/\c.2.1+c.2.2.1+x=na+nb)
  (Q:=λc z07=>z07=st/\((∃z,c.1=some z/\Rs a b z)\/(c.1=none/\At a b c.2.2.2.1 c.2.1 c.2.2.1/\c.2.1+c.2.2.1<na+nb))) ?_ ?_ ⟨rfl,rfl,m,rfl⟩) ?_)
 .rintro x ⟨c0,i,j,o,ac,bc⟩ z07 _ hx ⟨rfl,rfl,m',e⟩;dsimp only at m' e⊢;refine wpS_mono (xR hL T hk m') λr st2 h2=>?_;obtain⟨rfl,h2⟩:=h2
  cases r with
  |done c=>
   rcases h2 with h2|⟨h2,h3,h4⟩
   .exact⟨rfl,.inl h2⟩
   .exact⟨rfl,.inr ⟨h2,h3,z00⟩⟩
  |yield c=>
   obtain⟨h2,h3,h4⟩:=h2;exact⟨rfl,h2,h3,z00⟩
 .rintro c z07 ⟨rfl,h1,h2,h3⟩;exact⟨rfl,.inr ⟨h1,h2,z00⟩⟩
 .rintro⟨c0,i,j,o,ac,bc⟩ z07 ⟨rfl,h⟩;dsimp only at h⊢;rcases h with⟨z,rfl,hz⟩|⟨rfl,m',Bn⟩
  .exact Zab ⟨sg,z,rfl,hz⟩
  .dsimp only;refine Zaa (wpS_lift (wpAny_rule ⟨rfl,?_⟩))
   refine Zaa (wpS_mono (wpS_forRange (I:=λx c st2=>SG av st2/\c.1=none/\At a b c.2.2.2.1 c.2.1 c.2.2.1/\c.2.1+c.2.2.1<na+nb)
    (Q:=λc st2=>SG av st2/\((∃z,c.1=some z/\Rs a b z)\/(c.1=none/\At a b c.2.2.2.1 c.2.1 c.2.2.1/\c.2.1+c.2.2.1<na+nb))) ?_ ?_ ⟨sg,rfl,m',Bn⟩) ?_)
   .rintro x ⟨c0,i,j,o,g2,ac,bc⟩ st2 _ hx ⟨bP,rfl,m2,e2⟩;dsimp only at m2 e2⊢;have IT:kindOf st2=ks:=bP.kind.trans (sg.kind.symm.trans hk);have go:∀g',wpS (model prog w) A E s (gl1 a b i j o g' ac bc) (G2 a b (na+nb) av) st2:=λg'=>xU hL T IT bP m2 z00;unfold gal;split
    .refine wpS_mono (go _) λr gT h3=>?_;obtain⟨h3,h4⟩:=h3
     cases r with
     |done c=>exact⟨h3,h4⟩
     |yield c=>exact⟨h3,h4⟩
    .refine wpS_mono (go _) λr gT h3=>?_;obtain⟨h3,h4⟩:=h3
     cases r with
     |done c=>exact⟨h3,h4⟩
     |yield c=>exact⟨h3,h4⟩
   .rintro c st2 ⟨h0,h1,h2,h3⟩;exact⟨h0,.inr ⟨h1,h2,h3⟩⟩
   .rintro⟨c0,i,j,o,g2,ac,bc⟩ st2 ⟨bP,h⟩;dsimp only at h⊢;rcases h with⟨z,rfl,hz⟩|⟨rfl,m2,vS⟩
    .exact Zab ⟨bP,z,rfl,hz⟩
    .dsimp only;refine Zaa (jK λgT qA=>Zab ⟨⟨qA.kind.trans bP.kind,qA.arr.trans bP.arr,qA.pend.trans bP.pend,qA.fail.trans bP.fail⟩,rfl,m2,vS⟩)
theorem hi_wp(hL:LtAll prog w A E s Ok ks)(T:Two Ok a b)(ha:0<a.size)(hb:0<b.size){st:SortSt}(hk:kindOf st=ks)
  (h:∀r z07,SG st z07->Rs a b r->Q r z07):wpS (model prog w) A E s (lV a b) Q st:=by
 rw[LR];obtain⟨x,x1,x2,x4⟩:=jf T.ka (n:=a.size) ha (zA3 _);refine Zaa (wpS_lift (wpAny_rule ⟨rfl,?_⟩));refine Zaa (bz x1 ?_)
 have m0:Mh a b #[] a.size b.size:=by
  unfold Mh;rw[Zal (by rw[zA9];exact zA3 _),Zal (by rw[zA9];exact zA3 _)];simp
 have m:Mh a b #[x] (a.size-1) b.size:=pushA m0 x4;by_cases e1:a.size-1=0
 .rw[zAz (by simpa using e1)];exact Zab (h _ st (SG.refl _) (e_d m))
 .rw[zAy (by simpa using e1)];by_cases e2:b.size=1
  .rw[zAz (by simpa using e2)];exact Zab (h _ st (SG.refl _) (e_f m))
  .rw[zAy (by simpa using e2)];refine Zaa (wpS_get ?_)
   refine Zaa (wpS_mono (wpS_forRange (I:=λx c z07=>SG st z07/\c.1=none/\At a b c.2.2.2.1 c.2.1 c.2.2.1/\c.2.1+c.2.2.1+x<a.size+b.size)
    (Q:=λc z07=>SG st z07/\∃z,c.1=some z/\Rs a b z) ?_ ?_ ⟨SG.refl _,rfl,⟨m,by dsimp only;lia,by dsimp only;lia,by dsimp only;lia,zA3 _⟩,by dsimp only;lia⟩) ?_)
   .rintro x ⟨c0,i,j,o,g⟩ z07 _ hx ⟨sg,rfl,m',e⟩;dsimp only at m' e⊢;refine wpS_mono (qd hL T (sg.kind.trans hk) sg m') λr st2 h2=>?_;obtain⟨bP,h2⟩:=h2
    cases r with
    |done c=>exact⟨bP,h2⟩
    |yield c=>
     obtain⟨h2,h3,h4⟩:=h2;exact⟨bP,h2,h3,z00⟩
   .rintro c z07 ⟨sg,h1,m',e⟩;exact absurd e z00
   .rintro⟨c0,i,j,o,g⟩ z07 ⟨sg,z,e,hz⟩;rw[e];exact Zab (h z z07 sg hz)
end
end Hi
open PySem PyProof.Rows
def over(arr:Array Keyed)(n:Nat)(l:List Keyed):Array Keyed:=l.zipIdx.foldl (λa p=>a.setIfInBounds (n+p.2) p.1) arr
theorem yQ:∀(l:List Keyed) j n (arr:Array Keyed),n+j+l.length<=arr.size->
  (((l.zipIdx j).foldl (λa p=>a.setIfInBounds (n+p.2) p.1) arr).size=arr.size/\∀i,((l.zipIdx j).foldl (λa p=>a.setIfInBounds (n+p.2) p.1) arr)[i]?=if n+j<=i/\i<n+j+l.length then l[i-(n+j)]? else arr[i]?)
 |[],j,n,arr,_=>by
  refine⟨rfl,λi=>?_⟩;rw[zAy (by rw[List.length_nil];lia)];rfl
 |p::l,j,n,arr,h=>by
  rw[zAe]at h;rw[List.zipIdx_cons,List.foldl_cons];obtain⟨h1,h2⟩:=yQ l (j+1) n (arr.setIfInBounds (n+j) p) (by rw[Array.size_setIfInBounds];lia);refine⟨by rw[h1,Array.size_setIfInBounds],λi=>?_⟩;rw[h2 i,zAe,Array.getElem?_setIfInBounds];by_cases e:n+j=i
  .subst e;rw[zAy z00,zAz rfl,zAz z00];simp
  .rw[zAy e];by_cases e2:n+(j+1)<=i/\i<n+(j+1)+l.length
   .rw[zAz e2,zAz z00,show i-(n+j)=(i-(n+(j+1)))+1 by lia];rfl
   .rw[zAy e2,zAy z00]
theorem Ar(h:n+l.length<=arr.size):(over arr n l).toList=arr.toList.take n++l++arr.toList.drop (n+l.length):=by
 obtain⟨h1,h2⟩:=yQ l 0 n arr z00;refine List.ext_getElem? λi=>?_;rw[Zav];show((l.zipIdx 0).foldl (λa p=>a.setIfInBounds (n+p.2) p.1) arr)[i]?=_;have hl:arr.toList.length=arr.size:=zA9;rw[h2 i,zAf,List.getElem?_append,zAd,hl,show min n arr.size=n by lia,List.getElem?_append];by_cases e1:i<n
 .rw[zAy z00,zAz e1,List.getElem?_take,zAz e1,Zav]
 .rw[zAy e1];by_cases e2:i<n+l.length
  .rw[zAz z00,zAz z00];rfl
  .rw[zAy z00,zAy z00,List.getElem?_drop,Zav];congr 1;lia
theorem M5(i:Nat):mergeAt' i=(do
  let s <-get
  match(pendingOf s)[i]?,(pendingOf s)[i+1]? with
  |some p,some q=>do
   set (setPending s (((pendingOf s).setIfInBounds i (p.1,p.2.1+q.2.1,p.2.2)).eraseIdxIfInBounds (i+1)))
   let y <-elem' (arrOf s) q.1
   let r <-iu false y (arrOf s) p.1 p.2.1 0
   match r with
   |some k=>
    if(p.2.1-k==0)=true then pure true
    else do
     let x <-elem' (arrOf s) (p.1+k+(p.2.1-k)-1)
     let r <-iu true x (arrOf s) q.1 q.2.1 (q.2.1-1)
     match r with
     |some n=>
      if(n==0)=true then pure true
      else do
       let m <-if p.2.1-k<=n then lO ((arrOf s).extract (p.1+k) q.1) ((arrOf s).extract q.1 (q.1+n))else lV ((arrOf s).extract (p.1+k) q.1) ((arrOf s).extract q.1 (q.1+n))
       modify λs'=>setArr s' (over (arrOf s') (p.1+k) m.toList)
       let s' <-get
       pure (failedOf s').isNone
     |_=>pure false
   |_=>pure false
  |_,_=>liftM (unsupported "internal:list.sort.pending")):=by
 delta mergeAt'
 refine bc rfl (funext λs=>?_);generalize e1:(pendingOf s)[i]?=o1;generalize e2:(pendingOf s)[i+1]?=o2
 cases o1 with
 |none=>cases o2<;>rfl
 |some p=>
  cases o2 with
  |none=>rfl
  |some q=>
   refine bc rfl (funext λu=>bc rfl (funext λy=>bc rfl (funext λr=>?_)))
   cases r with
   |none=>rfl
   |some k=>
    refine ic rfl (bc rfl (funext λx=>bc rfl (funext λr=>?_)))
    cases r with
    |none=>rfl
    |some n=>exact ic rfl (ic (bc rfl (funext λm=>rfl)) (bc rfl (funext λm=>rfl)))
theorem vL{l:List Keyed}(h:t<=n)(hn:n<=l.length):(l.take n).drop t++l.drop n=l.drop t:=by
 have e:=zBg n l;have:(l.take n++l.drop n).drop t=(l.take n).drop t++l.drop n:=List.drop_append_of_le_length (by rw[zAd];lia);rw[e]at this;exact this.symm
section
theorem M6(hL:LtAll prog w A E s Ok ks)(h0:∀p∈ae.toList,Ok p){st:SortSt}(B:SB ks ae st)(e1:(pendingOf st)[i]?=some (sa,na,pw))(e2:(pendingOf st)[i+1]?=some (sa+na,nb,Ob))
  (n1:1<=na) (n2:1<=nb) (hz:sa+na+nb<=ae.size) 
  (h:∀z07,SB ks ae z07->pendingOf z07=((pendingOf st).setIfInBounds i (sa,na+nb,pw)).eraseIdxIfInBounds (i+1)->Q true z07):wpS (model prog w) A E s (mergeAt' i) Q st:=by
 rw[M5];refine Zaa (wpS_get ?_);rw[e1,e2];dsimp only;have kA:∀p∈(arrOf st).toList,Ok p:=λp hp=>h0 p ((Zaz.mp B.pm).mem_iff.mp hp);have hsz:(arrOf st).size=ae.size:=B.size;have kR:(arrOf st).toList.length=ae.size:=by rw[zA9,hsz]
 obtain⟨P,eP⟩:∃P,P=((pendingOf st).setIfInBounds i (sa,na+nb,pw)).eraseIdxIfInBounds (i+1):=⟨_,rfl⟩
 rw[<-eP]at h⊢
 have IU:∀{R:PUnit->SortSt->Prop},R ⟨⟩ (setPending st P)->wpS (model prog w) A E s (set (setPending st P):Sm PUnit) R st:=λhR=>by
  unfold wpS;rw[StateT.run_set];exact zAx ⟨rfl,hR⟩
 refine Zaa (IU ?_)
 obtain⟨st1,mw⟩:∃st1,st1=setPending st P:=⟨_,rfl⟩
 have k1:kindOf st1=ks:=by rw[mw];exact B.kind
 have a1:arrOf st1=arrOf st:=by rw[mw]
 have p1:pendingOf st1=P:=by rw[mw]
 have f1:failedOf st1=none:=by rw[mw];exact B.ok
 rw[<-mw]
 have all:SB ks ae st1:=⟨k1,f1,by rw[a1];exact B.pm⟩
 obtain⟨y,y1,y2,y4⟩:=item kA (i:=sa+na) z00;refine Zaa (bz y1 ?_);refine Zaa (fW (hL st1 k1) y2 z00 (λj hj=>?_) λk kn=>?_)
 .obtain⟨p,q1,q2,_⟩:=item kA (i:=sa+j) z00;exact⟨p,q1,q2⟩
 .dsimp only;by_cases IQ:na-k=0
  .rw[zAz (by simpa using IQ)];exact Zab (h st1 all p1)
  .rw[zAy (by simpa using IQ)];rw[show sa+k+(na-k)-1=sa+na-1 by lia];obtain⟨x,x1,x2,x4⟩:=item kA (i:=sa+na-1) z00;refine Zaa (bz x1 ?_);refine Zaa (fW (hL st1 k1) x2 z00 (λj hj=>?_) λn nn=>?_)
   .obtain⟨p,q1,q2,_⟩:=item kA (i:=sa+na+j) z00;exact⟨p,q1,q2⟩
   .dsimp only;by_cases Oc:n=0
    .rw[zAz (by simpa using Oc)];exact Zab (h st1 all p1)
    .rw[zAy (by simpa using Oc)]
     obtain⟨X,eX⟩:∃X,X=(arrOf st).extract (sa+k) (sa+na):=⟨_,rfl⟩
     obtain⟨Y,eY⟩:∃Y,Y=(arrOf st).extract (sa+na) (sa+na+n):=⟨_,rfl⟩
     rw[<-eX,<-eY];have lX:X.toList=((arrOf st).toList.take (sa+na)).drop (sa+k):=by rw[eX,Hi.ext_cut]
     have lY:Y.toList=((arrOf st).toList.take (sa+na+n)).drop (sa+na):=by rw[eY,Hi.ext_cut]
     have zX:X.size=na-k:=by rw[<-zA9,lX,Za2,zAd,kR];lia
     have zY:Y.size=n:=by rw[<-zA9,lY,Za2,zAd,kR];lia
     have TT:Two Ok X Y:=⟨λp hp=>kA p (by rw[lX]at hp;exact List.mem_of_mem_take (List.mem_of_mem_drop hp)),λp hp=>kA p (by rw[lY]at hp;exact List.mem_of_mem_take (List.mem_of_mem_drop hp))⟩
     have fin:∀m st2,SG st1 st2->Rs X Y m->wpS (model prog w) A E s (do
       modify λs'=>setArr s' (over (arrOf s') (sa+k) m.toList)
       let s' <-get
       pure (failedOf s').isNone) Q st2:=λm st2 sg D=>by
      refine Zaa (wpS_modify (Zaa (wpS_get (Zab ?_))))
      have ft:(failedOf (setArr st2 (over (arrOf st2) (sa+k) m.toList))).isNone=true:=by
       show(failedOf st2).isNone=true;rw[sg.fail,f1];rfl
      rw[ft];have am:arrOf st2=arrOf st:=sg.arr.trans a1
      have lm:m.toList.length=na-k+n:=by
       rw[D.length_eq,zA2,zA9,zA9,zX,zY]
      have ol:(over (arrOf st) (sa+k) m.toList).toList=(arrOf st).toList.take (sa+k)++m.toList++(arrOf st).toList.drop (sa+na+n):=by
       rw[Ar (by rw[lm,hsz];lia),lm,show sa+k+(na-k+n)=sa+na+n by lia]
      have Cc:(over (arrOf st) (sa+k) m.toList).toList.Perm (arrOf st).toList:=by
       rw[ol]
       have e:(arrOf st).toList=(arrOf st).toList.take (sa+k)++(X.toList++Y.toList)++(arrOf st).toList.drop (sa+na+n):=by
        rw[lX,lY];have c1:=vL (l:=(arrOf st).toList) (t:=sa+na) (n:=sa+na+n) z00 (by rw[kR];lia);have c2:=vL (l:=(arrOf st).toList) (t:=sa+k) (n:=sa+na) z00 (by rw[kR];lia);rw[zAf,zAf,c1,c2,zBg]
       conv=>rhs;rw[e]
       exact List.Perm.append_right _ (List.Perm.append_left _ D)
      refine h _ ⟨sg.kind.trans k1,by show failedOf st2=none;rw[sg.fail,f1],?_⟩ (sg.pend.trans p1);show(over (arrOf st2) (sa+k) m.toList).Perm ae;rw[am];exact(Zaz.mpr Cc).trans B.pm
     by_cases hc:na-k<=n
     .rw[zAz hc];exact Zaa (LQ hL TT z00 z00 k1 λm st2 sg D=>fin m st2 sg D)
     .rw[zAy hc];exact Zaa (Hi.hi_wp hL TT z00 z00 k1 λm st2 sg D=>fin m st2 sg D)
end
abbrev Run:=Nat×Nat×Nat
def Ch:List Run->Nat->Nat->Prop
 |[],a,b=>a=b
 |r::l,a,b=>r.1=a/\1<=r.2.1/\Ch l (a+r.2.1) b
theorem Ch.le:∀{l:List Run} {a b:Nat},Ch l a b->a+l.length<=b
 |[],a,b,h=>by
  have h:a=b:=h;simp[h]
 |r::l,a,b,h=>by
  have:=Ch.le h.2.2;have:=h.2.1;rw[zAe];lia
theorem Ch.split:∀{l1 l2:List Run} {a b:Nat},Ch (l1++l2) a b↔∃m,Ch l1 a m/\Ch l2 m b
 |[],l2,a,b=>⟨λh=>⟨a,rfl,h⟩,λhZ=>by
  obtain⟨m,h1,h2⟩:=hZ;rw[h1]
  exact h2⟩
 |r::l1,l2,a,b=>by
  constructor
  .intro h;obtain⟨m,h1,h2⟩:=Ch.split.mp h.2.2;exact⟨m,⟨h.1,h.2.1,h1⟩,h2⟩
  .rintro⟨m,h1,h2⟩;exact⟨h1.1,h1.2.1,Ch.split.mpr ⟨m,h1.2.2,h2⟩⟩
theorem Av{p:Array Run}(h:i+1<p.size):((p.setIfInBounds i v).eraseIdxIfInBounds (i+1)).toList=p.toList.take i++v::p.toList.drop (i+2):=by
 have hl:p.toList.length=p.size:=zA9;have e1:(p.setIfInBounds i v).eraseIdxIfInBounds (i+1)=(p.setIfInBounds i v).eraseIdx (i+1) (by rw[Array.size_setIfInBounds];exact h):=by grind
 rw[e1,Array.toList_eraseIdx,Array.toList_setIfInBounds,List.eraseIdx_eq_take_drop_succ,List.take_set,List.drop_set,zAz z00]
 have e2:p.toList.take (i+1)=p.toList.take i++[p.toList[i]'z00]:=by
  rw[zAj,zA0 z00];rfl
 rw[e2,List.set_append_right _ _ (by rw[zAd];lia)];rw[zAd,show i-min i p.toList.length=0 by lia];simp
section
structure St(ks:SortKind)(ae:Array Keyed)(st:SortSt)(lo:Nat):Prop where
 base:SB ks ae st
 ch:Ch (pendingOf st).toList 0 lo
 le:lo<=ae.size
theorem vM(hL:LtAll prog w A E s Ok ks)(h0:∀p∈ae.toList,Ok p){st:SortSt}{lo i:Nat}(S:St ks ae st lo)(hi:i+1<(pendingOf st).size)
  (h:∀z07,St ks ae z07 lo->(pendingOf z07).size+1=(pendingOf st).size->Q true z07):wpS (model prog w) A E s (mergeAt' i) Q st:=by
 have hl:(pendingOf st).toList.length=(pendingOf st).size:=zA9;have d1:(pendingOf st).toList.drop i=(pendingOf st).toList[i]'z00::(pendingOf st).toList.drop (i+1):=Za0 z00;have d2:(pendingOf st).toList.drop (i+1)=(pendingOf st).toList[i+1]'z00::(pendingOf st).toList.drop (i+2):=Za0 z00;have g1:(pendingOf st)[i]?=some ((pendingOf st).toList[i]'z00):=by rw[<-Zav,zA0 z00]
 have g2:(pendingOf st)[i+1]?=some ((pendingOf st).toList[i+1]'z00):=by rw[<-Zav,zA0 z00]
 obtain⟨⟨sa,na,pw⟩,ep⟩:∃r,r=(pendingOf st).toList[i]'z00:=⟨_,rfl⟩
 obtain⟨⟨sb,nb,Ob⟩,eq⟩:∃r,r=(pendingOf st).toList[i+1]'z00:=⟨_,rfl⟩
 rw[<-ep]at d1 g1;rw[<-eq]at d2 g2;have c:=S.ch;rw[<-zBg i (pendingOf st).toList,d1,d2]at c;obtain⟨m,c1,c2⟩:=Ch.split.mp c;obtain⟨q1,q2,q4,q5,q7⟩:=c2;dsimp only at q1 q2 q4 q5 q7;subst q1;subst q4;have lb:=Ch.le q7;refine M6 hL h0 S.base g1 g2 q2 q5 (by have:=S.le;lia) λz07 B' P'=>?_;have pl:(pendingOf z07).toList=(pendingOf st).toList.take i++(sa,na+nb,pw)::(pendingOf st).toList.drop (i+2):=by rw[P',Av hi]
 refine h z07 ⟨B',?_,S.le⟩ ?_
 .rw[pl];refine Ch.split.mpr ⟨sa,c1,rfl,by dsimp only;lia,?_⟩;dsimp only;rw[<-Nat.add_assoc];exact q7
 .rw[<-zA9,pl,zA2,zAe,zAd,Za2];lia
def rest(z lo n:Nat):Sm (ForInStep (Option Unit×Nat)):=do
 let s <-get
 match(pendingOf s).back? with
 |some (s1,n1,_)=>do
  let c <-forIn [0:z] ((none,()):Option Unit×Unit) λ_ _=>do
    let s <-get
    match(if(pendingOf s).size>1 then(pendingOf s)[(pendingOf s).size-2]? else none)with
    |some (_,_,older)=>
     if older<=power' z (2*s1+n1) (2*s1+n1+n1+n) z then pure (ForInStep.done (none,()))
     else do
      let b <-mergeAt' ((pendingOf s).size-2)
      if(!b)=true then pure (ForInStep.done (some (),()))else pure (ForInStep.yield (none,()))
    |_=>pure (ForInStep.done (none,()))
  match c.1 with
  |some r=>pure (ForInStep.done (some r,lo))
  |none=>do
   modify λs=>setPending s ((pendingOf s).modify ((pendingOf s).size-1) λx=>(x.1,x.2.1,power' z (2*s1+n1) (2*s1+n1+n1+n) z))
   modify λs=>setPending s ((pendingOf s).push (lo,n,0))
   pure (ForInStep.yield (none,lo+n))
 |_=>do
  modify λs=>setPending s ((pendingOf s).push (lo,n,0))
  pure (ForInStep.yield (none,lo+n))
theorem Ch.pw(f:Run->Run)(hf:∀r,(f r).1=r.1/\(f r).2.1=r.2.1):∀{l:List Run} {a b i:Nat},Ch l a b->Ch (l.modify i f) a b
 |[],a,b,i,h=>by
  cases i<;>exact h
 |r::l,a,b,0,h=>by
  obtain⟨e1,e2⟩:=hf r;refine⟨e1.trans h.1,by rw[e2];exact h.2.1,?_⟩;rw[e2];exact h.2.2
 |r::l,a,b,i+1,h=>⟨h.1,h.2.1,Ch.pw f hf h.2.2⟩
theorem St.push{st:SortSt}{lo n:Nat}(S:St ks ae st lo)(n1:1<=n)(hn:lo+n<=ae.size):St ks ae (setPending st ((pendingOf st).push (lo,n,0))) (lo+n):=by
 refine⟨⟨S.base.kind,S.base.ok,S.base.pm⟩,?_,hn⟩;rw[Array.toList_push];exact Ch.split.mpr ⟨lo,S.ch,rfl,n1,rfl⟩
theorem St.pw{st:SortSt}{lo i:Nat}(S:St ks ae st lo)(f:Run->Run)(hf:∀r,(f r).1=r.1/\(f r).2.1=r.2.1):St ks ae (setPending st ((pendingOf st).modify i f)) lo:=by
 refine⟨⟨S.base.kind,S.base.ok,S.base.pm⟩,?_,S.le⟩;rw[Array.toList_modify];exact S.ch.pw f hf
theorem yR(hL:LtAll prog w A E s Ok ks)(h0:∀p∈ae.toList,Ok p){st:SortSt}{lo n x:Nat}(S:St ks ae st lo)(n1:1<=n)(hn:lo+n<=ae.size)(hx:x<=lo)
  (h:∀z07,St ks ae z07 (lo+n)->Q (.yield (none,lo+n)) z07):wpS (model prog w) A E s (rest ae.size lo n) Q st:=by
 unfold rest;refine Zaa (wpS_get ?_)
 cases(pendingOf st).back? with
 |none=>exact Zaa (wpS_modify (Zab (h _ (S.push n1 hn))))
 |some q=>
  obtain⟨s1,IX,p1⟩:=q;refine Zaa (wpS_mono (wpS_forRange (I:=λ_ c z07=>c=(none,())/\St ks ae z07 lo) (Q:=λc z07=>c=(none,())/\St ks ae z07 lo) ?_ (λ_ _ z=>z) ⟨rfl,S⟩) ?_)
  .rintro y c z07 _ _ ⟨rfl,S'⟩;refine Zaa (wpS_get ?_);by_cases h1:(pendingOf z07).size>1
   .rw[zAz h1];have hl:(pendingOf z07).size-2<(pendingOf z07).size:=z00
    rw[Zam hl];dsimp only;split
    .exact Zab ⟨rfl,S'⟩
    .refine Zaa (vM hL h0 S' z00 λst2 S2 _=>?_);exact Zab ⟨rfl,S2⟩
   .rw[zAy h1];exact Zab ⟨rfl,S'⟩
  .rintro c z07 ⟨rfl,S'⟩;refine Zaa (wpS_modify (Zaa (wpS_modify (Zab (h _ ?_)))));exact(S'.pw (λx=>(x.1,x.2.1,power' ae.size (2*s1+IX) (2*s1+IX+IX+n) ae.size)) λ_=>⟨rfl,rfl⟩).push n1 hn
theorem ifl(c:Prop)[Decidable c](n:Nat):(if c then n-1 else n)<=n:=by split<;>lia
theorem runs_wp(hL:LtAll prog w A E s Ok ks)(h0:∀p∈ae.toList,Ok p){st:SortSt}(B:SB ks ae st)(hp:pendingOf st=#[])
  (h:∀z07,SB ks ae z07->Q () z07):wpS (model prog w) A E s sortRuns' Q st:=by
 rw[sortRuns'_eq];refine Zaa (wpS_get ?_);dsimp only;rw[B.size];generalize minRun' ae.size ae.size 0=mr;refine Zaa (wpS_mono (wpS_forRange (I:=λx c z07=>c.1=none/\St ks ae z07 c.2/\x<=c.2) (Q:=λc z07=>c.1=none/\St ks ae z07 ae.size) ?_ ?_ ⟨rfl,⟨B,by rw[hp];rfl,zAp _⟩,zA3 _⟩) ?_)
 .rintro x ⟨c0,lo⟩ z07 _ hx ⟨rfl,S,mf⟩;dsimp only at S mf⊢;by_cases kQ:lo≥ae.size
  .rw[zAz kQ]
   have e:lo=ae.size:=by
    have:=S.le;lia
   refine Zab ⟨rfl,?_⟩;rw[<-e];exact S
  .rw[zAy kQ];refine Zaa (Dk hL h0 z00 z00 S.base λn st1 G1 n1 n2=>?_);dsimp only
   have S1:St ks ae st1 lo:=⟨G1.b,by rw[G1.p];exact S.ch,S.le⟩
   have tr:∀{m m':Sm (ForInStep (Option Unit×Nat))} {R:ForInStep (Option Unit×Nat)->SortSt->Prop} {st2:SortSt},m=m'->wpS (model prog w) A E s m' R st2->wpS (model prog w) A E s m R st2:=λe h=>e▸h;by_cases hm:n<mr
   .rw[zAz hm];refine Zaa (wpS_lift (wpAny_rule ⟨rfl,?_⟩));refine Zaa (JP hL h0 z00 (Go.refl G1.b) λst2 G2=>?_);rw[zAy z02];refine tr ?_ (yR (n:=min (ae.size-lo) mr) hL h0 ⟨G2.b,by rw[G2.p];exact S1.ch,S.le⟩ z00 z00 mf λgT S3=>⟨rfl,S3,by dsimp only;lia⟩)
    .skip
     unfold rest;refine bc rfl (funext λs=>?_)
     cases(pendingOf s).back? with
     |none=>rfl
     |some q=>
      obtain⟨s1,n1,p⟩:=q;refine bc (fi (funext λx=>funext λc=>bc rfl (funext λs=>?_))) (funext λc=>?_)
      .generalize(if(pendingOf s).size>1 then(pendingOf s)[(pendingOf s).size-2]? else none)=o
       cases o with
       |none=>rfl
       |some r=>
        obtain⟨r1,r2,r3⟩:=r;exact ic rfl (bc rfl (funext λb=>rfl))
      .obtain⟨r,u⟩:=c;cases r<;>rfl
   .rw[zAy hm];refine tr ?_ (yR (n:=n) hL h0 S1 n1 z00 mf λgT S3=>⟨rfl,S3,by dsimp only;lia⟩)
    .skip
     unfold rest;refine bc rfl (funext λs=>?_)
     cases(pendingOf s).back? with
     |none=>rfl
     |some q=>
      obtain⟨s1,n1,p⟩:=q;refine bc (fi (funext λx=>funext λc=>bc rfl (funext λs=>?_))) (funext λc=>?_)
      .generalize(if(pendingOf s).size>1 then(pendingOf s)[(pendingOf s).size-2]? else none)=o
       cases o with
       |none=>rfl
       |some r=>
        obtain⟨r1,r2,r3⟩:=r;exact ic rfl (bc rfl (funext λb=>rfl))
      .obtain⟨r,u⟩:=c;cases r<;>rfl
 .rintro⟨c0,lo⟩ z07 ⟨h1,S,h2⟩;dsimp only at h1 S h2⊢
  have e:lo=ae.size:=by
   have:=S.le;lia
  rw[<-e];exact⟨h1,S⟩
 .rintro⟨c0,lo⟩ z07 ⟨h1,S⟩;dsimp only at h1;subst h1;dsimp only
  have p0:(pendingOf z07).size<=ae.size:=by
   have:=Ch.le S.ch;rw[zA9]at this;lia
  refine Zaa (wpS_mono (wpS_forRange (I:=λx c st2=>c=(none,())/\St ks ae st2 ae.size/\(pendingOf st2).size+x<=ae.size) (Q:=λc st2=>c=(none,())/\St ks ae st2 ae.size/\(pendingOf st2).size<=1) ?_ ?_ ⟨rfl,S,z00⟩) ?_)
  .rintro x c st2 _ hx ⟨rfl,S2,mm⟩;refine Zaa (wpS_get ?_);by_cases h1:(pendingOf st2).size<=1
   .rw[zAz h1];exact Zab ⟨rfl,S2,h1⟩
   .rw[zAy h1];refine Zaa (vM hL h0 S2 (Nat.lt_of_le_of_lt (Nat.succ_le_succ (ifl _ _)) (show(pendingOf st2).size-2+1<(pendingOf st2).size by lia)) λgT S3 z3=>?_);rw[zAy z02];exact Zab ⟨rfl,S3,z00⟩
  .rintro c st2 ⟨rfl,S2,mm⟩;exact⟨rfl,S2,z00⟩
  .rintro c st2 ⟨rfl,S2,mm⟩;exact Zab (h st2 S2.base)
end
end So
namespace L2
open PySem PySem.Spec PyProof.Rows PySem.Calls
section
open PySem.W
theorem Dl:∀{ns ms:UV} {us vs:List Value} {i:Nat},Vals (ns.map V.int) us->Vals (ms.map V.int) vs->(∀r,Q r s)->KatLex prog w A true (decide (ns.length<ms.length)) Q (us.zip vs) i s
 |[],[],_,_,_,.nil,.nil,h=>h _
 |[],_::_,_,_,_,.nil,.cons _ _,h=>by
  refine kat_nil ?_;exact h _
 |_::_,[],_,_,_,.cons _ _,.nil,h=>by
  refine kat_nil ?_;exact h _
 |x::ns,y::ms,_,_,i,.cons r1 t1,.cons r2 t2,h=>by
  obtain⟨k1,rfl⟩:=r1;obtain⟨k2,rfl⟩:=r2;refine kat_cons (wpAny_eqBool_int ?_);by_cases e:x=y
  .subst e;rw[show(x==x)=true from beq_self_eq_true x];refine kat_yes ?_;have:=Dl (prog:=prog) (w:=w) (A:=A) (i:=i+1) t1 t2 h;rw[show decide ((x::ns).length<(x::ms).length)=decide (ns.length<ms.length) by rw[zAe,zAe];exact decide_eq_decide.mpr z00];exact this
  .rw[show(x==y)=false from beq_false_of_ne e];refine kat_no ?_
   cases hi:(true&&i==0)with
   |true=>exact oneLt_int (h _)
   |false=>exact kat_one _ _ (lt_int (h _))
theorem GJ{ns ms:UV}(hx:s.heap.get? x=some ox)(dx:ox.data=.seq us.toArray nx)(hy:s.heap.get? y=some oy)(dy:oy.data=.seq vs.toArray ny)
  (r1:Vals (ns.map V.int) us) (r2:Vals (ms.map V.int) vs) (h:∀r,Q r s):wpAny (model prog w) A (keyLt' (tuples' true) (.ref x) (.ref y)) Q E s:=by
 refine kat_lt hx dx hy dy ?_;have l1:=r1.length;have l2:=r2.length;rw[zA1]at l1 l2;have:=Dl (prog:=prog) (w:=w) (A:=A) (s:=s) (Q:=Q) (i:=0) r1 r2 h;rw[zA8,zA8,<-l1,<-l2];exact this
theorem GK{R:List Value->Prop}(lst:s.heap.IsList l vs.toArray)(fits:vs.length<=sizeLine)(small:vs.length<2->R vs)
  (big:2<=vs.length->∀g,(∀b o,s.heap.get? b=some o->g.get? b=some o)->wpAny (model prog w) A.in1.in1 (keyKind' vs.toArray) (λκ s1=>s1={s with heap:=g} /\
    wpS (model prog w) A.in1.in1 (λ_ _=>False) {s with heap:=g} sortRuns' (λ_ st=>failedOf st=none/\∃out,(arrOf st).map (·.2)=List.toArray out/\R out) (SortSt.mk' κ (vs.toArray.zip vs.toArray) #[] 7 none)) (λ_ _=>False) {s with heap:=g})
  (len:∀out,R out->out.length=vs.length)
  (fin:∀out,R out->∀h2 c,(∀b o,s.heap.get? b=some o->h2.get? b=some o)->h2.get? (s.heap.objs.size+1)=some (seqObj "list" out.toArray c)->Q (.ref (s.heap.objs.size+1)) {s with heap:=h2}):
  wpAny (model prog w) A (call (.builtin "sorted") [.ref l]) Q E s:=by
 refine call_function_entry kind_sorted plain_sorted entry_sorted (args_sorted1 _) ?_;unfold Builtin.«sorted»;refine zAt (m:=checkCount "sorted" 1 1 _) (zAx (zAt (collect_list lst ?_ fits)));refine zAt (wpAny_newList ?_ fits);have mB:((s.heap.push (seqObj "list" #[] 0)).update s.heap.objs.size (Obj.mapSeq (·++vs.toArray))).objs.size=s.heap.objs.size+1:=by rw[Heap.size_update,Heap.size_push]
 obtain⟨g1,sF⟩:∃g1,g1=((s.heap.push (seqObj "list" #[] 0)).update s.heap.objs.size (Obj.mapSeq (·++vs.toArray))).push (seqObj "list" vs.toArray 0):=⟨_,rfl⟩
 have mE:g1.get? (s.heap.objs.size+1)=some (seqObj "list" vs.toArray 0):=by rw[sF,<-mB];exact zB1 _ rfl
 have Cf:∀b o,s.heap.get? b=some o->g1.get? b=some o:=λb o q=>by
  have lt:b<s.heap.objs.size:=zB0 q;rw[sF,Heap.get?_push_ne _ _ _ (by rw[mB];exact zB5 (Nat.lt_succ_of_lt lt)),Heap.get?_update_ne _ _ _ _ (zB5 lt),Heap.get?_push_ne _ _ _ (zB5 lt)];exact q
 show wpAny _ _ _ _ _ {s with heap:=_};rw[mB,show((s.heap.push (seqObj "list" #[] 0)).update s.heap.objs.size (Obj.mapSeq (·++vs.toArray))).push (seqObj "list" vs.toArray 0)=g1 from sF.symm];refine zAt (wpAny_holding (wpAny_call_entry slot_list_sort ⟨_,mE,rfl⟩ entry_list_sort ?body (args_list_sort _)))
 obtain⟨D,eD⟩:∃D,D=s.heap.objs.size+1:=⟨_,rfl⟩
 rw[<-eD]at mE fin⊢
 have apart:∀b o,s.heap.get? b=some o->b≠D:=λb o q e=>by
  have lt:b<s.heap.objs.size:=zB0 q;rw[e,eD]at lt;exact absurd lt (Nat.not_lt_of_le (Nat.le_succ _))
 obtain⟨g2,IY⟩:∃g2,g2=g1.update D (Obj.mapSeq λ_=>(#[]:Array Value)):=⟨_,rfl⟩
 have Fm:Heap.SameBut D g1 g2:=IY▸Heap.SameBut.update g1 D _
 obtain⟨e1,at2⟩:∃e1,g2.get? D=some (seqObj "list" #[] e1):=⟨_,IY▸get?_update_seq mE λ_=>#[]⟩
 obtain⟨g3,IZ⟩:∃g3,g3=(g2.push (seqObj "tuple" vs.toArray 0)).push (seqObj "list" #[] 0):=⟨_,rfl⟩
 have zo:g3.get? D=some (seqObj "list" #[] e1):=IZ▸zAv _ (zAv _ at2);have gX:∀b o,s.heap.get? b=some o->g3.get? b=some o:=λb o q=>IZ▸zAv _ (zAv _ ((Fm.2 b (apart b o q)).trans (Cf b o q)));rw[list_sort_plain];refine zAt (listItems_at mE rfl (zAt (listUpdate_at mE rfl ?_ (by rw[zA8];exact fits) (zAp _))));rw[<-IY];refine zAt (seqEpoch_at at2 rfl (zAt (wpAny_newTuple (zAt (wpAny_newList (wpAny_holding ?_) (zAp _))) fits)));rw[<-IZ];dsimp only;by_cases two:vs.toArray.size<2
 .have vT:vs.length<2:=by rw[zA8]at two;exact two
  rw[zAz two,zAz two];refine zAt (zAx ?_);refine zAt (zAx ?_);dsimp only
  have em:(vs.toArray.zip vs.toArray).map (·.2)=vs.toArray:=by
   apply Array.toList_inj.mp;simp only[Array.toList_map,Array.toList_zip];exact List.map_snd_zip (zA3 _)
  rw[em];refine zAt (seqEpoch_at zo rfl (zAt (listUpdate_at zo rfl ?_ (zAp _) (by rw[zA8];lia))));simp only[bne_self_eq_false,Bool.false_eq_true,if_false];have Jn:=Heap.SameBut.update g3 D (Obj.mapSeq λ_=>vs.toArray);exact zAx ⟨_,rfl,zAx ⟨_,rfl,fin vs (small vT) _ _ (λb o z=>(Jn.2 b (apart b o z)).trans (gX b o z)) (get?_update_seq zo _)⟩⟩
 .have vT:2<=vs.length:=by rw[zA8]at two;lia
  rw[zAy two,zAy two];refine zAt (wpAny_mono (big vT g3 gX) (λκ s1=>?_) λ_ _ x=>x.elim);rintro⟨mw,run⟩;subst mw;refine zAt (wpAny_mono run ?_ λ_ _ x=>x.elim);rintro⟨⟨⟩,st⟩ s2 ⟨R9,Od,out,Cn,hR⟩;subst R9;dsimp only at Od Cn⊢;rw[Cn];refine zAt (seqEpoch_at zo rfl (zAt (listUpdate_at zo rfl ?_ (zAp _) (by rw[zA8,len out hR];lia))));rw[Od];simp only[bne_self_eq_false,Bool.false_eq_true,if_false];have Jn:=Heap.SameBut.update g3 D (Obj.mapSeq λ_=>out.toArray);exact zAx ⟨_,rfl,zAx ⟨_,rfl,fin out hR _ _ (λb o z=>(Jn.2 b (apart b o z)).trans (gX b o z)) (get?_update_seq zo _)⟩⟩
theorem qe{ads:List Addr}{row:Addr->UV}:∀{l:List Addr},(∀a∈l,∃us o n,g.get? a=some o/\o.cls=.type "tuple"/\o.data=.seq us.toArray n/\Vals ((row a).map V.int) us/\row a≠[])->∃fs,KatTups g (l.map Value.ref) fs/\fs.length=l.length/\∀v∈fs,∃i t,v=.int i t
 |[],_=>⟨[],.nil,rfl,λ_ h=>absurd h z01⟩
 |a::l,h=>by
  obtain⟨us,o,n,h1,h2,h3,h4,h5⟩:=h a (.head _);obtain⟨fs,k,hl,hi⟩:=qe (ads:=ads) (row:=row) (l:=l) λb hb=>h b (.tail _ hb)
  cases er:row a with
  |nil=>exact absurd er h5
  |cons i r=>
   rw[er]at h4
   cases h4 with
   |cons r1 t1=>
    obtain⟨t,rfl⟩:=r1;refine⟨_,.cons h1 h2 h3 (f:=.int i t) z01 k,by rw[zAe,zAe,hl],λv hv=>?_⟩;rcases zAo.mp hv with z|z
    .exact⟨i,t,z⟩
    .exact hi v z
theorem GP{l:List Addr}{row:Addr->UV}(obj:∀a∈l,∃us o n,s.heap.get? a=some o/\o.cls=.type "tuple"/\o.data=.seq us.toArray n/\Vals ((row a).map V.int) us/\row a≠[])(hl:0<l.length)(h:Q (tuples' true) s):
  wpAny (model prog w) A (keyKind' (l.map Value.ref).toArray) Q E s:=by
 obtain⟨fs,kt,fl,fi⟩:=qe (ads:=l) (row:=row) obj;refine PySem.W.kat_kind (T:=.type "int") kt (by rw[fl];exact hl) (λv hv=>?_) z02 h;obtain⟨i,t,rfl⟩:=fi v hv;exact .now
def M7(l:List Addr)(p:Keyed):Prop:=∃a∈l,p.1=.ref a
theorem xV{row:Addr->UV}(obj:∀a∈l,∃us o n,s.heap.get? a=some o/\o.cls=.type "tuple"/\o.data=.seq us.toArray n/\Vals ((row a).map V.int) us/\row a≠[]):
  So.LtAll prog w A E s (M7 l) (tuples' true):=λst hk x y Q' kx ky hQ=>by
 obtain⟨xa,c1,ex⟩:=kx;obtain⟨ya,c2,ey⟩:=ky;obtain⟨Yv,o1,n1,g1,_,d1,r1,_⟩:=obj xa c1;obtain⟨Yw,o2,n2,g2,_,d2,r2,_⟩:=obj ya c2;rw[lt'_eq];refine Zaa (wpS_get ?_);rw[hk,ex,ey];refine Zaa (wpS_lift (wpAny_attempt (GJ g1 d1 g2 d2 r1 r2 λr=>⟨rfl,?_⟩)));exact Zab (hQ r)
theorem vN(l:List Addr):((l.map Value.ref).toArray.zip (l.map Value.ref).toArray).toList=l.map λa=>(Value.ref a,Value.ref a):=by grind
theorem Aw(l:List Addr):∀p∈((l.map Value.ref).toArray.zip (l.map Value.ref).toArray).toList,M7 l p:=λz Fn=>by
 rw[vN]at Fn;obtain⟨a,ha,rfl⟩:=zA5.mp Fn;exact⟨a,ha,rfl⟩
def Dm(p:Keyed):Addr:=match p.1 with
 |.ref a=>a
 |_=>0
theorem Ax{row:Addr->UV}(obj:∀a∈l,∃(us:List Value) (o:Obj) (n:Nat),s.heap.get? a=some o/\o.cls=.type "tuple"/\o.data=.seq us.toArray n/\Vals ((row a).map V.int) us/\row a≠[])
  (h:∀st (l':List Addr),failedOf st=none->(arrOf st).map (·.2)=List.toArray (l'.map Value.ref)->l'.Perm l->Q () st):
  wpS (model prog w) A E s sortRuns' Q (SortSt.mk' (tuples' true) ((l.map Value.ref).toArray.zip (l.map Value.ref).toArray) #[] 7 none):=by
 refine So.runs_wp (ks:=tuples' true) (xV obj) (Aw l) ⟨rfl,rfl,.refl _⟩ rfl λz07 B=>?_;have zt:=Zaz.mp B.pm;rw[vN]at zt
 have e:(arrOf z07).toList=((arrOf z07).toList.map Dm).map (λa=>(Value.ref a,Value.ref a)):=by
  rw[zAr]
  conv=>lhs;rw[<-List.map_id (arrOf z07).toList]
  refine List.map_congr_left λz Fn=>?_;obtain⟨a,ha,rfl⟩:=zA5.mp (zt.mem_iff.mp Fn);rfl
 have pm:((arrOf z07).toList.map Dm).Perm l:=by
  have:=zt.map Dm;rw[zAr]at this;rw[show(Dm∘λa=>(Value.ref a,Value.ref a))=id from rfl,List.map_id]at this;exact this
 generalize(arrOf z07).toList.map Dm=l' at e pm;refine h z07 l' B.ok ?_ pm;apply Array.toList_inj.mp;rw[Array.toList_map,e,zAr];rfl
end
section
theorem rZ:∀{l:List Addr} {us:List Value},Vals (l.map V.ref) us->us=l.map Value.ref
 |[],_,.nil=>rfl
 |a::l,_,.cons r t=>by
  rw[rZ t,show _=Value.ref a from r];rfl
theorem yS:∀(l:List Addr),Vals (l.map V.ref) (l.map Value.ref)
 |[]=>.nil
 |_::l=>.cons rfl (yS l)
theorem iC:dH X (.builtin "sorted") (λxs H Q=>∃(p:Addr) (l:List Addr) (row:Addr->UV),xs=[.ref p]/\SqL X.K H p (l.map V.ref)/\(∀a∈l,SqT X.K H a ((row a).map V.int)/\row a≠[]) /\
  ∀q (l':List Addr),H q=none->q≠sysModules->l'.Perm l->Q (.ref q) (upd H q (.lst (l'.map V.ref)))):=by
 intro z06 s σ H xs us Q I r h;obtain⟨p,l,row,rfl,hp,wa,q⟩:=h;obtain⟨u,rfl,ru⟩:=vals1 r;cases ru;obtain⟨its,rv,pl,hz⟩:=I.list hp;have ei:=rZ rv;subst ei
 have hlen:(l.map Value.ref).length<=sizeLine:=by
  rw[zA1]at hz⊢;exact hz
 have obj:∀a∈l,∃(us:List Value) (o:Obj) (n:Nat),s.heap.get? a=some o/\o.cls=.type "tuple"/\o.data=.seq us.toArray n/\Vals ((row a).map V.int) us/\row a≠[]:=λa ha=>by
  obtain⟨ht,gu⟩:=wa a ha;obtain⟨as,ra,pa,_⟩:=I.tuple ht;obtain⟨oa,ga,ca,na,da⟩:=pa;exact⟨as,oa,na,ga,ca,da,ra,gu⟩
 refine GK (R:=λout=>∃l':List Addr,out=l'.map Value.ref/\l'.Perm l) pl.isList hlen (λhs=>⟨l,rfl,.refl _⟩) (λhb g kp=>?_) (λout ⟨l',e,pm⟩=>by rw[e,zA1,zA1,pm.length_eq]) λout ⟨l',e,pm⟩ h2 c qB at2=>?_
 .have Co:∀a∈l,∃(us:List Value) (o:Obj) (n:Nat),g.get? a=some o/\o.cls=.type "tuple"/\o.data=.seq us.toArray n/\Vals ((row a).map V.int) us/\row a≠[]:=λa ha=>by
   obtain⟨us,o,n,h1,h2⟩:=obj a ha;exact⟨us,o,n,kp _ _ h1,h2⟩
  refine GP (s:={s with heap:=g}) Co (by rw[zA1]at hb;lia) ?_;refine⟨rfl,Ax (s:={s with heap:=g}) Co λst l' e1 e2 e3=>⟨e1,l'.map Value.ref,e2,l',rfl,e3⟩⟩
 .subst e;exact⟨.ref (s.heap.objs.size+1),_,I.laid (t':=s.toks) qB (Nat.le_succ _) (show ObjOk X.prog X.w _ h2 _ (.lst (l'.map V.ref))from⟨by rw[zA1,pm.length_eq];rw[zA1]at hz;exact hz,_,c,yS l',at2⟩),rfl,q _ l' (I.hok.fresh (Nat.le_succ _)) (Zar (zB4 I.big (Nat.le_succ _))) pm⟩
theorem ug:dH X (.builtin "sorted") (λxs H Q=>∃(p:Addr) (l:List Addr) (row:Addr->UV),xs=[.ref p]/\SqL X.K H p (l.map V.ref)/\(∀a∈l,SqT X.K H a ((row a).map V.int)/\row a≠[]) /\
  ∀q (l':List Addr),H q=none->l'.Perm l->Q (.ref q) (upd H q (.lst (l'.map V.ref)))):=by
 intro z06 s σ H xs us Q I r h;obtain⟨p,l,row,e,hp,wa,q⟩:=h;exact iC z06 s σ H xs us Q I r ⟨p,l,row,e,hp,wa,λq' l' a _ b=>q q' l' a b⟩
end
theorem Ay:typeLookup (.type "list") "keys"=pure none:=by rw[typeLookup_type];kernel_rfl
theorem Az
  (hx:s.heap.get? a=some {cls:=.type "list",data:=.seq xs k}) (hA:A.handled=none)
  (h:∀h' tk,(∀b o,s.heap.get? b=some o->h'.get? b=some o)->Q none {s with heap:=h',toks:=tk}):
  wpAny (model prog w) A (getAttr? (.ref a) "keys") Q E s:=by
 obtain⟨hp,g,d,tk,os⟩:=s
 have hT:∀zw,(⟨hp,g,d,zw,os⟩:Shared).TypeIs (.ref a) "list":=λ_=>⟨_,hx,rfl⟩
 have f1:=sub_AttributeError;have f3:=F.slot_list_getattribute.lookup;have f4:=F.slot_list_getattribute.bind (.ref a);have f5:=am_list_getattr_none
 repeat (any_goals (first|assumption|exact hT _ | ((with_reducible show wpAny _ _ (call (Value.builtin "list.__getattribute__") _ _) _ _ _);refine call_meets F.slot_list_getattribute (hT _) am_entry_list_getattribute (F.args_list_getattribute_2 _ _) (meets_getattribute_miss_list a xs k #[] "keys" _ Ay z04 (by size_fits)) ⟨hx,hA,λh' zw e cS=>?_⟩)|wp_step))
 obtain⟨t',u',he⟩:=cS.there;unfold getattributeRaised
 repeat (any_goals (first|assumption|wp_step))
 exact h _ _ cS.keeps
theorem sr:entryFor table "dict.update.loop"=some Builtin.«dict.update.loop»:=entryFor_of_tree (by kernel_rfl)
theorem sy:plainId "dict.update.loop"=true:=by decide +kernel
theorem sE(args:Args):(Code.builtin "dict.update.loop" args).quiet=true:=Code.quiet_builtin _ z04
theorem Ba{K:Type}[DecidableEq K]{knd:PySem.KeyKind prog w K}{d it l:Addr}{its:List Value}{more:List (K×Value)}(hh:A.in1.handled=none)(JA:d≠it)(Sa:l≠it)(Sb:l≠d)(Fs:more.length=its.length):
  ∀rest i s kvs tk,its.length-i=rest->i<=its.length->s.heap.IsListIter it l i->s.heap.IsList l its.toArray->s.heap.DictOf knd d kvs->kvs.length+rest<=sizeLine->
   (∀j,i<=j->j<its.length->∃a c key k v,its[j]?=some (.ref a)/\a≠d/\a≠it/\(∃o,s.heap.get? a=some o/\o.cls=.type "tuple"/\o.data=.seq #[key,v] c)/\more[j]?=some (k,v)/\knd.is k key=true)->
   (∀h' zw,h'.DictOf knd d ((more.drop i).foldl (λa kv=>stored a kv.1 kv.2) kvs)->(∀b o,b≠d->b≠it->s.heap.get? b=some o->h'.get? b=some o)->R (.ok (.ret .none)) {s with heap:=h',toks:=zw})->
   codeAny (model prog w) A (.builtin "dict.update.loop" ⟨[.ref d,.ref it,.int i tk,.none],[]⟩) R s:=by
 intro rest
 induction rest with
 |zero=>
  intro i s kvs tk hr hi st ls dd hz rows fin;have pe:i=its.length:=z00
  refine codeAny_builtin sr ?_;rw[Around.under_plainId sy _];refine zAt (wpAny_pyNext_list_end hh st ls (by simp[pe]) λh' eb=>?_);refine zAt (zAx (zAx ?_));refine fin h' s.toks ?_ λb o hb Ct e=>eb b o Ct e;rw[List.drop_of_length_le z00];exact dd.extBut eb JA
 |succ rest ih=>
  intro i s kvs tk hr hi st ls dd hz rows fin;obtain⟨a,c,key,k,v,hx,JE,Fu,⟨o,ho,hc,iO⟩,hm,hk⟩:=rows i (zA3 _) z00;refine codeAny_builtin sr ?_;rw[Around.under_plainId sy _];show wpAny _ A.in1 (pyNext (.ref it)>>=_) _ _ s;refine zAt (wpAny_pyNext_list_item st ls (x:=.ref a) (by simpa using hx) λh' z07 sb=>?_);have gN:h'.get? a=some o:=(sb.2 a Fu).trans ho;dsimp only;refine zAt (wpAny_holding ?_);refine zAt (wpAny_tryCatch ?_);unfold Builtin.Dict.pairItems;refine zAt (wpAny_typeOf (s:={s with heap:=h'}) (T:="tuple") ⟨_,gN,hc⟩ ?_);rw[zAz z02];refine zAt (wpAny_seqItems (s:={s with heap:=h'}) gN iO (zAx ?_));refine wpAny_holding (wpAny_dictSet_pairs (s:={s with heap:=h'}) (kvs:=kvs) hk (dd.sameBut sb JA) (λh2 ma Fm=>?_) z00);refine zAx ⟨sE _,?_⟩
  have e1:more.drop i=(k,v)::more.drop (i+1):=by
   have ay:i<more.length:=(zAa.mp hm).1;rw[Za0 ay,(zAa.mp hm).2]
  have kp:∀b o,b≠d->b≠it->s.heap.get? b=some o->h2.get? b=some o:=λb o h1 h3 e=>(Fm.2 b h1).trans ((sb.2 b h3).trans e);have ec:((i:Int)+1)=((i+1:Nat):Int):=z00
  rw[ec]
  have lst:=(stored_length_le kvs k v)
  refine ih (i+1) {s with heap:=h2,toks:=s.toks+1} (stored kvs k v) 0 z00 z00 (z07.at λo e=>(Fm.2 it JA.symm).trans e) (let⟨o,e,r⟩:=ls;⟨o,kp l o Sb Sa e,r⟩) ma z00 (λj hj JI=>?_) (λh3 Sd Se gX=>?_)
  .obtain⟨a,c,key,k,v,hx,JE,Fu,⟨o,ho,hc,iO⟩,hm,hk⟩:=rows j z00 JI;exact⟨a,c,key,k,v,hx,JE,Fu,⟨o,kp a o JE Fu ho,hc,iO⟩,hm,hk⟩
  .refine fin h3 Sd ?_ λb o h1 h4 e=>gX b o h1 h4 (kp b o h1 h4 e);rw[e1];exact Se
theorem qg{K:Type}[DecidableEq K]{knd:PySem.KeyKind prog w K}{l:Addr}{its:List Value}{c:Nat}{more:List (K×Value)}{Q:Value->Shared->Prop}(hA:A.handled=none)(ho:s.heap.get? l=some {cls:=.type "list",data:=.seq its.toArray c})(Fs:more.length=its.length)(hz:its.length<=sizeLine)
  (rows:∀j,j<its.length->∃a c key k v,its[j]?=some (.ref a)/\(∃o,s.heap.get? a=some o/\o.cls=.type "tuple"/\o.data=.seq #[key,v] c)/\more[j]?=some (k,v)/\knd.is k key=true)
  (h:∀h' tk,h'.DictOf knd s.heap.objs.size (more.foldl (λa kv=>stored a kv.1 kv.2) [])->(∀b o,s.heap.get? b=some o->h'.get? b=some o)->Q (.ref s.heap.objs.size) {s with heap:=h',toks:=tk}):
  wpAny (model prog w) A (call (.type "dict") [.ref l]) Q E s:=by
 refine callType_codes (Q₁:=λobj s₁=>obj=.ref s.heap.objs.size/\s₁={s with heap:=s.heap.push {cls:=.type "dict",data:=.dict #[]}}) F.kt_called_dict (F.kt_typeCall_dict_1 _) F.entry_dict_init (kt_code_dict_new _ ⟨rfl,rfl⟩) ?_;rintro obj s₁ ⟨rfl,rfl⟩;have gc:(s.heap.push {cls:=.type "dict",data:=.dict #[]}).DictOf knd s.heap.objs.size []:=Heap.DictOf.new s.heap
 obtain⟨g1,sF⟩:∃g1,g1=s.heap.push {cls:=.type "dict",data:=.dict #[]}:=⟨_,rfl⟩
 have Cf:∀b o,s.heap.get? b=some o->g1.get? b=some o:=λb o e=>by rw[sF];exact zAv _ e
 rw[<-sF]at gc⊢;refine⟨gc.typeIs,F.args_dict_init_2 _ _,?_⟩;unfold Builtin.«dict.__init__»;refine zAt ?_;unfold Builtin.Dict.selfAndRest;refine zAt (wpAny_notOrdered_dict gc.typeIs ?_);show wpAny _ _ (pure (s.heap.objs.size,[Value.ref l])) _ _ _;refine zAx ?_;show wpAny _ _ (Builtin.Dict.updateFrom "dict.__init__" s.heap.objs.size (.ref l) [] .none) _ _ _;unfold Builtin.Dict.updateFrom;refine zAt (wpAny_typeOf (s:={s with heap:=g1}) (T:="list") ⟨_,Cf _ _ ho,rfl⟩ ?_);rw[zAz z02];refine zAt (Az (s:={s with heap:=g1}) (Cf _ _ ho) (by simp[hA]) λh2 Oe qB=>?_);refine zAt (wpAny_rule ?_);have wb:∀b o,s.heap.get? b=some o->h2.get? b=some o:=λb o e=>qB b o (Cf b o e)
 have cx:h2.IsList l its.toArray:=⟨_,wb _ _ ho,rfl,_,rfl⟩
 refine zAt (wpAny_pyIter_list (s:={s with heap:=h2,toks:=Oe}) cx ?_)
 have ma:h2.DictOf knd s.heap.objs.size []:=by
  obtain⟨o,es,ep,e,r⟩:=gc;exact⟨o,es,ep,qB _ _ e,r⟩
 have FA:s.heap.objs.size<h2.objs.size:=by
  obtain⟨o,es,ep,e,r⟩:=ma;exact zB0 e
 have Of:l<s.heap.objs.size:=zB0 ho;refine zAx ⟨sE _,?_⟩
 obtain⟨h3,zI⟩:∃h3,h3=h2.push {cls:=.type "list_iterator",data:=.fields #[.ref l,.int 0 0]}:=⟨_,rfl⟩
 have gX:∀b o,h2.get? b=some o->h3.get? b=some o:=λb o e=>by rw[zI];exact zAv _ e
 have gT:h3.IsListIter h2.objs.size l 0:=by rw[zI];exact⟨_,zB1 _ rfl,rfl,rfl⟩
 rw[<-zI];refine Ba (knd:=knd) (its:=its) (more:=more) (by simp[hA]) (zB5 FA) (zB5 (Nat.lt_trans Of FA)) (zB5 Of) Fs its.length 0 {s with heap:=h3,toks:=Oe} [] 0 z00 (zAp _) gT (let⟨o,e,r⟩:=cx;⟨o,gX l o e,r⟩) (let⟨o,es,ep,e,r⟩:=ma;⟨o,es,ep,gX _ _ e,r⟩) (by simpa using hz) (λj _ hj=>?_) λh' zw zk Sf=>?_
 .obtain⟨a,c,key,k,v,hx,⟨o,ho,hc,iO⟩,hm,hk⟩:=rows j hj;have Og:a<s.heap.objs.size:=zB0 ho;exact⟨a,c,key,k,v,hx,zB5 Og,zB5 (Nat.lt_trans Og FA),⟨o,gX _ _ (wb _ _ ho),hc,iO⟩,hm,hk⟩
 .exact⟨rfl,h h' zw zk λb o e=>Sf b o (zB5 (zB0 e)) (zB5 (Nat.lt_trans (zB0 e) FA)) (gX _ _ (wb _ _ e))⟩
theorem KV.fold:∀{more:List (Key×V)} {rs:List (Key×Value)} {kvs:List (Key×V)} {vs:List (Key×Value)},KV more rs->KV kvs vs->KV (km kvs more) (rs.foldl (λa kv=>stored a kv.1 kv.2) vs):=by
 intro more rs kvs vs r
 induction r generalizing kvs vs with
 |nil=>intro q;exact q
 |@cons p q ps qs h t ih=>
  intro r0
  have e:KV (putK kvs p.1 p.2) (stored vs q.1 q.2):=by
   have:=r0.put p.1 h.2;rw[<-h.1];exact this
  exact ih e
section
theorem yU{σ:St}(I:Inv X z06 σ H s):∀kvs (l:List Addr),(∀(j:Nat) kv,kvs[j]?=some kv->∃a,l[j]?=some a/\H a=some (.tup [kV kv.1,kv.2]))->
  ∃rs,KV kvs rs/\rs.length=kvs.length/\∀(j:Nat) (k:Key) (v:Value),rs[j]?=some (k,v)->∃a c key,l[j]?=some a/\(∃o,s.heap.get? a=some o/\o.cls=.type "tuple"/\o.data=.seq #[key,v] c)/\(bZ X.prog X.w).is k key=true
 |[],l,_=>⟨[],.nil,rfl,λj k v h=>by simp at h⟩
 | (k,v)::kvs,l,h=>by
  obtain⟨a,h1,h2⟩:=h 0 (k,v) rfl
  obtain⟨_,its,rv,o,ho,hc,c,hd⟩:=(I.hok a _ h2)
  obtain⟨u1,u2,rfl,r1,r2⟩:=vals2 rv
  obtain⟨b,l,rfl⟩:∃b l',l=b::l':=by
   cases l with
   |nil=>simp at h1
   |cons b l=>exact⟨b,l,rfl⟩
  have e:b=a:=by simpa using h1
  subst e;obtain⟨rs,hk,hl,hr⟩:=yU I kvs l λj kv hj=>h (j+1) kv (by simpa using hj);refine⟨(k,u2)::rs,.cons ⟨rfl,r2⟩ hk,by simp[hl],λj k' v' hj=>?_⟩
  cases j with
  |zero=>
   have e:(k,u2)=(k',v'):=by simpa using hj
   cases e;exact⟨b,c,u1,rfl,⟨o,ho,hc,hd⟩,vm r1⟩
  |succ j=>
   obtain⟨a,c,key,z1,z2,z3⟩:=hr j k' v' (by simpa using hj);exact⟨a,c,key,by simpa using z1,z2,z3⟩
theorem qi(hc:X.calm=true):dH X (.type "dict") (λxs H Q=>∃(p:Addr) (l:List Addr) (kvs:List (Key×V)),xs=[.ref p]/\H p=some (.lst (l.map V.ref))/\kvs.length=l.length/\(∀(j:Nat) kv,kvs[j]?=some kv->∃a,l[j]?=some a/\H a=some (.tup [kV kv.1,kv.2])) /\
  ∀q,H q=none->q≠sysModules->Q (.ref q) (upd H q (.dK (km [] kvs)))):=by
 intro z06 s σ H xs us Q I r h;obtain⟨p,l,kvs,rfl,hp,hl,rows,q⟩:=h;obtain⟨u,rfl,ru⟩:=vals1 r;cases ru;obtain⟨z,its,n,rv,hlen,e⟩:=I.lstM hp;rw[zA1]at hlen z;obtain⟨rs,Sg,Yx,JJ⟩:=yU I kvs l rows;refine qg (knd:=bZ X.prog X.w) (its:=its) (more:=rs) (I.ok.hd hc) e z00 z00 (λj hj=>?_) λh' tk dd kp=>?_
 .obtain⟨⟨k,v⟩,Oh⟩:∃x,rs[j]?=some x:=⟨_,zA0 z00⟩
  obtain⟨a,c,key,z1,z2,z3⟩:=JJ j k v Oh;obtain⟨u,hu,ru⟩:=rv.get (x:=.ref a) (i:=j) (by rw[zAb,z1];rfl);cases ru;exact⟨a,c,key,k,v,hu,z2,Oh,z3⟩
 .have hn:H s.heap.objs.size=none:=I.hok.fresh (zA3 _);have ns:s.heap.objs.size≠sysModules:=Ne.symm (zB5 I.big);refine⟨.ref s.heap.objs.size,_,I.laid (a:=s.heap.objs.size) (o:=.dK (km [] kvs)) (t':=tk) kp (zA3 _) (CG ?_ (beq_eq_false_iff_ne.mpr ns) (KV.fold Sg .nil) dd),rfl,q _ hn ns⟩;have:=jR kvs [];rw[List.length_nil]at this;lia
def Itq(x:Str):It:=⟨λi _=>i<x.cps.size,λi H v H'=>H'=H/\∃c,x.cps[i]?=some c/\v=.str ⟨#[c]⟩,λi _=>x.cps.size<=i⟩
theorem Dn{K:Frag}(x:Str)(t:Tok)(it:Addr):Turn P w K tg (Itq x) [it] it (λi h=>h.IsStrIter it "str_ascii_iterator" x t i) where
 mem:=by simp
 obj:=λi h st b hb=>by
  have e:b=it:=by simpa using hb
  subst e;obtain⟨o,e,c,d⟩:=st;exact⟨o,e,λv z=>by rw[d]at z;cases z⟩
 keep:=λi h h' st k=>by obtain⟨o,e,r⟩:=st;exact⟨o,k it z01 o e,r⟩
 item:=by
  intro X hP hw hK hc i z06 s σ H E I hf st hg;subst hP hw hK;have hg:i<x.cps.size:=hg;obtain⟨f0,f1,f2,f3,f4,f5⟩:=hf it z01;have hx:x.cps[i]?=some x.cps[i]:=Zam hg;refine wpAny_pyNext_ascii_item st hx λh' z07 sb=>?_;have I1:Inv X z06 σ H {s with heap:=h',toks:=s.toks+1}:=I.turned (t':=s.toks+1) (λb o hb e=>(sb.2 b hb).trans e) f0 f1 f3 f4 f5;obtain⟨o,e,c,d⟩:=id z07;exact⟨_,rfl,uW (s:={s with heap:=h',toks:=s.toks+1}) e c d z02 ⟨.str ⟨#[x.cps[i]]⟩,H,I1,⟨_,rfl⟩,⟨rfl,_,hx,rfl⟩,z07,λb hb=>(hf b hb).1⟩⟩
 done:=by
  intro X hP hw hK hc i z06 s σ H E I hf st hg;subst hP hw hK;have hg:x.cps.size<=i:=hg;obtain⟨f0,f1,f2,f3,f4,f5⟩:=hf it z01
  exact wpAny_pyNext_ascii_end (I.ok.hd hc) st (Array.getElem?_eq_none hg) λh' eb=>⟨rfl,I.turned (t':=s.toks) (λb o hb e=>eb b o hb e) f0 f1 f3 f4 f5⟩
 self:=λ_ _ _ _ _ st h=>wpAny_pyIter_striter_ascii st h
def M8(tl:TE):TI:=λσ H R=>tl σ H λv H1=>∃x,v=.str x/\x.cps.all (· < 128)=true/\R (Itq x) H1
theorem JQ(hl:PE X l tl):PI X tg l (M8 tl):=by
 intro z06 s σ H R I h;refine thn (hl z06 s σ H _ I h) λv s1=>?_;rintro⟨x,H1,I1,r1,q1⟩;obtain⟨x,e,ha,q⟩:=q1;subst e;obtain⟨t,rfl⟩:=r1;refine wpAny_pyIter_ascii ha ?_;refine⟨s1.heap.objs.size,[s1.heap.objs.size],_,_,H1,rfl,I1.kept (t':=s1.toks) λb o e=>zAv _ e,Dn x t _,⟨_,zB1 _ rfl,rfl,rfl⟩,λb hb=>?_,q⟩;have e:b=s1.heap.objs.size:=by simpa using hb
 subst e;exact I1.fpOk (zA3 _) (I1.hok.fresh (zA3 _))
end
inductive RRepNI(x:V)(y:V)(H:Hp)(Q:VK):Prop
 |mk:∀l k xs,(x=.ref l)->(y=.int k)->(H l=some (.lst xs))->(-(2^63)<=k)->(k<2^63)->(xs.length*k.toNat<=sizeLine)->(∀p,H p=none->p≠sysModules->Q (.ref p) (upd H p (.lst (List.replicate k.toNat xs).flatten)))->RRepNI  x y H Q
def M9:R2:=λx y H Q=>RRepNI  x y H Q
theorem oY:OpR X (binaryOp .Mult) M9:=by
 intro z06 s σ H x y v u Q I rx ry h;obtain⟨l,k,xs,rfl,rfl,hH,h1,h2,hz,q⟩:=h;cases rx;obtain⟨t,rfl⟩:=ry;obtain⟨z,its,n,r,hl,e⟩:=I.lstM hH;have hlen:its.toArray.size*k.toNat<=sizeLine:=by rw[zA8,<-hl];exact hz
 have vi:¬its.toArray.size*k.toNat>(2^63-1) / 8:=by
  have:(sizeLine:Nat)<=(2^63-1) / 8:=by decide
  lia
 have vj:¬(!Builtin.List.listFitsIndex k)=true:=by
  rw[fitsIndex_both h1 h2];exact zAg
 have eJ:¬Builtin.List.listTooLong (its.toArray.size*k.toNat)=true:=by
  rw[lC hlen];exact zAg
 have gc:List.foldl (λx1 x2=>x1++x2) #[] (List.replicate (if its.toArray.isEmpty=true then 0 else k.toNat) its.toArray)=(List.replicate k.toNat its).flatten.toArray:=by
  have f0:∀m:Nat,List.foldl (λx1 x2=>x1++x2) #[] (List.replicate m its.toArray)=(List.replicate m its).flatten.toArray:=λm=>by
   have:=foldl_rep its m [];rw[List.nil_append]at this;exact this
  rw[f0]
  cases its with
  |nil=>simp
  |cons a r'=>rw[zAy z01]
 refine wpAny_binaryOp_repeat_ref (T:="list") (U:="int") z02 ⟨_,e,rfl⟩ (λs'=>typeIs_int s' k t) noFill_list_mul F.fills_int_mul F.slot_int_rmul repeat_list F.slot_int_index.lookup
  (call_meets F.slot_int_rmul (typeIs_int s k t) F.entry_int_rmul (F.args_int_rmul_2 _ _) (int___rmul___int_list k t l its.toArray n)
   ⟨e,rfl,⟨_,e,rfl⟩,call_meets F.slot_list_mul ⟨_,e,rfl⟩ F.entry_list_mul (F.args_list_mul_2 _ _) (AutoListH.list___mul___list_int_3 l its.toArray n k t vj vi eJ) ⟨e,?_⟩⟩)
 rw[gc];exact⟨.ref _,_,I.lnew (t':=s.toks) (r.rep k.toNat) (by rw[len_rep,Nat.mul_comm];exact hz),rfl,q _ I.fresh (Zar I.big)⟩
theorem Bb(ha:s.TypeIs a "list")(hb:s.TypeIs b "list")(hc:wpAny M A (call (.builtin "list.__iadd__") [a,b]) Q E s):wpAny M A (inplaceOp .Add a b) Q E s:=by
 unfold inplaceOp;refine wpAny_holding ?_;have hl:typeLookup (.type "list") (dunderI "add")=pure (some (.builtin "list.__iadd__")):=F.slot_list_iadd.lookup
 have Sh:fillsInplaceSlot (.type "list") "add" (Operator.Add==.Add)=pure false:=by
  unfold fillsInplaceSlot;show(typeLookup (.type "list") (dunderI "add")>>=λfi=>pure (fi.isSome&&!isSeqSlot fi))=pure false;rw[hl];have:isSeqSlot (some (.builtin "list.__iadd__"))=true:=by decide +kernel
  show(pure (true&&!isSeqSlot (some (.builtin "list.__iadd__"))):Sem Bool)=_;rw[this];rfl
 have Oi:seqSlot? (.type "list") (dunderI "add")=pure (some (.builtin "list.__iadd__")):=PySem.seqSlot_of F.slot_list_iadd.lookup z04;refine zAt (wpAny_typeOf ha (zAt (wpAny_of_eq Sh ?_)));show wpAny M A (if false=true then _ else _) Q E s;rw[zAy zAg];refine zAt (wpAny_binaryOp1_none (nm:="add") ha hb noFill_list_add ?_);refine zAt (wpAny_of_eq Oi ?_);exact zAt (wpAny_rule hc)
inductive RICatI(x:V)(y:V)(H:Hp)(Q:VK):Prop
 |mk:∀l b xs zs,(x=.ref l)->(y=.ref b)->(H l=some (.lst xs))->(H b=some (.lst zs))->(xs.length+zs.length<=sizeLine)->(Q (.ref l) (upd H l (.lst (xs++zs))))->RICatI  x y H Q
def Ma:TIp:=λx y H Q=>RICatI  x y H Q
theorem nu:PIp X .Add Ma:=by
 intro z06 s σ H x y v u Q I rx ru h;obtain⟨l,b,xs,zs,rfl,rfl,hH,hB,hz,q⟩:=h;cases rx;cases ru;obtain⟨z,its,n,r,hl,e⟩:=I.lstM hH;obtain⟨z2,aT,n2,r2,cx,e2⟩:=I.lstM hB;have hsz:its.toArray.size+aT.toArray.size<=sizeLine:=by rw[zA8,zA8];lia
 have eJ:¬(!its.toArray.isEmpty&&Builtin.List.listTooLong (its.toArray.size+aT.toArray.size))=true:=by
  rw[lC hsz,Bool.and_false];exact zAg
 refine Bb ⟨_,e,rfl⟩ ⟨_,e2,rfl⟩ (call_meets F.slot_list_iadd ⟨_,e,rfl⟩ F.entry_list_iadd (F.args_list_iadd_2 _ _)
  (AutoSeq1.list___iadd___list_list_0 l its.toArray n b aT.toArray n2 eJ (by rw[zA8];lia) z00) ⟨e,e2,?_⟩)
 refine⟨.ref l,_,I.lset (its':=its++aT) hH e z01 (r.append r2) ?_,rfl,q⟩;rw[zA2];lia
section
theorem GQ(n1:(d==sysModules)=false)(g1:s.heap.get? d=some o)(g2:o.ExactDict)(g3:o.data=.dict es ep)
  (q:R (.ref s.heap.objs.size) {s with heap:=s.heap.push {cls:=.type "dict_keyiterator",data:=.fields #[.ref d,.int 0 0,.int es.size 0,.int ep 0]}}):wpAny (model prog w) A (pyIter (.ref d)) R E s:=by
 have ty:s.TypeIs (.ref d) "dict":=⟨o,g1,g2.1⟩
 refine wpAny_pyIter_slot ty F.slot_dict_iter (wpAny_call_entry F.slot_dict_iter ty F.entry_dict_iter ?_ (F.args_dict_iter_1 _));refine zAt ?_;refine zAt (wpAny_notOrdered_dict ty (zAx ?_));show wpAny (model prog w) _ (Builtin.Dict.showsAll d>>=_) _ E s;unfold Builtin.Dict.showsAll;rw[n1];refine zAt (zAx (zAt (wpAny_dictEntries g1 g3 (zAt (wpAny_dictEpoch g1 g3 ?_)))));refine zAt (Zac (zAx ⟨_,rfl,"dict_keyiterator",_,⟨_,zB1 _ rfl,rfl⟩,F.slot_dict_keyiterator_next.lookup,?_⟩));exact q
theorem GR(st:s.heap.IsKeyIter it d i es.size ep)(g1:s.heap.get? d=some o)(g3:o.data=.dict es ep)(hx:es[i]?=some e)
  (q:∀h',h'.IsKeyIter it d (i+1) es.size ep->Heap.SameBut it s.heap h'->R (some e.key) {s with heap:=h'}):wpAny (model prog w) A (pyNext (.ref it)) R E s:=by
 obtain⟨oi,i1,i2,i3⟩:=id st;unfold pyNext;refine zAt (wpAny_attempt (wpAny_callSpecial?_slot (name:=Str.ofString "__next__") st.typeIs F.slot_dict_keyiterator_next (wpAny_call_entry F.slot_dict_keyiterator_next st.typeIs F.entry_dict_keyiterator_next ?_ (F.args_dict_keyiterator_next_1 _))));refine zAt (zAx (zAt (zAt ?_)));refine zAt (wpAny_typeNameOfWhole_keyiter st.typeIs (zAx (zAt (wpAny_fieldsOf i1 i3 ?_))));refine zAt (zAx (zAt (wpAny_dictEntries g1 g3 ?_)));rw[zAy z01];refine zAt (zAx (zAt (wpAny_dictEpoch g1 g3 ?_)));rw[zAy z01];refine zAx ?_;simp only[show¬((i:Int)<0)from by lia,if_false,Int.toNat_natCast,hx];refine zAt (zAt (wpAny_typeNameOfWhole_keyiter st.typeIs (zAx ?_)));refine zAt (wpAny_isOneOf_keyiter st.typeIs ?_);show wpAny (model prog w) _ (setField (.ref it) 1 (rawInt ((i:Int)+1))>>=_) _ _ s;refine zAt (wpAny_setField i1 i3 z01 ?_)
 have z07:(s.heap.update it (Obj.mapFields (·.setIfInBounds 1 (rawInt ((i:Int)+1))))).IsKeyIter it d (i+1) es.size ep:=
  ⟨_,Heap.get?_update_self _ i1 (Obj.isFreed_of_fields (Obj.data_mapFields i3 _)),(Obj.cls_mapFields ..).trans i2,by rw[Obj.data_mapFields i3];simp[rawInt]⟩
 refine zAt (wpAny_holding (zAt (wpAny_isOneOf_keyiter (s:={s with heap:=s.heap.update it (Obj.mapFields (·.setIfInBounds 1 (rawInt ((i:Int)+1))))}) z07.typeIs ?_)));exact zAx (zAx ⟨_,rfl,zAx (q _ z07 (Heap.SameBut.update ..))⟩)
theorem JR(hh:A.handled=none)(st:s.heap.IsKeyIter it d i es.size ep)(g1:s.heap.get? d=some o)(g3:o.data=.dict es ep)(hx:es.size<=i)
  (q:∀h',Heap.ExtBut it s.heap h'->R none {s with heap:=h'}):wpAny (model prog w) A (pyNext (.ref it)) R E s:=by
 obtain⟨oi,i1,i2,i3⟩:=id st;unfold pyNext;refine zAt (wpAny_attempt (wpAny_callSpecial?_slot (name:=Str.ofString "__next__") st.typeIs F.slot_dict_keyiterator_next (wpAny_call_entry F.slot_dict_keyiterator_next st.typeIs F.entry_dict_keyiterator_next ?_ (F.args_dict_keyiterator_next_1 _))));refine zAt (zAx (zAt (zAt ?_)));refine zAt (wpAny_typeNameOfWhole_keyiter st.typeIs (zAx (zAt (wpAny_fieldsOf i1 i3 ?_))));refine zAt (zAx (zAt (wpAny_dictEntries g1 g3 ?_)));rw[zAy z01];refine zAt (zAx (zAt (wpAny_dictEpoch g1 g3 ?_)));rw[zAy z01];refine zAx ?_;simp only[if_false,Int.toNat_natCast,Array.getElem?_eq_none hx];refine zAt (zAt (wpAny_typeNameOfWhole_keyiter st.typeIs (zAx ?_)));show wpAny (model prog w) _ (setField (.ref it) 0 .none>>=_) _ _ s;refine zAt (wpAny_setField i1 i3 z01 ?_);refine zAt ?_;refine zAt (Zac (zAt (m:=firstArgMember _ _) (wpAny_of_eq (a:=Value.none) (by first|rfl | (simp only[firstArgMember];rfl)) ?_)) (by size_fits));refine Zac ?_ (by size_fits);simp only[raiseNew];refine zAt (wpAny_handled ?_);rw[show A.in1.handled=none from hh];refine zAt (zAx (wpAny_throw ?_));refine zAt (wpAny_isInstance (b:=true) (T:="StopIteration") ⟨_,zB1 _ rfl,rfl⟩ isSubtype_stop ?_);exact zAx (q _ (((Heap.SameBut.update ..).extBut.push _).push _))
end
def Itd(d:Addr)(o:Obj)(kvs:List (List Key×V)):It:=
 ⟨λi H=>H d=some (.frz o (.dT kvs))/\i<kvs.length,λi H x H'=>H'=H/\∃b k v,x=.ref b/\kvs[i]?=some (k,v)/\H b=some (.tup (k.map kV)),λi H=>H d=some (.frz o (.dT kvs))/\kvs.length<=i⟩
theorem KT.get:∀{kvs:List (List Key×V)} {xs:List (List Key×Addr×Value)} {i:Nat} {k:List Key} {v:V},KT H kvs xs->kvs[i]?=some (k,v)->∃b u,xs[i]?=some (k,b,u)/\H b=some (.tup (k.map kV))
 |_,_,_,_,_,.nil,e=>by simp at e
 |p::_,q::_,0,k,v,.cons r t,e=>by grind
 |p::_,q::_,i+1,k,v,.cons r t,e=>by
  obtain⟨b,u,e1,e2⟩:=KT.get t e;exact⟨b,u,by rw[Za9];exact e1,e2⟩
theorem KT.len:∀{kvs:List (List Key×V)} {xs:List (List Key×Addr×Value)},KT H kvs xs->xs.length=kvs.length
 |_,_,.nil=>rfl
 |_,_,.cons _ t=>by rw[zAe,zAe,KT.len t]
theorem Inv.frzT{σ:St}(I:Inv X z06 σ H s)(e:H d=some (.frz o (.dT kvs))):s.heap.get? d=some o/\o.ExactDict/\(d==sysModules)=false /\
  ∃es ep xs,o.data=.dict es ep/\KT H kvs xs/\es.toList=xs.map (entryOfKey (tupleKind (bZ X.prog X.w))):=by
 obtain⟨e0,_,hs,xs,kt,o',es,ep,g1,g2,g3,g4,_⟩:=(I.hok _ _ e)
 rw[e0]at g1;cases g1;exact⟨e0,g2,hs,es,ep,xs,g3,kt,g4⟩
theorem Bc{es:Array DictEntry}(kt:KT H kvs xs)(e:es.toList=xs.map (entryOfKey (tupleKind (bZ P w)))):es.size=kvs.length:=by
 rw[<-zA9,e,zA1,kt.len]
theorem Be{K:Frag}(d it:Addr)(o:Obj)(kvs:List (List Key×V))(es:Array DictEntry)(ep:Nat)(od:o.data=.dict es ep)(hz:es.size=kvs.length):Turn P w K tg (Itd d o kvs) [it] it (λi h=>h.IsKeyIter it d i es.size ep) where
 mem:=by simp
 obj:=λi h st b hb=>by
  have e:b=it:=by simpa using hb
  subst e;obtain⟨o,e,c,d⟩:=st;exact⟨o,e,λv z=>by rw[d]at z;cases z⟩
 keep:=λi h h' st k=>st.at λo e=>k it z01 o e
 item:=by
  intro X hP hw hK hc i z06 s σ H E I hf st hg;subst hP hw hK;obtain⟨hq,hx⟩:=hg;obtain⟨e0,g2,hs,fN,A9,xs,g3,kt,g4⟩:=I.frzT hq;rw[od]at g3;cases g3;obtain⟨b,u,ex,eb⟩:=kt.get (k:=kvs[i].1) (v:=kvs[i].2) (zA0 hx);have ee:es[i]?=some (entryOfKey (tupleKind (bZ X.prog X.w)) (kvs[i].1,b,u)):=by rw[entry_at g4,ex];rfl
  obtain⟨f0,f1,f2,f3,f4,f5⟩:=hf it z01;refine GR st e0 od ee λh' z07 sb=>?_;have I1:Inv X z06 σ H {s with heap:=h'}:=I.turned (t':=s.toks) (λb o hb e=>(sb.2 b hb).trans e) f0 f1 f3 f4 f5;obtain⟨o2,e2,c2,d2⟩:=id z07;exact⟨.ref b,rfl,uW (s:={s with heap:=h'}) e2 c2 d2 z02 ⟨.ref b,H,I1,rfl,⟨rfl,b,kvs[i].1,kvs[i].2,rfl,zA0 hx,eb⟩,z07,λb hb=>(hf b hb).1⟩⟩
 done:=by
  intro X hP hw hK hc i z06 s σ H E I hf st hg;subst hP hw hK;obtain⟨hq,hx⟩:=hg;obtain⟨e0,g2,hs,fN,A9,xs,g3,kt,g4⟩:=I.frzT hq;rw[od]at g3;cases g3;obtain⟨f0,f1,f2,f3,f4,f5⟩:=hf it z01
  exact JR (I.ok.hd hc) st e0 od z00 λh' eb=>⟨rfl,I.turned (t':=s.toks) (λb o hb e=>eb b o hb e) f0 f1 f3 f4 f5⟩
 self:=λ_ _ _ _ _ st h=>wpAny_pyIter_keyiter st h
section
def Mf(tl:TE):TI:=λσ H R=>tl σ H λx H1=>∃d o kvs,x=.ref d/\H1 d=some (.frz o (.dT kvs))/\R (Itd d o kvs) H1
theorem GX(hl:PE X l tl):PI X tg l (Mf tl):=by
 intro z06 s σ H R I h;refine thn (hl z06 s σ H _ I h) λv s1=>?_;rintro⟨x,H1,I1,r1,q1⟩;obtain⟨d,o,kvs,e,hq,q⟩:=q1;subst e;cases r1;obtain⟨e0,g2,hs,es,ep,xs,g3,kt,g4⟩:=I1.frzT hq;refine GQ hs e0 g2 g3 ?_;refine⟨s1.heap.objs.size,[s1.heap.objs.size],_,_,H1,rfl,I1.kept (t':=s1.toks) λb o e=>zAv _ e,Be d _ o kvs es ep g3 (Bc kt g4),⟨_,zB1 _ rfl,rfl,rfl⟩,λb hb=>?_,q⟩;have e:b=s1.heap.objs.size:=by simpa using hb
 subst e;exact I1.fpOk (zA3 _) (I1.hok.fresh (zA3 _))
end
open PySem PyProof.Rows HT
section
inductive TFrzSI(t:TS)(D:Ends)(σ:St)(H:Hp):Prop
 |mk:∀d kvs,(H d=some (.dT kvs))->(∀o,t {D with nx:=λah H'=>H' d=some (.frz o (.dT kvs))/\D.nx ah (upd H' d (.dT kvs)),bk:=λ_ _=>False,ct:=λ_ _=>False,rt:=λ_ _=>False} σ (upd H d (.frz o (.dT kvs))))->TFrzSI t D σ H
def Mi(t:TS):TS:=λD σ H=>TFrzSI t D σ H
theorem JS(h:PS X e t):PS X e (Mi t):=by
 intro z06 s σ H D I hq;obtain⟨d,kvs,ed,hq⟩:=hq
 obtain⟨hz,hs,xs,kt,o,es,ep,g1,g⟩:=(show ObjOk X.prog X.w H s.heap d (.dT kvs)from I.hok _ _ ed)
 have nt:∀{b:Addr} {u:HO},H b=some u->u≠.dT kvs->b≠d:=λ{b u} e n z=>by
  rw[z,ed]at e;exact n (zAl e).symm
 have I1:Inv X z06 σ (upd H d (.frz o (.dT kvs))) {s with heap:=s.heap,toks:=s.toks}:=by
  refine I.un ⟨λb ob q _ _ _=>q,λb ob q _ _ _=>⟨ob.slots,q⟩,λb ob q n _=>?_,λb ob q _=>⟨ob,q⟩,λb xs q=>?_,λb ob u q=>?_,λb ps q=>⟨#[],?_⟩⟩ λb u e=>?_
  .rw[aA λz=>by rw[z,ed]at n;cases n];exact n
  .rw[aA (nt q λz=>by cases z)];exact q
  .rw[aA (nt q λz=>by cases z)];exact q
  .rw[aA (nt q λz=>by cases z),q];simp
  .have gx:∀c xs,H c=some (.tup xs)->upd H d (.frz o (.dT kvs)) c=some (.tup xs):=λc xs q=>by
    rw[aA (nt q λz=>by cases z)];exact q
   by_cases hb:b=d
   .subst hb;rw[aa]at e;cases e;exact⟨g1,(show ObjOk X.prog X.w H s.heap b (.dT kvs)from I.hok _ _ ed).stay (λ_ _ _ q=>q) (λc q=>by rw[aA (nt q λz=>by cases z)];exact q) gx⟩
   .rw[aA hb]at e;exact(I.hok b u e).stay (λ_ _ _ q=>q) (λc q=>by rw[aA (nt q λz=>by cases z)];exact q) gx
 refine thn (h z06 s σ _ _ I1 (hq o)) λfl s1 qE=>?_
 cases fl with
 |brk=>obtain⟨_,_,_,z⟩:=qE;exact z.elim
 |cont=>obtain⟨_,_,_,z⟩:=qE;exact z.elim
 |ret u=>obtain⟨_,_,_,_,_,z⟩:=qE;exact z.elim
 |next=>
 obtain⟨uk,H1,J,e1,q1⟩:=qE
 have FC:∀{b:Addr} {u:HO},H1 b=some u->u≠.frz o (.dT kvs)->b≠d:=λ{b u} e n z=>by
  rw[z,e1]at e;exact n (zAl e).symm
 have fr:∀b,H1 b=none->upd H1 d (.dT kvs) b=none:=λb n=>by
  rw[aA λz=>by rw[z,e1]at n;cases n];exact n
 refine⟨uk,upd H1 d (.dT kvs),⟨J.ok,J.os,J.bare,⟨J.base.keep,J.base.slot,λb ob q n hx=>fr b (J.base.free b ob q n hx),J.base.there,λb xs q=>?_,λb ob u q=>?_,λb ps q=>?_⟩,J.loc,J.cell,fr _ J.free,λy c e=>fr _ (J.freeC y c e),λp hp=>?_,λb u e=>?_,J.len⟩,q1⟩
 .have:=J.base.tups b xs q;rw[aA (FC this λz=>by cases z)];exact this
 .have h0:=I.base.frzs b ob u q;have:=J.base.frzs b ob u q;rw[aA (nt h0 λz=>by cases z)];exact this
 .obtain⟨m,e⟩:=J.base.tbls b ps q;exact⟨m,by rw[aA (FC e λz=>by cases z)];exact e⟩
 .obtain⟨a,n,c⟩:=J.pin p hp;exact⟨a,fr _ n,c⟩
 .have gx:∀c xs,H1 c=some (.tup xs)->upd H1 d (.dT kvs) c=some (.tup xs):=λc xs q=>by
   rw[aA (FC q λz=>by cases z)];exact q
  have sM:∀a c,H1 c=some (.own a)->upd H1 d (.dT kvs) c=some (.own a):=λa c q=>by
   rw[aA (FC q λz=>by cases z)];exact q
  by_cases hb:b=d
  .subst hb;rw[aa]at e;cases e;exact ObjOk.stay (show ObjOk X.prog X.w H1 s1.heap b (.dT kvs)from(show ObjOk X.prog X.w H1 s1.heap b (.frz o (.dT kvs))from J.hok _ _ e1).2) (λ_ _ _ q=>q) (sM b) gx
  .rw[aA hb]at e;exact(J.hok b u e).stay (λ_ _ _ q=>q) (sM b) gx
end
structure Fly(h:Heap)(e:Addr)(C tb:Value):Prop where
 obj:∃oe vs,h.get? e=some oe/\oe.cls=C/\oe.data=.fields vs/\vs[1]?=some tb/\oe.dict=none
 tr:tb=.none\/∃T oT ts,tb=.ref T/\T≠e/\h.get? T=some oT/\oT.data=.fields ts/\ts[3]?=some .none
theorem Bf(f:Array Value->Array Value)(o:Obj):(Obj.mapFields f o).dict=o.dict:=by
 unfold Obj.mapFields;split<;>rfl
section
theorem vO
  (kS:A.frames=some (env::outer)) (hl:s.heap.FunFrames base (env::outer)) (hf:env.frame=some L) (he:s.heap.get? e=some oe) (hd:oe.data=.fields vs) (hz:1<vs.size) (sN:oe.dict=none)
  (h:∀h' T,s.heap.get? T=none->Fly h' e oe.cls (.ref T)->(∀b o,s.heap.get? b=some o->b≠e->b∉frs (env::outer)->h'.get? b=some o)->(∀b o,s.heap.get? b=some o->b≠e->∃sl,h'.get? b=some {o with slots:=sl})->Q () {s with heap:=h'}):
  wpAny M A (do let a <-frameOf env;let pl <-entryPlaceOf L qS;let b <-EntryCells.newEntry head a .none (rawInt L) .none pl;setField (.ref e) 1 b) (λ_ s'=>wpAny M A (setFlight (.ref e) none) Q E s') E s:=by
 have ne:e∉frs (env::outer):=λhm=>by
  obtain⟨_,o,ho,hn⟩:=hl.mem hm;rw[he]at ho;cases ho;exact hn vs hd
 refine zAt (wpAny_frameOf_fun kS hl hf λh1 qE=>?_);have e1:h1.get? e=some oe:=(qE.2.1 e ne).trans he;refine zAt (wpAny_entryPlaceOf λpl dP=>?_);unfold EntryCells.newEntry newFields;refine zAt (Zac ?_ (dP.sizeOk5 _ _ _ _ _))
 obtain⟨fs,Oj⟩:∃fs,fs=([head,.ref L,.none,rawInt L,.none]++(if pl.isEmpty then List.replicate 6 Value.none else pl)).toArray:=⟨_,rfl⟩
 have fz:3<fs.size:=by
  rw[Oj,zA8,zA2];show 3<5+_;lia
 rw[<-Oj]
 obtain⟨h2,FD⟩:∃h2,h2=h1.push {cls:=.type "traceback",dict:=none,data:=.fields fs}:=⟨_,rfl⟩
 have nT:h1.objs.size≠e:=Zar (zB0 e1);have t2:h2.get? h1.objs.size=some {cls:=.type "traceback",dict:=none,data:=.fields fs}:=by rw[FD];exact zB1 h1 rfl
 have k2:∀b o,h1.get? b=some o->h2.get? b=some o:=λb o z=>by rw[FD];exact zAv _ z
 refine wpAny_setField (s:={s with heap:=h1.push {cls:=.type "traceback",dict:=none,data:=.fields fs}}) (by rw[<-FD];exact k2 _ _ e1) hd hz ?_;rw[<-FD]
 obtain⟨h3,zI⟩:∃h3,h3=h2.update e (Obj.mapFields (·.setIfInBounds 1 (Value.ref h1.objs.size))):=⟨_,rfl⟩
 have d3:=Obj.data_mapFields hd (·.setIfInBounds 1 (Value.ref h1.objs.size));have g3:=Heap.get?_update_self (Obj.mapFields (·.setIfInBounds 1 (Value.ref h1.objs.size))) (k2 _ _ e1) (Obj.isFreed_of_fields d3)
 have o3:∀b,b≠e->h3.get? b=h2.get? b:=λb hb=>by rw[zI];exact Heap.get?_update_other _ _ (Ne.symm hb)
 rw[<-zI]at g3⊢;unfold setFlight;have v1:(vs.setIfInBounds 1 (Value.ref h1.objs.size))[1]?=some (.ref h1.objs.size):=by simp[hz]
 refine zAt (wpAny_field (s:={s with heap:=h3}) g3 d3 v1 ?_);have t3:h3.get? h1.objs.size=some {cls:=.type "traceback",dict:=none,data:=.fields fs}:=(o3 _ nT).trans t2;refine wpAny_setField (s:={s with heap:=h3}) t3 rfl fz ?_
 have kk:∀b o,b≠e->h1.get? b=some o->(h3.update h1.objs.size (Obj.mapFields (·.setIfInBounds 3 ((none:Option Addr).elim Value.none λf=>rawInt f)))).get? b=some o:=λb o hb z=>by
  rw[Heap.get?_update_other _ _ (Zar (zB0 z)),o3 b hb];exact k2 b o z
 refine h _ h1.objs.size ?_ ⟨⟨_,_,?_,Obj.cls_mapFields _ _,d3,v1,(Bf _ _).trans sN⟩,.inr ⟨h1.objs.size,_,_,rfl,nT,Heap.get?_update_self _ t3 (Obj.isFreed_of_fields (Obj.data_mapFields rfl _)),Obj.data_mapFields rfl _,by simp[fz]⟩⟩ (λb o z hb hn=>?_) λb o z hb=>?_
 .cases z:s.heap.get? h1.objs.size with
  |none=>rfl
  |some o=>
   obtain⟨sl,q⟩:=qE.2.2 _ o z;exact absurd (zB0 q) (Zak _)
 .rw[Heap.get?_update_other _ _ nT];exact g3
 .exact kk b o hb ((qE.2.1 b hn).trans z)
 .obtain⟨sl,q⟩:=qE.2.2 b o z;exact⟨sl,kk b _ hb q⟩
theorem yV
  (kS:A.frames=some (env::outer)) (hl:s.heap.FunFrames base (env::outer)) (hf:env.frame=some L) (fl:Fly s.heap e C tb)
  (h:∀h' T,s.heap.get? T=none->Fly h' e C (.ref T)->(∀b o,s.heap.get? b=some o->b≠e->tb≠.ref b->b∉frs (env::outer)->h'.get? b=some o)->(∀b o,s.heap.get? b=some o->b≠e->tb≠.ref b->∃sl,h'.get? b=some {o with slots:=sl})->(∀b o,s.heap.get? b=some o->∃o',h'.get? b=some o')->Q () {s with heap:=h'}):
  wpAny M A (noteFrame (.ref e) env) (λ_ s'=>wpAny M A (setFlight (.ref e) none) Q E s') E s:=by
 obtain⟨⟨oe,vs,he,rfl,hd,h1,sN⟩,tr⟩:=fl;have hz:=(Array.getElem?_eq_some_iff.mp h1).1;unfold noteFrame;simp only[hf];refine zAt (wpAny_field he hd h1 ?_);rcases tr with rfl|⟨T0,oT,ts,rfl,nT,hT,pj,h3⟩
 .rw[zAy z02];refine vO kS hl hf he hd hz sN λh' T nT hZ k1 k2=>h h' T nT hZ (λb o z hb _ hn=>k1 b o z hb hn) (λb o z hb _=>k2 b o z hb) λb o z=>?_;by_cases hb:b=e
  .obtain⟨JO,_,q,_⟩:=hZ.obj;exact⟨JO,hb▸q⟩
  .obtain⟨sl,q⟩:=k2 b o z hb;exact⟨_,q⟩
 .rw[zAz (show(Value.ref T0 != Value.none)=true by simp)];refine zAt (wpAny_field hT pj h3 ?_);refine zAt (wpAny_setField hT pj (Array.getElem?_eq_some_iff.mp h3).1 ?_)
  obtain⟨g,eg⟩:∃g,g=s.heap.update T0 (Obj.mapFields (·.setIfInBounds 3 Value.none)):=⟨_,rfl⟩
  have og:∀b,b≠T0->g.get? b=s.heap.get? b:=λb hb=>by rw[eg];exact Heap.get?_update_other _ _ (Ne.symm hb)
  have tg:∃o,g.get? T0=some o:=⟨_,by rw[eg];exact Heap.get?_update_self _ hT (Obj.isFreed_of_fields (Obj.data_mapFields pj _))⟩
  have cx:g.FunFrames base (env::outer):=hl.of_keeps λb o z hn=>⟨o,(og b λq=>by rw[q,hT]at z;cases z;exact hn ts pj).trans z,rfl⟩
  rw[<-eg];refine vO (s:={s with heap:=g}) kS cx hf ((og e (Ne.symm nT)).trans he) hd hz sN λh' T CA hZ k1 k2=>h h' T ?_ hZ (λb o z hb ht hn=>k1 b o ((og b λq=>ht (by rw[q])).trans z) hb hn) (λb o z hb ht=>k2 b o ((og b λq=>ht (by rw[q])).trans z) hb) λb o z=>?_
  .have CA:g.get? T=none:=CA;by_cases q:T=T0
   .obtain⟨o,e⟩:=tg;rw[q,e]at CA;cases CA
   .rw[<-og T q];exact CA
  .by_cases hb:b=e
   .obtain⟨JO,_,q,_⟩:=hZ.obj;exact⟨JO,hb▸q⟩
   .obtain⟨o2,e2⟩:∃o2,g.get? b=some o2:=by grind
    obtain⟨sl,q⟩:=k2 b o2 e2 hb;exact⟨_,q⟩
theorem vP
  (kS:A.frames=some (env::outer)) (hl:s.heap.FunFrames base (env::outer)) (hf:env.frame=some L) (fl:Fly s.heap e C tb)
  (h:∀h' T,s.heap.get? T=none->Fly h' e C (.ref T)->(∀b o,s.heap.get? b=some o->b≠e->tb≠.ref b->b∉frs (env::outer)->h'.get? b=some o)->(∀b o,s.heap.get? b=some o->b≠e->tb≠.ref b->∃sl,h'.get? b=some {o with slots:=sl})->(∀b o,s.heap.get? b=some o->∃o',h'.get? b=some o')->Q () {s with heap:=h'}):
  wpAny M A (leaving env (.ref e)) Q E s:=by
 exact zAt (yV kS hl hf fl h)
end
theorem ObjOk.there(x:ObjOk P w H h a o):∃ob,h.get? a=some ob:=by
 cases o with
 |lst xs=>obtain⟨_,_,_,_,e⟩:=x;exact⟨_,e⟩
 |tup xs=>obtain⟨_,_,_,ob,e,_⟩:=x;exact⟨_,e⟩
 |dK kvs=>obtain⟨_,_,_,_,o,_,_,e,_⟩:=x;exact⟨_,e⟩
 |dT kvs=>obtain⟨_,_,_,_,o,_,_,e,_⟩:=x;exact⟨_,e⟩
 |set S n=>obtain⟨o,_,_,_,e,_⟩:=x;exact⟨_,e⟩
 |ins C dx fs=>obtain⟨_,_,_,e,_⟩:=x;exact⟨_,e⟩
 |own y=>exact x
 |xd fs=>obtain⟨_,⟨_,_,_,e,_⟩,_⟩:=x;exact⟨_,e⟩
 |rng lo hi=>obtain⟨_,_,_,e⟩:=x;exact⟨_,e⟩
 |frz ob u=>obtain⟨e,_⟩:=x;exact⟨_,e⟩
 |tbl ps=>exact⟨_,(x)⟩
 |met f y=>exact⟨_,(x)⟩
 |ext φ=>obtain⟨_,e,_⟩:=x;exact e
theorem HOk.no(x:HOk P w H h)(e:h.get? a=none):H a=none:=by
 cases q:H a with
 |none=>rfl
 |some o=>
  obtain⟨ob,z⟩:=(x a o q).there;rw[e]at z;cases z
def vQ(X:Cx)(EX:Addr->Addr->Hp->Prop):Prop:=∀z06 (σ:St) H s a C tb,Inv X z06 σ H s->Fly s.heap a (.ref C) tb->X.s₀.heap.get? a=none->H a=none->
 (∀T,tb=.ref T->X.s₀.heap.get? T=none/\H T=none)->(∀p∈X.pn++z06,p.1≠a/\tb≠.ref p.1)->EX a C H->X.xe (.ref a) s
def CX1(P:Program)(w:World):CXT:=λouter H s E e s'=>∃a C H' T,e=.ref a/\s'.os=s.os/\AllBare s'.gens/\Un (frs outer) [] H H' s.heap s'.heap/\HOk P w H' s'.heap/\s.heap.get? a=none/\s.heap.get? T=none/\H' a=none/\H' T=none/\Fly s'.heap a (.ref C) (.ref T)/\E (.ref a) (some C) H'
section
theorem Inv.was{σ:St}(I:Inv X z06 σ H s)(hx:X.ex=[])(e:s.heap.get? a=none):X.s₀.heap.get? a=none:=by
 cases q:X.s₀.heap.get? a with
 |none=>rfl
 |some o=>
  obtain⟨o',z⟩:=I.base.there a o q (by rw[hx];simp);rw[e]at z;cases z
theorem J7(W:vQ X λa C H=>E (.ref a) (some C) H)(hx:X.ex=[]):tM (CX1 X.prog X.w) X E:=by
 intro z06 σ H s e s' I h;obtain⟨a,C,H',T,rfl,os,bare,un,hok,na,nT,fa,fT,fl,q⟩:=h;have J:Inv X z06 σ H' s':=I.call' os un hok bare λb z=>absurd z z01;refine W z06 σ H' s' a C (.ref T) J fl (I.was hx na) fa (λT' eT=>by cases eT;exact⟨I.was hx nT,fT⟩) (λp hp=>?_) q;obtain⟨e,_⟩:=I.pin p hp;exact⟨λz=>(by rw[z,na]at e;cases e),λz=>(by cases z;rw[nT]at e;cases e)⟩
def JT(C:Addr)(EX:Addr->Addr->Hp->Prop)(t:TA):TS:=λ_ σ H=>t σ H λvs H1=>vs.length<=sizeLine/\∀a,H1 a=none->EX a C H1
theorem vR{np dA pos:Pos}(O:OwnCls x C bm newId X.mg X.base)(FB:ExcBaseFacts B newId wc bm)(hc:X.calm=true)(hx:X.ex=[])(hg:Gl X x)(ha:PA X (e::es) t)(W:vQ X EX)
  (eC:(x==("__debug__":Str))=false:=by decide) (he:starEach (e::es) X.env=(false,eval e X.env)::starEach es X.env:=by rfl) (dP:(backTo dA (starEach es X.env)).any (·.1)=false:=by rfl):
  PS X (.Raise (some (.Call (.Name x np) (e::es) [] dA)) none pos) (JT C EX t):=by
 intro z06 s σ H D I h;obtain⟨tl,N,nm,q,bs,hdct,sn,sub,ab,col,dd,k0,k1,k2,k3,k5,mN,hC,hN,we,T⟩:=O.obj
 refine wpAny_Raise_call_subT (C:=C) (nm:=nm) (q:=q) (N:=N) (bs:=bs) (bm:=tl) (hdct:=hdct) (sn:=sn) (sub:=sub) (ab:=ab) (col:=col) (dd:=dd) (k0:=k0) (k1:=k1) (k2:=k2) (k3:=k3) (k5:=k5)
  FB (mN:=mN) (T.hasType FB.hasBase) (I.ok.hd hc) (by rw[he];show(false||(backTo dA (starEach es X.env)).any (·.1))=false;rw[dP];rfl) we ?_
 refine jD I hg O.bound ⟨rfl,?_⟩ eC;have h2:=ha dA z06 s σ H _ I h;rw[he]at h2⊢;refine Calls.evalArgs_plain (wpAny_mono h2 (λus s2 z=>?_) λ_ _ y=>y);obtain⟨vs,H1,I1,r1,hl,q1⟩:=z;have hlen:=r1.length;refine⟨rfl,by show us.length<=_;lia,I1.bk _ _ hC,hN.keeps I1.bk,T.keeps I1.bk,λh' a me=>?_⟩;obtain⟨tt,e1,e2,e3⟩:=me.there;have J:Inv X z06 σ H1 {s2 with heap:=h'}:=I1.kept (t':=s2.toks) me.keeps
 have fl:Fly h' a (.ref C) .none:=⟨⟨_,_,e1,rfl,rfl,rfl,rfl⟩,.inl rfl⟩
 refine W z06 σ H1 _ a C .none J fl (I1.was hx me.new) (I1.hok.no me.new) (λT z=>by cases z) (λp hp=>?_) (q1 a (I1.hok.no me.new));obtain⟨e,_⟩:=I1.pin p hp;exact⟨λz=>(by rw[z,me.new]at e;cases e),λz=>(by cases z)⟩
end
theorem iw{K:Frag} :
  vQ (iJ (CX1 P w) P w K mg base N qual scope f cd A outer s H E) λa C H'=>E (.ref a) (some C) H':=by
 intro z06 σ H' s' a C tb I fl na fa ft _ q;have bE:s'.heap.FunFrames base (envOfC qual scope s.heap.objs.size f cd::outer):=I.stack;have kS:(A.deeper (envOfC qual scope s.heap.objs.size f cd)).frames=some (envOfC qual scope s.heap.objs.size f cd::outer):=I.ok.frames;have wm:(envOfC qual scope s.heap.objs.size f cd).frame=some s.heap.objs.size:=by rfl
 have ub:Un (frs outer) [] H H' s.heap s'.heap:=I.base;have na:s.heap.get? a=none:=na;have ft:∀T,tb=.ref T->s.heap.get? T=none/\H' T=none:=ft;refine vP kS bE wm fl λh' T nT hZ k1 k2 k3=>?_
 have apart:∀b o,s.heap.get? b=some o->b≠a/\tb≠.ref b:=λb o e=>⟨λz=>(by rw[z,na]at e;cases e),λz=>(by rw[(ft b z).1]at e;cases e)⟩
 have JU:∀b o,s.heap.get? b=some o->b∉frs outer->b∉frs (envOfC qual scope s.heap.objs.size f cd::outer):=λb o e hn hm=>by
  unfold frs at hm;rw[Zaj,wm]at hm;rcases zAo.mp hm with z|z
  .exact absurd (zB0 e) (by rw[z];exact Zak _)
  .exact hn z
 refine⟨a,C,H',T,rfl,I.os,I.bare,⟨λb o e n hb _=>?_,λb o e n hb _=>?_,ub.free,λb o e hx=>?_,ub.tups,ub.frzs,ub.tbls⟩,λc o e=>?_,na,?_,fa,I.hok.no nT,hZ,q⟩
 .exact k1 b o (ub.keep b o e n hb z01) (apart b o e).1 (apart b o e).2 (JU b o e hb)
 .obtain⟨sl,e1⟩:=ub.slot b o e n hb z01;obtain⟨kr,e2⟩:=k2 b _ e1 (apart b o e).1 (apart b o e).2;exact⟨kr,e2⟩
 .obtain⟨o',e1⟩:=ub.there b o e hx;exact k3 b o' e1
 .refine(I.hok c o e).stay (λd v hd z=>?_) (λ_ z=>z) λ_ _ z=>z;have CB:∃o',H' d=some o':=by grind
  obtain⟨o',eo⟩:=CB;refine k1 d v z (λy=>(by rw[y,fa]at eo;cases eo)) (λy=>(by rw[(ft d y).2]at eo;cases eo)) λhm=>?_;rw[I.stkFree d hm]at eo;cases eo
 .exact I.was rfl nT
theorem Fun.okX{K:Frag}{st:Stmt}{f:Addr}{fd:FuncData}{N ps:List Str}{k:Nat}{sp:Sp}(F:Fun K x qual st f fd)(S:FnScope N ps (az st))(len:∀vs H Q E,sp vs H Q E->vs.length=ps.length)
  (ar:∀cdv A outer s H vs Q E,Room k (A.deeper (envOfC qual (az st) s.heap.objs.size f cdv))->sp vs H Q E->
   ∃t,PSs (iJ (CX1 P w) P w K mg base N qual (az st) f cdv A outer s H E) (cB st) t/\t {nx:=λ_ H'=>Q .non H',rt:=Q} (start N vs) H):FnOk P w K mg base (CX1 P w) (k+1) f fd ps sp:=by
 obtain⟨oc,od,kV,doc,pm,an,cdv,ct,kM,rfl,lk,eB⟩:=F.ex;exact Cu lk eB S len λA outer s H vs Q E hr hV=>ar cdv A outer s H vs Q E hr hV
theorem Fun.oqX {K:Frag} {st:Stmt} {f:Addr} {fd:FuncData} {N ps:List Str} {k:Nat} {sp:Sp} (F:Fun K x qual st f fd) (S:FnScope N ps (az st)) (ar:∀cdv A outer s H vs Q E,Room k (A.deeper (envOfC qual (az st) s.heap.objs.size f cdv))->sp vs H Q E->
   ∃t,PSs (iJ (CX1 P w) P w K mg base N qual (az st) f cdv A outer s H E) (cB st) t/\t {nx:=λ_ H'=>Q .non H',rt:=Q} (start N vs) H) (len:LenOk sp ps:=by exact{}):FnOk P w K mg base (CX1 P w) (k+1) f fd ps sp:=F.okX S len.h ar
theorem Do{K:Frag}(X:K.In h)(hm:mg x=some (.ref C))(q:PySem.W.excIn K C Ol newId=true):OwnCls x C Ol newId mg h:=by
 refine⟨hm,?_⟩;unfold PySem.W.excIn at q;split at q
 .rename_i dd cd sl ho
  split at q
  .rename_i C' bm k0 k1 k2 k3 n k5 zi hs
   simp only[Bool.and_eq_true,beq_iff_eq,Bool.not_eq_true']at q;obtain⟨⟨⟨⟨⟨rfl,rfl⟩,CC⟩,ht⟩,hok⟩,we⟩:=q;obtain⟨nm,bs,mro,ns,qn,hd,sn,sub,ab,col,del⟩:=cd;dsimp only at zi CC hok we;subst zi CC;obtain⟨l⟩:=sl;subst hs;exact⟨bm,ns,nm,qn,bs,hd,sn,sub,ab,col,dd,k0,k1,k2,k3,k5,_,X _ _ ho,.of_isNs (PySem.W.isNs_of_in X hok),PySem.W.nsMap_none_of_in X hok we,PySem.W.tail_of_in X ht⟩
  .cases q
 .cases q
section
variable{σ:St}
theorem Fly.ne(fl:Fly h a C tb)(e:h.get? b=some o)(hd:∀vs,o.data≠.fields vs):b≠a/\tb≠.ref b:=by
 obtain⟨⟨oe,vs,he,_,hv,_,_⟩,tr⟩:=fl;refine⟨λz=>?_,λz=>?_⟩
 .rw[z,he]at e;cases e;exact hd vs hv
 .rcases tr with q|⟨T,oT,ts,q,_,hT,pj,_⟩
  .rw[q]at z;cases z
  .rw[q]at z;cases z;rw[hT]at e;cases e;exact hd ts pj
theorem Inv.left(I:Inv X z06 σ H s)(hx:X.ex=[])(fl:Fly s.heap a C tb)(na:X.s₀.heap.get? a=none)(fa:H a=none)(ft:∀T,tb=.ref T->X.s₀.heap.get? T=none/\H T=none)(hp:∀p∈X.pn++z06,p.1≠a/\tb≠.ref p.1)
  (k1:∀b o,s.heap.get? b=some o->b≠a->tb≠.ref b->b∉frs X.stack->h'.get? b=some o) (k2:∀b o,s.heap.get? b=some o->b≠a->tb≠.ref b->∃sl,h'.get? b=some {o with slots:=sl}) (k3:∀b o,s.heap.get? b=some o->∃o',h'.get? b=some o'):Inv X z06 σ H {s with heap:=h',toks:=t'}:=by
 have tr:∀b u,H b=some u->b≠a/\tb≠.ref b/\b∉frs X.stack:=λb u e=>⟨λz=>(by rw[z,fa]at e;cases e),λz=>(by rw[(ft b z).2]at e;cases e),λz=>(by rw[I.stkFree b z]at e;cases e)⟩
 have old:∀b o,X.s₀.heap.get? b=some o->b≠a/\tb≠.ref b:=λb o e=>⟨λz=>(by rw[z,na]at e;cases e),λz=>(by rw[(ft b z).1]at e;cases e)⟩
 have EZ:∀b o,X.s₀.heap.get? b=some o->b≠X.env.locals:=λb o e=>zB5 (zB4 (zB0 e) I.ok.above);have Om:∀b,b≠X.env.locals->b∉X.fs->b∉frs X.stack:=λb h1 h2 z=>(zAo.mp (I.stkSub b z)).elim h1 h2
 have cellK:∀x c,X.env.cells.lookup x=some c->∀v,s.heap.IsCell c v->h'.IsCell c v:=λx c e v hZ=>by
  obtain⟨o,ho,hd⟩:=hZ;obtain⟨n1,n2⟩:=fl.ne ho λvs q=>by rw[hd]at q;cases q
  obtain⟨sl,q⟩:=k2 c o ho n1 n2;exact⟨_,q,hd⟩
 refine⟨I.ok,I.os,I.bare,⟨λb o e n hb cS=>?_,λb o e n hb cS=>?_,I.base.free,λb o e cS=>?_,I.base.tups,I.base.frzs,I.base.tbls⟩,?_,λx c e=>?_,I.free,I.freeC,λp ij=>?_,λc o e=>?_,I.len⟩
 .exact k1 b o (I.base.keep b o e n hb cS) (old b o e).1 (old b o e).2 (Om b (EZ b o e) hb)
 .obtain⟨sl,e1⟩:=I.base.slot b o e n hb cS;obtain⟨kr,e2⟩:=k2 b _ e1 (old b o e).1 (old b o e).2;exact⟨kr,e2⟩
 .obtain⟨o',e1⟩:=I.base.there b o e cS;exact k3 b o' e1
 .obtain⟨m,⟨o,es,ep,ho,hd,r⟩,hl⟩:=I.loc
  obtain⟨n1,n2⟩:=fl.ne ho λvs q=>by rw[hd]at q;cases q
  obtain⟨sl,q⟩:=k2 _ o ho n1 n2;refine⟨m,⟨_,es,ep,q,hd,r⟩,λi x v e1 e2 e3=>?_⟩;obtain⟨u,rr,l⟩:=hl i x v e1 e2 e3;refine⟨u,rr,?_⟩;rcases l with l|⟨k,c,e,z⟩
  .exact .inl l
  .exact .inr ⟨k,c,e,cellK x c e _ z⟩
 .obtain⟨v,z⟩:=I.cell x c e;exact⟨v,cellK x c e v z⟩
 .obtain⟨e,n,ne,nf,d⟩:=I.pin p ij;exact⟨k1 p.1 p.2 e (hp p ij).1 (hp p ij).2 (Om p.1 ne nf),n,ne,nf,d⟩
 .refine(I.hok c o e).stay (λd v hd z=>?_) (λ_ z=>z) λ_ _ z=>z;have CB:∃o',H d=some o':=by grind
  obtain⟨o',eo⟩:=CB;obtain⟨t1,t2,t3⟩:=tr d o' eo;exact k1 d v z t1 t2 t3
end
structure RoomU(k:Nat)(A:Around):Prop where
 dp:A.depth+3*k+5<recursionLimit
 un:A.units+16*k+200<cLine
 gd:A.guards=some []
theorem Room.toU(r:Room k A):RoomU k A:=⟨r.dp,r.un,r.gd⟩
theorem RoomU.mono(r:RoomU k A)(h:j<=k):RoomU j A:=⟨by have:=r.dp;lia,by have:=r.un;lia,r.gd⟩
structure FnOkU(P:Program)(w:World)(K:Frag)(mg:Str->Option Value)(base:Heap)(CX:CXT)(k:Nat)(f:Addr)(fd:FuncData)(ps:List Str)(sp:Sp):Prop where
 len:∀vs H Q E,sp vs H Q E->vs.length=ps.length
 run:∀A outer s H args us vs Q E,RoomU k A->Env0 P w K mg base A outer s H->BindsTo s fd args (ps.zip us)->Vals vs us->sp vs H Q E->
  codeAny (model P w) A (.call (.ref f) args) (CR CX outer P w H s Q E) s
abbrev Cx.un(X:Cx)(A:Around):Cx:={X with A:=A,calm:=false}
theorem Inv.un'{σ:St}(I:Inv X z06 σ H s)(A:Around)(hA:A.frames=X.A.frames):Inv (X.un A) z06 σ H s:=
 ⟨⟨I.ok.mod,I.ok.kind,I.ok.glob,I.ok.blt,I.ok.above,I.ok.inj,I.ok.has,I.ok.cab,λz=>(by cases z),hA.trans I.ok.frames,I.ok.stk,I.ok.exf,I.ok.bs,I.ok.bsz,I.ok.noex,I.ok.exfs,I.ok.funs,I.ok.frf⟩,I.os,I.bare,I.base,I.loc,I.cell,I.free,I.freeC,I.pin,I.hok,I.len⟩
def qt(A:Around):Around:={A with handled:=none}
theorem Env0.qt{K:Frag}(e:Env0 P w K mg base A outer s H):Env0 P w K mg base (qt A) outer s H:=
 ⟨e.frames,e.mod,e.bs,e.bsz,e.funs,e.frf,e.hok,e.bare⟩
theorem RoomU.mark(r:RoomU k A)(v:Option Value):RoomU k (A.mark v):=⟨r.dp,r.un,r.gd⟩
theorem RoomU.deeper(r:RoomU (k+1) A)(env:Env):RoomU k (A.deeper env):=
 ⟨by have:=r.dp;show A.depth+1+3*k+5<_;lia,by have:=r.un;show A.units+3+16*k+200<_;lia,r.gd⟩
theorem Fun.okU{K:Frag}{st:Stmt}{f:Addr}{fd:FuncData}{N ps:List Str}{k:Nat}{sp:Sp}(F:Fun K x qual st f fd)(S:FnScope N ps (az st))(len:∀vs H Q E,sp vs H Q E->vs.length=ps.length)
  (ar:∀cdv A outer s H vs Q E,RoomU k (A.deeper (envOfC qual (az st) s.heap.objs.size f cdv))->sp vs H Q E->
   ∃t,PSs (((iJ CX0 P w K mg base N qual (az st) f cdv (qt A) outer s H E).un (A.deeper (envOfC qual (az st) s.heap.objs.size f cdv))).nox) (cB st) t/\t {nx:=λ_ H'=>Q .non H',rt:=Q} (start N vs) H):
  FnOkU P w K mg base CX0 (k+1) f fd ps sp:=by
 obtain⟨oc,od,kV,doc,pm,an,cdv,ct,kM,rfl,lk,eB⟩:=F.ex;refine⟨len,λA outer s H args us vs Q E hr e0 hb r hV=>?_⟩;have hl:=len _ _ _ _ hV;have KX:K.In s.heap:=e0.mod.kin.keeps λb o e=>(e0.bs b o e).1;have lim:s.heap.NoLimit:=e0.mod.nolimit.keeps λb o e=>(e0.bs b o e).1
 have l9:∀y∈ps.zip us,(az st).names.lookup y.1=some .local\/((az st).names.lookup y.1=some .cell/\((cellsFrom (s.heap.objs.size+1) (az st).names []).lookup y.1).isSome=true):=λ⟨n,v⟩ hy=>by
  rcases S.par n (List.of_mem_zip hy).1 with q|q
  .exact .inl q
  .exact .inr ⟨q,PySem.W.cellsFrom_some _ _ _ (.inl q)⟩
 refine codeAny_call_function (by have:=hr.dp;lia) (KX _ _ lk) rfl S.co S.gen rfl (PySem.W.codeRec_of KX eB) (hb _ _ _ _ ?_);refine wpAny_newFunctionEnv_cells S.kind l9 λenv he s1 x=>?_;subst he;refine⟨lim.keeps x.toInCall.keep,codeAny_func ?_⟩;obtain⟨t,ht,hq⟩:=ar cdv A outer s H vs Q E (hr.deeper _) hV;have I:Inv (iJ CX0 P w K mg base N qual (az st) f cdv (qt A) outer s H E) [] (start N vs) H s1:=rH S rfl e0.qt hl r x;have J:=(I.un' (A.deeper (envOfC qual (az st) s.heap.objs.size f cdv)) rfl).wish λ_ _=>False;refine wpAny_mono (ht [] s1 (start N vs) H _ J hq) (λfl s' hs=>?_) λe s' hs=>hs.elim
 have fin:∀{ah:St} {H':Hp} {v:V} {u:Value},Inv (((iJ CX0 P w K mg base N qual (az st) f cdv (qt A) outer s H E).un (A.deeper (envOfC qual (az st) s.heap.objs.size f cdv))).nox) [] ah H' s'->RelV v u->Q v H'->CE outer P w H s Q u s':=
  λ{ah H' v u} J rv q=>⟨v,H',J.os,J.bare,J.base,J.hok,rv,q⟩
 cases fl with
 |ret u=>
  obtain⟨v,ah,H',J,rv,q⟩:=hs;exact fin J rv q
 |next=>
  obtain⟨ah,H',J,q⟩:=hs;exact fin (v:=V.non) (u:=Value.none) J rfl q
 |brk=>
  obtain⟨_,_,_,q⟩:=hs;exact False.elim q
 |cont=>
  obtain⟨_,_,_,q⟩:=hs;exact False.elim q
theorem Fun.oqU {K:Frag} {st:Stmt} {f:Addr} {fd:FuncData} {N ps:List Str} {k:Nat} {sp:Sp} (F:Fun K x qual st f fd) (S:FnScope N ps (az st)) (ar:∀cdv A outer s H vs Q E,RoomU k (A.deeper (envOfC qual (az st) s.heap.objs.size f cdv))->sp vs H Q E->
   ∃t,PSs (((iJ CX0 P w K mg base N qual (az st) f cdv (qt A) outer s H E).un (A.deeper (envOfC qual (az st) s.heap.objs.size f cdv))).nox) (cB st) t/\t {nx:=λ_ H'=>Q .non H',rt:=Q} (start N vs) H) (len:LenOk sp ps:=by exact{}):
  FnOkU P w K mg base CX0 (k+1) f fd ps sp:=F.okU S len.h ar
section
variable{p pos:Pos}
theorem Dp(F:FnOkU X.prog X.w X.K X.mg X.base CX0 k f fd ps sp)(hr:RoomU k X.A)(hg:Gl X x)(hm:X.mg x=some (.ref f))(hk:PySem.W.keepIn X.K (.ref f)=true)(hb:Binds X.K fd ps [])(ha:PA X (e::es) t)
  (eC:(x==("__debug__":Str))=false:=by decide) (he:starEach (e::es) X.env=(false,eval e X.env)::starEach es X.env:=by rfl) (dP:(backTo pos (starEach es X.env)).any (·.1)=false:=by rfl):
  PE X (.Call (.Name x p) (e::es) [] pos) (uZ sp [] E0 t):=by
 intro z06 s σ H Q I h;refine wpAny_Call_Name_kw (jD I hg hm ?_ eC);refine PySem.W.callWith_K (h₀:=X.base) I.ok.mod.kin hk (thn (ha pos z06 s σ H _ I h) λus s1 ⟨vs,H1,I1,r,q⟩=>⟨I1.kIn,?_⟩) he dP;have q:sp (vs++[]) H1 Q E0:=q;rw[zAn]at q;have hl:(us++[]).length=ps.length:=by rw[zAn,<-r.length];exact F.len _ _ _ _ q
 have CD:=hb s1 us I1.kIn hl;rw[zAn]at CD;refine wpAny_call (codeAny_mono (F.run X.A X.stack s1 H1 ⟨us,[]⟩ us vs Q E0 hr I1.env0 CD r q) λrr s' hq=>?_)
 cases rr with
 |error e=>exact(hq).elim
 |ok fl=>
  cases fl with
  |ret u=>exact I1.after hq
  |next=>exact False.elim hq
  |brk=>exact False.elim hq
  |cont=>exact False.elim hq
end
def excAt(a C:Addr)(h:Heap):Prop:=∃o vs,h.get? a=some o/\o.cls=.ref C/\o.data=.fields vs/\o.dict=none
theorem excAt.ok(x:excAt a C h):ObjOk P w H h a (.ext (excAt a C)):=
 ⟨x,(let⟨o,_,e,_⟩:=x;⟨o,e⟩),λh1 h2 z k=>(let⟨o,vs,e,r⟩:=z;⟨o,vs,k o e,r⟩)⟩
theorem HOk.tracked(x:HOk P w H h)(n:H a=none)(new:ObjOk P w (upd H a o) h a o):HOk P w (upd H a o) h:=λb u e=>by
 by_cases z:b=a
 .subst z;rw[aa]at e;cases e;exact new
 .rw[aA z]at e
  exact(x b u e).stay (λ_ _ _ q=>q) (λc q=>by rw[aA (aD q n)];exact q) λc xs q=>by rw[aA (aD q n)];exact q
theorem Inv.track{σ:St}(I:Inv X z06 σ H s)(hx:X.ex=[])(n:H a=none)(na:X.s₀.heap.get? a=none)(hL:a≠X.env.locals)(hc:∀x c,X.env.cells.lookup x=some c->c≠a)(hp:∀p∈X.pn++z06,p.1≠a)(new:ObjOk X.prog X.w (upd H a o) s.heap a o):
  Inv X z06 σ (upd H a o) s:=
 ⟨I.ok,I.os,I.bare,⟨I.base.keep,I.base.slot,λb ob e h1 h2=>(by rw[aA (λz=>(by rw[z,na]at e;cases e))];exact I.base.free b ob e h1 h2),I.base.there,λb xs e=>(have q:=I.base.tups b xs e;by rw[aA (aD q n)];exact q),λb ob u e=>(have q:=I.base.frzs b ob u e;by rw[aA (aD q n)];exact q),
  λb ps e=>(let⟨m,q⟩:=I.base.tbls b ps e;⟨m,by rw[aA (aD q n)];exact q⟩)⟩,I.loc,I.cell,(by rw[aA (Ne.symm hL)];exact I.free),λx c e=>(by rw[aA (hc x c e)];exact I.freeC x c e),
  λp ij=>(let⟨e,n1,r⟩:=I.pin p ij;⟨e,by rw[aA (hp p ij)];exact n1,r⟩),I.hok.tracked n new,I.len⟩
open PySem PySem.Spec PyProof.Rows PySem.Calls PySem.W
theorem Bg:entryFor table "BaseException.__getattribute__"=some Builtin.«object.__getattribute__» :=
 entryFor_alias (id':="object.__getattribute__") (by kernel_rfl) (by first|rfl|decide +kernel) z04 (by kernel_rfl)
section
variable{K:Frag}
theorem Dq(hc:(clsIn K C).isSome=true)(ha:findIn K (.ref C) name=some (some a))(hg:specialIn K a "__get__"=some (some g))(ht:takesIn K a=some true):findObj K C none name=some (.bind g a):=by
 obtain⟨cd,hc⟩:=Zas.mp hc;unfold findObj;rw[hc,Option.bind_some,ha,Option.bind_some];simp[hg,ht]
theorem JV(X:K.In s.heap)(I:InstAt s.heap x ox C none)(hf:findObj K C none "__class__"=some (.bind (.builtin "getset_descriptor.__get__") (.builtin "object.__class__")))(hm:mroIn K C (.type "object")=some true)
  (h:Q (.done (.ret (.ref C))) s):wpAny (model prog w) A (Builtin.«object.__getattribute__» ⟨[.ref x,.str "__class__" tk],[]⟩) Q E s:=by
 obtain⟨hh,g,d,t,os⟩:=s;have L0:=I.type (M:=model prog w);have L1:=looks_find (M:=model prog w) X I hf;unfold Builtin.«object.__getattribute__»
 repeat lk
 refine wpAny_run (class_get X I hm ?_)
 repeat lk
 exact h
theorem exc_slot:Slot "BaseException" "__getattribute__" "BaseException.__getattribute__":=
 .of (owner:="BaseException") (n:="__getattribute__") (by rw[typeLookup_type,builtinLookup_eq_fast];kernel_rfl) z04 z04 z04
  (by first|exact .inl z04|exact .inr z04) (by rw[isSubtype_type];kernel_rfl)
theorem Ds:builtinKind "BaseException.__getattribute__"=some .slot:=by decide +kernel
theorem Bh:splitId "BaseException.__getattribute__"=some ("BaseException","__getattribute__"):=by decide +kernel
theorem GZ:∃sig,Manifest.signature? "BaseException.__getattribute__"=sig/\∀a b:Value,(match sig with|none=>(pure ():Sem Unit)|some g=>Bind.checkArgs "BaseException.__getattribute__" g ⟨[a,b],[]⟩)=pure ():=⟨_,rfl,λa b=>by kernel_rfl⟩
theorem Bj(L:Looks (model prog w) s.heap (isInstance (.ref x) (.type "BaseException")) true)(h:Q () s):wpAny (model prog w) A (checkBuiltinCall "BaseException.__getattribute__" ⟨[.ref x,b],[]⟩) Q E s:=by
 simp only[checkBuiltinCall,Ds,Bh];refine zAt (L.at ?_);simp only[Bool.not_true,Bool.false_eq_true,if_false];obtain⟨sig,e,r⟩:=GZ;have r:=r (.ref x) b;rw[e]
 cases sig with
 |none=>exact zAx h
 |some g=>
  show wpAny _ _ (Bind.checkArgs "BaseException.__getattribute__" g ⟨[.ref x,b],[]⟩) Q E s;have r:Bind.checkArgs "BaseException.__getattribute__" g ⟨[.ref x,b],[]⟩=pure ():=r;rw[r];exact zAx h
theorem Bk(X:K.In s.heap)(I:InstAt s.heap x ox C none)(Si:findIn K (.ref C) "__getattribute__"=some (some (.builtin "BaseException.__getattribute__")))(Sj:findIn K (.ref C) "__getattr__"=some none)
  (hf:findObj K C none "__class__"=some (.bind (.builtin "getset_descriptor.__get__") (.builtin "object.__class__"))) (hm:mroIn K C (.type "object")=some true) (hb:mroIn K C (.type "BaseException")=some true) (h:Q (some (.ref C)) {s with toks:=s.toks+1}):
  wpAny (model prog w) A (getAttr? (.ref x) "__class__") Q E s:=by
 obtain⟨hh,g,d,t,os⟩:=s;have L0:=I.type (M:=model prog w);have L1:=looks_findIn (M:=model prog w) X Si;have L2:=looks_findIn (M:=model prog w) X Sj;have L3:=looks_mroIn (M:=model prog w) X hb;unfold getAttr? getAttrBy? getAttrBy;refine zAt (wpAny_mkText (zAt (wpAny_attempt (wpAny_holding (zAt (L0.at (zAt (L1.at ?_))))))));show wpAny _ _ (getAttrByItsOwn _ _ _ _ _ _) _ _ _;unfold getAttrByItsOwn hookBefore;refine zAt ?_;rw[zAz (show onTheHeap (.ref C)=true from rfl)];refine L2.at ?_;refine zAt (wpAny_attempt (wpAny_holding ?_));show wpAny _ _ (boundAndCalled (.builtin "BaseException.__getattribute__") (.ref x) (.str "__class__" t)) _ _ _;unfold boundAndCalled;refine zAt (wpAny_of_eq (exc_slot.bind _) ?_);refine wpAny_call (codeAny_call_builtin exc_slot.plain Bg (Bj (s:=⟨hh,g,d,t+1,os⟩) (L0.andThen L3) ?_));refine JV (s:=⟨hh,g,d,t+1,os⟩) X I hf hm ?_;show wpAny _ _ (handedOut (.ref C)) _ _ _
 repeat lk
 exact h
end
structure ExcC(K:Frag)(C:Addr):Prop where
 cl:(clsIn K C).isSome=true
 ga:findIn K (.ref C) "__getattribute__"=some (some (.builtin "BaseException.__getattribute__"))
 gb:findIn K (.ref C) "__getattr__"=some none
 fc:findIn K (.ref C) "__class__"=some (some (.builtin "object.__class__"))
 sg:specialIn K (.builtin "object.__class__") "__get__"=some (some (.builtin "getset_descriptor.__get__"))
 tk:takesIn K (.builtin "object.__class__")=some true
 ob:mroIn K C (.type "object")=some true
 be:mroIn K C (.type "BaseException")=some true
theorem excAt.inst(x:excAt a C h):∃ox,InstAt h a ox C none:=by
 obtain⟨o,vs,e,c,d,dd⟩:=x;refine⟨o,e,c,?_,by rw[dd];trivial⟩;unfold notCls;rw[d]
theorem vU{K:Frag}(Z:ExcC K C):KitX K (.ref a) (.ref C) (excAt a C) where
 ty:=λM h _ p=>(let⟨_,I⟩:=p.inst;I.type)
 it:=λM h X _=>by
  have z:=Z.cl;unfold clsIn at z;split at z
  .rename_i c' d' cd' E2 ho
   intro A' Q' E' s' k q;unfold isType loadHead;exact zAt (wpAny_loadPart (k _ _ (X _ _ ho)) (zAx q))
  .cases z
 ne:=λh tp dd its n sl X e=>by
  refine Bool.eq_false_iff.mpr λq=>?_
  have q:C=tp:=by
   have:=beq_iff_eq.mp q;injection this
  subst q;have z:=Z.cl;unfold clsIn at z;split at z
  .rename_i c' d' cd' E2 ho
   have:=X _ _ ho;rw[e]at this;cases this
  .cases z
 ca:=λ{prog w A E Q s} X p h=>by
  obtain⟨ox,I⟩:=p.inst;exact Bk X I Z.ga Z.gb (Dq Z.cl Z.fc Z.sg Z.tk) Z.ob Z.be h
theorem lW:dH X (.builtin "isinstance") (λxs H Q=>∃a C c b,xs=[.ref a,c]/\H a=some (.ext (excAt a C))/\ExcC X.K C/\((∃D,c=.ref D/\kitOne X.K (.ref C) (.ref D)=some b)\/∃n,c=.ty n/\kitOne X.K (.ref C) (.type n)=some b)/\Q (.bl b) H):=by
 intro z06 s σ H xs us Q I r h;obtain⟨a,C,c,b,rfl,e,Z,hk,q⟩:=h;obtain⟨u,v,rfl,ru,rv⟩:=vals2 r;cases(show u=Value.ref a from ru)
 obtain⟨p,_⟩:=(show ObjOk X.prog X.w H s.heap a (.ext (excAt a C))from I.hok a _ e)
 rcases hk with⟨D,rfl,hk⟩|⟨n,rfl,hk⟩
 .cases(show v=Value.ref D from rv)
  exact kia_one (vU Z) I.kIn p hk (λz=>nomatch z) λtk=>⟨.bl b,H,I.tok _,rfl,q⟩
 .cases(show v=Value.type n from rv)
  exact kia_one (vU Z) I.kIn p hk (λz=>nomatch z) λtk=>⟨.bl b,H,I.tok _,rfl,q⟩
section
variable{K:Frag}{s:Shared}
structure CatchC(K:Frag)(C D:Addr):Prop where
 nt:typeIn K (.ref D)=some (.type "type")
 ty:(clsIn K D).isSome=true
 be:subIn K (.ref D) (.type "BaseException")=some true
 su:subIn K (.ref C) (.ref D)=some true
theorem Bl(X:K.In s.heap)(h:(clsIn K D).isSome=true):Looks (model prog w) s.heap (isType (.ref D)) true:=by
 unfold clsIn at h;split at h
 .rename_i c' d' cd' E2 ho
  intro A' Q' E' s' k q;exact zAt (wpAny_loadPart (k _ _ (X _ _ ho)) (zAx q))
 .cases h
theorem vV(X:K.In s.heap)(I:InstAt s.heap a ox C none)(Z:CatchC K C D)(h:Q true s):wpAny (model prog w) A (excMatches (.ref a) (.ref D)) Q E s:=by
 have L0:=I.type (M:=model prog w);have L1:=looks_typeIn (M:=model prog w) X Z.nt;have L2:=Bl (prog:=prog) (w:=w) X Z.ty;have L3:=looks_subIn (M:=model prog w) X Z.be;have L4:=looks_subIn (M:=model prog w) X Z.su;have f:=tc_notTuple
 repeat (first|with_reducible refine L1.at ?_|with_reducible refine L0.at ?_|with_reducible refine L2.at ?_|with_reducible refine L3.at ?_|with_reducible refine L4.at ?_|wp_step)
 exact h
end
theorem Bm(fl:Fly s.heap a C tb)
  (h:∀h',Fly h' a C tb->(∀b o,s.heap.get? b=some o->tb≠.ref b->h'.get? b=some o)->(∀b o,s.heap.get? b=some o->∃o',h'.get? b=some o')->Q () {s with heap:=h'}):wpAny M A (setFlight (.ref a) none) Q E s:=by
 obtain⟨⟨oe,vs,he,hc,hd,h1,sN⟩,tr⟩:=id fl;refine zAt (wpAny_field he hd h1 ?_);rcases tr with rfl|⟨T,oT,ts,rfl,nT,hT,pj,h3⟩
 .rw[zAy z02];exact zAx (h s.heap fl (λb o e _=>e) λb o e=>⟨o,e⟩)
 .rw[zAz (show(Value.ref T != Value.none)=true by simp)];have z3:=(Array.getElem?_eq_some_iff.mp h3).1;refine wpAny_setField hT pj z3 ?_;have g3:=Heap.get?_update_self (Obj.mapFields (·.setIfInBounds 3 ((none:Option Addr).elim Value.none λf=>rawInt f))) hT (Obj.isFreed_of_fields (Obj.data_mapFields pj _));have o3:∀b,b≠T->(s.heap.update T (Obj.mapFields (·.setIfInBounds 3 ((none:Option Addr).elim Value.none λf=>rawInt f)))).get? b=s.heap.get? b:=λb hb=>Heap.get?_update_other _ _ (Ne.symm hb);refine h _ ⟨⟨oe,vs,(o3 a (Ne.symm nT)).trans he,hc,hd,h1,sN⟩,.inr ⟨T,_,_,rfl,nT,g3,Obj.data_mapFields pj _,by simp[z3]⟩⟩ (λb o e hb=>(o3 b λz=>hb (by rw[z])).trans e) λb o e=>?_;by_cases z:b=T
  .rw[z];exact⟨_,g3⟩
  .exact⟨o,(o3 b z).trans e⟩
abbrev Cx.tr(X:Cx)(z06:List (Addr×Obj))(xe:Value->Shared->Prop):Cx:={X with pn:=X.pn++z06,xe:=xe}
theorem Inv.tr{σ:St}(I:Inv X z06 σ H s)(xe:Value->Shared->Prop):Inv (X.tr z06 xe) [] σ H s:=
 ⟨⟨I.ok.mod,I.ok.kind,I.ok.glob,I.ok.blt,I.ok.above,I.ok.inj,I.ok.has,I.ok.cab,I.ok.hd,I.ok.frames,I.ok.stk,I.ok.exf,I.ok.bs,I.ok.bsz,I.ok.noex,I.ok.exfs,I.ok.funs,I.ok.frf⟩,I.os,I.bare,I.base,I.loc,I.cell,I.free,I.freeC,λp hp=>I.pin p (by simpa using hp),I.hok,I.len⟩
theorem Inv.untr{σ:St}(I:Inv (X.tr z06 xe) f7 σ H s):Inv X z06 σ H s:=
 ⟨⟨I.ok.mod,I.ok.kind,I.ok.glob,I.ok.blt,I.ok.above,I.ok.inj,I.ok.has,I.ok.cab,I.ok.hd,I.ok.frames,I.ok.stk,I.ok.exf,I.ok.bs,I.ok.bsz,I.ok.noex,I.ok.exfs,I.ok.funs,I.ok.frf⟩,I.os,I.bare,I.base,I.loc,I.cell,I.free,I.freeC,λp hp=>I.pin p (Zat _ hp),I.hok,I.len⟩
theorem Inv.drop{σ:St}(I:Inv X z06 σ H s)(hN:X.N.Nodup)(hi:X.N[i]?=some x)
  (hl:∀(i:Nat) x v,X.N[i]?=some x->σ[i]?=some (some v)->Vis X.env.scope x->∃u,RelV v u/\Look X.env s.heap m x u) (hn:h'.Ns X.env.locals λy=>if y=x then u else m y) (sb:Heap.SameBut X.env.locals s.heap h'):Inv X z06 (σ.set i none) H {s with heap:=h'}:=by
 have nL:∀b o,X.s₀.heap.get? b=some o->b≠X.env.locals:=λb o e=>zB5 (zB4 (zB0 e) I.ok.above)
 have cK:∀y c,X.env.cells.lookup y=some c->∀v,s.heap.IsCell c v->h'.IsCell c v:=λy c e v=>by rintro⟨o,ho,hd⟩;exact⟨o,(sb.2 c (I.cne y c e)).trans ho,hd⟩
 refine⟨I.ok,I.os,I.bare,⟨λb o e n hb hx=>(sb.2 b (nL b o e)).trans (I.base.keep b o e n hb hx),λb o e n hb hx=>?_,I.base.free,λb o e hx=>?_,I.base.tups,I.base.frzs,I.base.tbls⟩,⟨_,hn,λj y v e1 e2 e3=>?_⟩,λy c e=>?_,I.free,I.freeC,λp hp=>?_,λc o e=>?_,by rw[Zao];exact I.len⟩
 .obtain⟨sl,e1⟩:=I.base.slot b o e n hb hx;exact⟨sl,(sb.2 b (nL b o e)).trans e1⟩
 .obtain⟨o',e1⟩:=I.base.there b o e hx;exact⟨o',(sb.2 b (nL b o e)).trans e1⟩
 .by_cases z:i=j
  .subst z;by_cases ay:i<σ.length
   .rw[Zaw ay]at e2;cases e2
   .rw[Zay (by rw[Zao];lia)]at e2;cases e2
  .rw[List.getElem?_set_ne z]at e2;obtain⟨u',r,l⟩:=hl j y v e1 e2 e3;refine⟨u',r,?_⟩;rcases l with⟨k,l⟩|⟨k,c,e,w'⟩
   .refine .inl ⟨k,?_⟩;show(if y=x then u else m y)=some u';rw[zAy λq=>z ?_]
    .exact l
    .rw[q]at e1;obtain⟨h1,g1⟩:=zAa.mp hi;obtain⟨h2,g2⟩:=zAa.mp e1;exact(List.getElem_inj hN).mp (g1.trans g2.symm)
   .exact .inr ⟨k,c,e,cK y c e _ w'⟩
 .obtain⟨v,w'⟩:=I.cell y c e;exact⟨v,cK y c e v w'⟩
 .obtain⟨e,n,ne,r⟩:=I.pin p hp;exact⟨(sb.2 p.1 ne).trans e,n,ne,r⟩
 .refine(I.hok c o e).stay (λd v hd z=>(sb.2 d λq=>?_).trans z) (λ_ z=>z) λ_ _ z=>z;rcases hd with y|y
  .rw[y]at q;rw[q,I.free]at e;cases e
  .rw[q,I.free]at y;cases y
theorem jL{σ:St}(I:Inv X z06 σ H s)(hN:X.N.Nodup)(hi:X.N[i]?=some x)(hx:X.env.scope.names.lookup x=some .local)
  (h:∀s',Inv X z06 (σ.set i none) H s'->Q () s'):wpAny (model X.prog X.w) A (do bindName X.env x .none;unbindBehindTheSuite X.env x pos) Q E s:=by
 have Sk:i<X.N.length:=(zAa.mp hi).1;refine zAt (wpAny_bindName (jC (v:=.non) I hN hi (.inl hx) rfl (λs1 I1 _=>?_) (.inr hx)));obtain⟨m,hn,hl⟩:=id I1.loc;obtain⟨u,_,lk⟩:=hl i x .non hi (by rw[Zaw (by rw[I.len];exact Sk)]) (.inl hx)
 have hv:m x=some u:=by
  rcases lk with⟨_,z⟩|⟨k,_⟩
  .exact z
  .have cS:X.env.kindOf x=some .local:=hx;rw[cS]at k;rcases k with k|k<;>cases k
 refine wpAny_onRaise (wpAny_unbindName_local hx hn hv (by rw[I.ok.kind];rfl) λh' u' HG sb=>?_);have J:=I1.drop hN hi hl HG sb;rw[List.set_set]at J;exact h _ J
theorem Inv.back{σ:St}(I:Inv ((X.un A).wish xe) z06 σ H s)(ok:X.Ok):Inv X z06 σ H s:=
 ⟨ok,I.os,I.bare,I.base,I.loc,I.cell,I.free,I.freeC,I.pin,I.hok,I.len⟩
def Dt(D:Ends)(i:Nat):Ends:={nx:=λσ H=>D.nx (σ.set i none) H,rt:=D.rt,ct:=λσ H=>D.ct (σ.set i none) H,bk:=λσ H=>D.bk (σ.set i none) H}
def Nz(n i:Nat)(ok:Addr->Prop)(tb:(Addr->Addr->Hp->Prop)->TS)(th:TS):TS:=λD σ H=>
 tb (λa C H'=>ok C/\∀ah:St,ah.length=n->H' a=none->th (Dt D i) (ah.set i (some (.ref a))) (upd H' a (.ext (excAt a C)))) D σ H
theorem JW(hm:X.mg y=some (.ref Dc))(hg:Gl X y)(hN:X.N.Nodup)(hi:X.N[i]?=some n)(hl:X.env.scope.names.lookup n=some .local)(hx:X.ex=[])(hs:X.stack=X.env::X.outer)
  (ar:∀z06 xe EX,vQ (X.tr z06 xe) EX->PSs (X.tr z06 xe) body (tb EX)) (wo:∀v,PSs ((X.un (X.A.mark v)).nox) (qV::iP) th) (eC:(y==("__debug__":Str))=false:=by decide):
  PS X (.Try body [.ExceptHandler (some (.Name y np)) (some n) (qV::iP) aE] [] [] pos) (Nz X.N.length i (λC=>CatchC X.K C Dc) tb th):=by
 intro z06 s σ H D I h;refine wpAny_Try_except ?_
 have W:vQ (X.tr z06 λe s₁=>wpAny (model X.prog X.w) X.A (noteFrame e X.env) (λ_ s₂=>wpAny (model X.prog X.w) X.A (setFlight e none) (λ_ s₃=>wpAny (model X.prog X.w) X.A (handleBy e X.env [.ExceptHandler (some (.Name y np)) (some n) (qV::iP) aE]) (SP X z06 D) X.xe s₃) X.xe s₂) X.xe s₁)
   (λa C H'=>CatchC X.K C Dc/\∀ah:St,ah.length=X.N.length->H' a=none->th (Dt D i) (ah.set i (some (.ref a))) (upd H' a (.ext (excAt a C)))):=by
  intro f7 uk H1 s1 a C Sl I1 fl na fa ft hp q;obtain⟨Z,q⟩:=q;have J:=I1.untr;have kS:X.A.frames=some (X.env::X.outer):=by rw[<-hs];exact J.ok.frames
  have bE:s1.heap.FunFrames X.base (X.env::X.outer):=by rw[<-hs];exact J.stack
  have wm:X.env.frame=some X.env.locals:=by
   rcases J.ok.stk with z|z
   .exact absurd (congrArg List.length (hs.symm.trans z)) z01
   .exact z.2
  have mm:∀p∈X.pn++z06,p.1≠a/\Sl≠.ref p.1:=λp ij=>hp p (Zat _ ij);show wpAny (model X.prog X.w) X.A (noteFrame (.ref a) X.env) _ X.xe s1;refine yV kS bE wm fl λh' T nT hZ k1 k2 k3=>?_;have J2:Inv X z06 uk H1 {s1 with heap:=h'}:=J.left (t':=s1.toks) hx fl na fa ft mm (by rw[hs];exact k1) k2 k3
  have tf:∀T',Value.ref T=.ref T'->X.s₀.heap.get? T'=none/\H1 T'=none:=λT' z=>by
   cases z;exact⟨J.was hx nT,J.hok.no nT⟩
  have JY:∀p∈X.pn++z06,p.1≠a/\Value.ref T≠.ref p.1:=λp ij=>⟨(mm p ij).1,λz=>by
   cases z;obtain⟨e,_⟩:=J.pin p ij;rw[nT]at e
   cases e⟩
  obtain⟨oe,vs,he,hc,hd,_,sN⟩:=hZ.obj
  have inst:excAt a C h':=⟨oe,vs,he,hc,hd,sN⟩
  refine wpAny_handleBy_cons (codeAny_handlers_test ?_) (by intro q;cases q);have J4:=J2.un' (X.A.mark (some (.ref a))) rfl;refine jD (X:=X.un (X.A.mark (some (.ref a)))) J4 hg hm ?_ eC;obtain⟨ox,ix⟩:=inst.inst;refine vV (s:={s1 with heap:=h'}) J2.kIn ix Z ?_;show codeAny _ _ (.handlers (.ref a) [.ExceptHandler none (some n) (qV::iP) aE] X.env) _ _;refine codeAny_handlers_suite_as ?_;refine Bm (s:={s1 with heap:=h'}) hZ λh2 pz j1 j2=>?_;have J5:Inv X z06 uk H1 {s1 with heap:=h2}:=J2.left (t':=s1.toks) hx hZ na fa tf JY (λb o e _ hb _=>j1 b o e hb) (λb o e _ hb=>⟨o.slots,j1 b o e hb⟩) j2;obtain⟨Sn,iS,Sr,vc,hd2,_,Kb⟩:=pz.obj
  have CF:excAt a C h2:=⟨Sn,iS,Sr,vc,hd2,Kb⟩
  have Ss:a≠X.env.locals:=by
   obtain⟨m,⟨o,es,ep,ho,iO,_⟩,_⟩:=J5.loc;exact Ne.symm (pz.ne ho λvs q=>by rw[iO]at q;cases q).1
  have Su:∀x c,X.env.cells.lookup x=some c->c≠a:=λx c e=>by
   obtain⟨v,o,ho,iO⟩:=J5.cell x c e;exact(pz.ne ho λvs q=>by rw[iO]at q;cases q).1
  have J6:=J5.track (o:=.ext (excAt a C)) hx fa na Ss Su (λp ij=>(mm p ij).1) (excAt.ok CF);refine jC (v:=.ref a) J6 hN hi (.inl hl) rfl (λs6 I6 _=>?_) (.inr hl);have hw:=q uk J.len fa;refine wpAny_mono (wo (some (.ref a)) z06 s6 _ _ (Dt D i) ((I6.un' (X.A.mark (some (.ref a))) rfl).wish _) hw) (λf s7 sp=>?_) λe s' z=>z.elim;show wpAny (model X.prog X.w) X.A (do bindName X.env n .none;unbindBehindTheSuite X.env n aE) (λ_ s₃=>SP X z06 D f s₃) X.xe s7
  cases f with
  |ret u=>
   obtain⟨v,ah,H',K',rv,qq⟩:=sp
   exact jL (K'.back J.ok) hN hi hl λs' K2=>⟨v,_,H',K2,rv,qq⟩
  |next=>
   obtain⟨ah,H',K',qq⟩:=sp
   exact jL (K'.back J.ok) hN hi hl λs' K2=>⟨_,H',K2,qq⟩
  |brk=>
   obtain⟨ah,H',K',qq⟩:=sp
   exact jL (K'.back J.ok) hN hi hl λs' K2=>⟨_,H',K2,qq⟩
  |cont=>
   obtain⟨ah,H',K',qq⟩:=sp
   exact jL (K'.back J.ok) hN hi hl λs' K2=>⟨_,H',K2,qq⟩
 have hb:=ar z06 _ _ W [] s σ H D (I.tr _) h;refine wpAny_mono hb (λf s1 sp=>?_) λe s1 z=>z
 cases f with
 |ret u=>
  obtain⟨v,ah,H',K',rv,qq⟩:=sp;exact⟨v,ah,H',K'.untr,rv,qq⟩
 |next=>
  obtain⟨ah,H',K',qq⟩:=sp;exact wpAny_execs_nil ⟨ah,H',K'.untr,qq⟩
 |brk=>
  obtain⟨ah,H',K',qq⟩:=sp;exact⟨ah,H',K'.untr,qq⟩
 |cont=>
  obtain⟨ah,H',K',qq⟩:=sp;exact⟨ah,H',K'.untr,qq⟩
theorem vW(a b:Bool):MeetsSeq.EqGives (.bool a) (.bool b) (a==b):=λprog w A E s Q h=>PySem.SeqAt.EqAt.bool_bool (A:=A) (s:=s) a b prog w E Q h
def isB(k:Bool):Value->Bool
 |.bool n=>n==k
 |_=>false
theorem vX(bs:List Bool)(k:Bool):((bs.map Value.bool).toArray.toList.countP (isB k))=bs.count k:=by
 rw[List.toList_toArray,List.countP_map];rfl
inductive RCountBI(x:V)(vs:List V)(H:Hp)(Q:VK):Prop
 |mk:∀l (bs:List Bool) k,(x=.ref l)->(vs=[.bl k])->(H l=some (.lst (bs.map V.bl)))->(Q (.int (bs.count k:Nat)) H)->RCountBI  x vs H Q
def uh:V->List V->Hp->VK->Prop:=λx vs H Q=>RCountBI  x vs H Q
section
theorem Bo:MtM X "list.count" uh:=by
 intro z06 s σ H x vs v us Q I rx rv h;obtain⟨l,bs,k,rfl,rfl,hH,q⟩:=h;cases rx;obtain⟨u,rfl,ru⟩:=vals1 rv;cases(show u=Value.bool k from ru);obtain⟨z,its,n,r,hl,e⟩:=I.lstM hH;have ei:its=bs.map Value.bool:=jb r;subst ei;refine call_meets F.slot_list_count ⟨_,e,rfl⟩ F.entry_list_count (F.args_list_count_2 _ _) (MeetsSeq.list_count l (bs.map Value.bool).toArray n (.bool k) (isB k) (λy hy=>?_)) ⟨e,?_⟩
 .obtain⟨b,_,rfl⟩:=zA5.mp (show y∈bs.map Value.bool by simpa using hy);exact vW b k
 .refine⟨.int (bs.count k:Nat),H,I.tok _,⟨s.toks,?_⟩,q⟩;rw[vX]
inductive RIndexBI(x:V)(vs:List V)(H:Hp)(Q:VK):Prop
 |mk:∀l (bs:List Bool) k (j:Nat),(x=.ref l)->(vs=[.bl k])->(H l=some (.lst (bs.map V.bl)))->(bs[j]?=some k)->((∀i,i<j->bs[i]?≠some k))->(Q (.int j) H)->RIndexBI  x vs H Q
def ul:V->List V->Hp->VK->Prop:=λx vs H Q=>RIndexBI  x vs H Q
theorem Bp:MtM X "list.index" ul:=by
 intro z06 s σ H x vs v us Q I rx rv h;obtain⟨l,bs,k,j,rfl,rfl,hH,hj,HV,q⟩:=h;cases rx;obtain⟨u,rfl,ru⟩:=vals1 rv;cases(show u=Value.bool k from ru);obtain⟨z,its,n,r,hl,e⟩:=I.lstM hH;have ei:its=bs.map Value.bool:=jb r;subst ei;rw[zA1]at z;rw[sizeLine_eq]at z;have JI:=(zAa.mp hj).1
 have gt:∀m (hm:m<(bs.map Value.bool).toArray.size),(bs.map Value.bool).toArray[m]=Value.bool (bs[m]'(by simpa using hm)):=λm hm=>by simp
 refine call_meets F.slot_list_index ⟨_,e,rfl⟩ F.entry_list_index (F.args_list_index_2 _ _) (MeetsSeq.list_index l (bs.map Value.bool).toArray n (.bool k) (isB k) (λy hy=>?_) j (by simpa using JI) z00 ?_ λm hm ay=>?_) ⟨e,⟨.int j,H,I.tok _,⟨_,rfl⟩,q⟩⟩
 .obtain⟨b,_,rfl⟩:=zA5.mp (show y∈bs.map Value.bool by simpa using hy);exact vW b k
 .rw[gt,(zAa.mp hj).2];exact beq_self_eq_true k
 .rw[gt];refine beq_false_of_ne λc=>HV m ay ?_;rw[zA0 (by simpa using hm),c]
end
def er(H:Hp)(cs:List (Addr×Obj)):Hp:=λb=>if(cs.lookup b).isSome=true then none else H b
def fz(H:Hp)(cs:List (Addr×Obj)):Hp:=λb=>match cs.lookup b with
 |some o=>some (.frz o (.ext λ_=>True))
 |none=>H b
section
theorem sG(e:cs.lookup b=some o):fz H cs b=some (.frz o (.ext λ_=>True)):=by unfold fz;rw[e]
theorem dR(e:cs.lookup b=none):fz H cs b=H b:=by unfold fz;rw[e]
theorem lZ(e:cs.lookup b=some o):er H cs b=none:=by unfold er;rw[e];rfl
theorem gm(e:cs.lookup b=none):er H cs b=H b:=by unfold er;rw[e];rfl
def Loose(H:Hp)(h:Heap)(fs:List Addr)(cs:List (Addr×Obj)):Prop:=∀b o,cs.lookup b=some o->h.get? b=some o/\H b=none/\b∉fs
theorem Loose.no(L:Loose H h fs cs)(e:H b=some u):cs.lookup b=none:=by
 cases q:cs.lookup b with
 |none=>rfl
 |some o=>
  rw[(L b o q).2.1]at e;cases e
theorem HOk.fz(x:HOk P w H h)(L:Loose H h fs cs):HOk P w (L2.fz H cs) h:=λb u e=>by
 cases q:cs.lookup b with
 |some o=>
  rw[sG q]at e;cases e;have g:=(L b o q).1;exact⟨g,trivial,⟨o,g⟩,λ_ _ _ _=>trivial⟩
 |none=>
  rw[dR q]at e
  exact(x b u e).stay (λ_ _ _ z=>z) (λc z=>by rw[dR (L.no z)];exact z) λc xs z=>by rw[dR (L.no z)];exact z
theorem HOk.er(x:HOk P w H' h')(fr:∀b o,cs.lookup b=some o->H' b=some (.frz o (.ext λ_=>True))):HOk P w (L2.er H' cs) h':=λb u e=>by
 cases q:cs.lookup b with
 |some o=>
  rw[lZ q]at e;cases e
 |none=>
  rw[gm q]at e
  have no:∀c u,(∀o,u≠HO.frz o (.ext λ_=>True))->H' c=some u->cs.lookup c=none:=λc u hu z=>by
   cases q:cs.lookup c with
   |none=>rfl
   |some o=>
    rw[fr c o q]at z;cases z;exact absurd rfl (hu o)
  exact(x b u e).stay (λ_ _ _ z=>z) (λc z=>by rw[gm (no c _ (λo y=>by cases y) z)];exact z) λc xs z=>by rw[gm (no c _ (λo y=>by cases y) z)];exact z
theorem Un.held(u:Un fs [] (fz H cs) H' h h')(ok:HOk P w H' h')(L:Loose H h fs cs):Un fs [] H (er H' cs) h h'/\HOk P w (er H' cs) h'/\∀b o,cs.lookup b=some o->h'.get? b=some o:=by
 have fr:∀b o,cs.lookup b=some o->H' b=some (.frz o (.ext λ_=>True)):=λb o q=>u.frzs b o _ (sG q);have kp:∀b o,cs.lookup b=some o->h'.get? b=some o:=λb o q=>(ok b _ (fr b o q)).1
 have no:∀c v,(∀o,v≠HO.frz o (.ext λ_=>True))->H' c=some v->cs.lookup c=none:=λc v hv z=>by
  cases q:cs.lookup c with
  |none=>rfl
  |some o=>
   rw[fr c o q]at z;cases z;exact absurd rfl (hv o)
 refine⟨⟨λb o e n hb hx=>?_,λb o e n hb hx=>?_,λb o e n hx=>?_,u.there,λb xs e=>?_,λb o v e=>?_,λb ps e=>?_⟩,ok.er fr,kp⟩
 .cases q:cs.lookup b with
  |some o'=>
   have:=(L b o' q).1;rw[e]at this;cases this;exact kp b o q
  |none=>exact u.keep b o e (by rw[dR q];exact n) hb hx
 .cases q:cs.lookup b with
  |some o'=>exact absurd hb (L b o' q).2.2
  |none=>exact u.slot b o e (by rw[dR q];exact n) hb hx
 .cases q:cs.lookup b with
  |some o'=>exact lZ q
  |none=>
   rw[gm q];exact u.free b o e (by rw[dR q];exact n) hx
 .have z:=u.tups b xs (by rw[dR (L.no e)];exact e);rw[gm (no b _ (λo y=>by cases y) z)];exact z
 .have z:=u.frzs b o v (by rw[dR (L.no e)];exact e);rw[gm (L.no e)];exact z
 .obtain⟨m,z⟩:=u.tbls b ps (by rw[dR (L.no e)];exact e);exact⟨m,by rw[gm (L.no e)];exact z⟩
theorem Un.loose(u:Un fs [] (er H cs) H1 h h')(ok:HOk P w H1 h')(CH:HOk P w H h)(fr:∀b o,cs.lookup b=some o->H b=some (.frz o (.ext λ_=>True))/\b∉fs):Un fs [] H (fz H1 cs) h h'/\HOk P w (fz H1 cs) h':=by
 have Ap:∀b o,cs.lookup b=some o->h.get? b=some o:=λb o q=>(CH b _ (fr b o q).1).1;have kp:∀b o,cs.lookup b=some o->h'.get? b=some o:=λb o q=>u.keep b o (Ap b o q) (lZ q) (fr b o q).2 z01;have nn:∀b o,cs.lookup b=some o->H1 b=none:=λb o q=>u.free b o (Ap b o q) (lZ q) z01
 have no:∀c v,(∀o,v≠HO.frz o (.ext λ_=>True))->H c=some v->cs.lookup c=none:=λc v hv z=>by
  cases q:cs.lookup c with
  |none=>rfl
  |some o=>
   rw[(fr c o q).1]at z;cases z;exact absurd rfl (hv o)
 refine⟨⟨λb o e n hb hx=>?_,λb o e n hb hx=>?_,λb o e n hx=>?_,u.there,λb xs e=>?_,λb o v e=>?_,λb ps e=>?_⟩,ok.fz (fs:=fs) λb o q=>⟨kp b o q,nn b o q,(fr b o q).2⟩⟩
 .cases q:cs.lookup b with
  |some o'=>
   rw[(fr b o' q).1]at n;cases n
  |none=>exact u.keep b o e (by rw[gm q];exact n) hb hx
 .cases q:cs.lookup b with
  |some o'=>exact absurd hb (fr b o' q).2
  |none=>exact u.slot b o e (by rw[gm q];exact n) hb hx
 .cases q:cs.lookup b with
  |some o'=>
   rw[(fr b o' q).1]at n;cases n
  |none=>
   rw[dR q];exact u.free b o e (by rw[gm q];exact n) hx
 .have q:=no b _ (λo y=>by cases y) e;rw[dR q];exact u.tups b xs (by rw[gm q];exact e)
 .cases q:cs.lookup b with
  |some o'=>
   have z:=(fr b o' q).1;rw[e]at z;cases z;exact sG q
  |none=>
   rw[dR q];exact u.frzs b o v (by rw[gm q];exact e)
 .have q:=no b _ (λo y=>by cases y) e;obtain⟨m,z⟩:=u.tbls b ps (by rw[gm q];exact e);exact⟨m,by rw[dR q];exact z⟩
end
def qY(fd:FuncData)(fl L:Addr):Env:=newEnv fd.scope L fd.globals fd.closure (fd.qualname++".<locals>.") (some fl) fd.code none fd.builtins
def cxL(P:Program)(w:World)(K:Frag)(mg:Str->Option Value)(base:Heap)(N:List Str)(fd:FuncData)(fl:Addr)(A:Around)(outer:List Env)(s:Shared)(H:Hp)(E:XK):Cx where
 prog:=P
 w:=w
 K:=K
 mg:=mg
 base:=base
 A:=A.deeper (qY fd fl s.heap.objs.size)
 N:=N
 s₀:=s
 H₀:=H
 env:=qY fd fl s.heap.objs.size
 outer:=outer
 stack:=qY fd fl s.heap.objs.size::outer
 ex:=[]
 calm:=true
 fn:=λ_=>false
 pn:=[]
 xe:=λe s'=>wpAny (model P w) (A.deeper (qY fd fl s.heap.objs.size)) (leaving (qY fd fl s.heap.objs.size) e) (λ_ kK=>CX1 P w outer H s E e kK) (λe' kK=>CX1 P w outer H s E e' kK) s'
structure LamAt(fd:FuncData)(body:Expr)(N:List Str):Prop where
 bd:fd.body=.expr body
 gl:fd.globals=mainGlobals
 bl:fd.builtins=builtinsNs
 kd:fd.scope.kind=.function
 co:fd.scope.isCoroutine=false
 ge:fd.scope.isGenerator=false
 fr:∀p∈fd.scope.names,p.2≠.cell
 fl:∀x,fd.scope.names.lookup x=some .free->∃c,fd.closure.lookup x=some c
 nd:∀x y c,fd.closure.lookup x=some c->fd.closure.lookup y=some c->x=y
 ba:bindArgs fd ⟨[],[]⟩=pure []
 nm:∀x∈N,fd.scope.names.lookup x=some .free
theorem Hf{K:Frag}{E:XK}{body:Expr}{vs:List V}{h1:Heap}{tk:Nat}
  (Z:LamAt fd body N) (hd:A.handled=none) (e0:Env0 P w K mg base A outer s H) (hn:h1.Ns s.heap.objs.size λx=>([]:List (Str×Value)).reverse.lookup x) (hk:∀b o,s.heap.get? b=some o->h1.get? b=some o)
  (cell:∀x c,fd.closure.lookup x=some c->H c=none/\∃v,s.heap.IsCell c v) (val:∀(i:Nat) x v,N[i]?=some x->vs[i]?=some v->∃c u,fd.closure.lookup x=some c/\RelV v u/\s.heap.IsCell c (some u)) (hl:vs.length=N.length):
  Inv (cxL P w K mg base N fd fl A outer s H E) [] (vs.map some) H {s with heap:=h1,toks:=tk}:=by
 have ck:∀c v,s.heap.IsCell c v->h1.IsCell c v:=λc v=>by rintro⟨o,ho,z⟩;exact⟨o,hk c o ho,z⟩
 refine⟨⟨e0.mod,Z.kd,Z.gl,Z.bl,zA3 _,Z.nd,λx hx=>?_,λx c z=>(by cases z),λ_=>hd,Around.frames_deeper e0.frames,.inr ⟨rfl,rfl⟩,λb z=>absurd (show b∈([]:List Addr)from z) z01,e0.bs,e0.bsz,λb _ _ z=>absurd (show b∈([]:List Addr)from z) z01,λb z=>absurd (show b∈([]:List Addr)from z) z01,e0.funs,e0.frf⟩,
  rfl,e0.bare,Un.kept hk,⟨_,hn,λi x v e1 e2 e3=>?_⟩,λx c e=>?_,e0.hok.fresh (zA3 _),λx c e=>(cell x c e).1,λp hp=>absurd (show p∈([]:List (Addr×Obj))from hp) z01,e0.hok.kept hk,by rw[zA1];exact hl⟩
 .rcases hx with hx|hx
  .exact absurd rfl (Z.fr _ (PySem.mem_of_lookup (hx)))
  .exact Z.fl x hx
 .rw[zAb]at e2
  cases q:vs[i]? with
  |none=>rw[q]at e2;cases e2
  |some v'=>
   rw[q]at e2;have e2:v'=v:=by simpa using e2
   subst e2;obtain⟨c,u,ec,r,z⟩:=val i x v' e1 q;exact⟨u,r,.inr ⟨.inr (Z.nm x (zB6 e1)),c,ec,ck c _ z⟩⟩
 .obtain⟨_,v,z⟩:=cell x c e;exact⟨v,ck c v z⟩
theorem mj{K:Frag} :
  vQ (cxL P w K mg base N fd fl A outer s H E) λa C H'=>E (.ref a) (some C) H':=by
 intro z06 σ H' s' a C tb I Ki na fa ft _ q;have bE:s'.heap.FunFrames base (qY fd fl s.heap.objs.size::outer):=I.stack;have kS:(A.deeper (qY fd fl s.heap.objs.size)).frames=some (qY fd fl s.heap.objs.size::outer):=I.ok.frames;have wm:(qY fd fl s.heap.objs.size).frame=some s.heap.objs.size:=rfl;have ub:Un (frs outer) [] H H' s.heap s'.heap:=I.base;have na:s.heap.get? a=none:=na;have ft:∀T,tb=.ref T->s.heap.get? T=none/\H' T=none:=ft;refine vP kS bE wm Ki λh' T nT hZ k1 k2 k3=>?_
 have apart:∀b o,s.heap.get? b=some o->b≠a/\tb≠.ref b:=λb o e=>⟨λz=>(by rw[z,na]at e;cases e),λz=>(by rw[(ft b z).1]at e;cases e)⟩
 have JU:∀b o,s.heap.get? b=some o->b∉frs outer->b∉frs (qY fd fl s.heap.objs.size::outer):=λb o e hn hm=>by
  unfold frs at hm;rw[Zaj,wm]at hm;rcases zAo.mp hm with z|z
  .exact absurd (zB0 e) (by rw[z];exact Zak _)
  .exact hn z
 refine⟨a,C,H',T,rfl,I.os,I.bare,⟨λb o e n hb _=>?_,λb o e n hb _=>?_,ub.free,λb o e hx=>?_,ub.tups,ub.frzs,ub.tbls⟩,λc o e=>?_,na,?_,fa,I.hok.no nT,hZ,q⟩
 .exact k1 b o (ub.keep b o e n hb z01) (apart b o e).1 (apart b o e).2 (JU b o e hb)
 .obtain⟨sl,e1⟩:=ub.slot b o e n hb z01;obtain⟨kr,e2⟩:=k2 b _ e1 (apart b o e).1 (apart b o e).2;exact⟨kr,e2⟩
 .obtain⟨o',e1⟩:=ub.there b o e hx;exact k3 b o' e1
 .refine(I.hok c o e).stay (λd v hd z=>?_) (λ_ z=>z) λ_ _ z=>z;have CB:∃o',H' d=some o':=by grind
  obtain⟨o',eo⟩:=CB;refine k1 d v z (λy=>(by rw[y,fa]at eo;cases eo)) (λy=>(by rw[(ft d y).2]at eo;cases eo)) λhm=>?_;rw[I.stkFree d hm]at eo;cases eo
 .exact I.was rfl nT
abbrev NoC(cs:List (Addr×Obj))(H:Hp):Prop:=∀b o,cs.lookup b=some o->H b=none
theorem CX1.loose(CH:HOk P w H s.heap)(fr:∀b o,cs.lookup b=some o->H b=some (.frz o (.ext λ_=>True))/\b∉frs outer)
  (x:CX1 P w outer (er H cs) s (λe C H1=>NoC cs H1->E e C (fz H1 cs)) e s'):CX1 P w outer H s E e s':=by
 obtain⟨a,C,H1,T,rfl,os,bare,un,ok,na,nT,fa,fT,Ki,q⟩:=x;obtain⟨u,k⟩:=un.loose ok CH fr
 have no:∀b,s.heap.get? b=none->cs.lookup b=none:=λb z=>by
  cases y:cs.lookup b with
  |none=>rfl
  |some o=>
   have:=(CH b _ (fr b o y).1).1;rw[z]at this;cases this
 exact⟨a,C,_,T,rfl,os,bare,u,k,na,nT,by rw[dR (no a na)];exact fa,by rw[dR (no T nT)];exact fT,Ki,q λb o z=>un.free b o (CH b _ (fr b o z).1).1 (lZ z) z01⟩
theorem Hg{K:Frag}{body:Expr}{vs:List V}{cs:List (Addr×Obj)}{te:TE}{k:Nat}
  (Z:LamAt fd body N) (hr:Room k A) (e0:Env0 P w K mg base A outer s H) (CI:s.heap.get? fl=some ob) (iO:ob.data=.func fd) (eB:s.heap.CodeRec fd.code fd.qualname)
  (fr:∀b o,cs.lookup b=some o->H b=some (.frz o (.ext λ_=>True))/\b∉frs outer) (cell:∀x c,fd.closure.lookup x=some c->∃o v,cs.lookup c=some o/\o.data=.cell v)
  (val:∀(i:Nat) x v,N[i]?=some x->vs[i]?=some v->∃c u o,fd.closure.lookup x=some c/\RelV v u/\cs.lookup c=some o/\o.data=.cell (some u)) (hl:vs.length=N.length)
  (kD:PE (cxL P w K mg base N fd fl A outer s (er H cs) (λe C H1=>NoC cs H1->E e C (fz H1 cs))) body te) (h:te (vs.map some) (er H cs) λv H1=>NoC cs H1->Q v (fz H1 cs)):
  codeAny (model P w) A (.call (.ref fl) ⟨[],[]⟩) (CR (CX1 P w) outer P w H s Q E) s:=by
 have Ap:∀b o,cs.lookup b=some o->s.heap.get? b=some o:=λb o q=>(e0.hok b _ (fr b o q).1).1
 have Oo:∀b,H b=none->er H cs b=none:=λb z=>by
  cases q:cs.lookup b with
  |some o=>exact lZ q
  |none=>rw[gm q];exact z
 have e1:Env0 P w K mg base A outer s (er H cs):=⟨e0.frames,e0.mod,λb o e=>⟨(e0.bs b o e).1,Oo b (e0.bs b o e).2⟩,e0.bsz,e0.funs,λb hb=>Oo b (e0.frf b hb),e0.hok.er λb o q=>(fr b o q).1,e0.bare⟩
 refine kla_callFunE (by have:=hr.dp;lia) CI iO Z.co Z.ge Z.bd eB ?_;rw[Z.ba];refine zAx (wpAny_newFunctionEnv Z.fr (λx hx=>absurd hx z01) (λh1 hn sb=>?_) Z.kd);have hk:∀b o,s.heap.get? b=some o->h1.get? b=some o:=λb o e=>(sb.2 b (zB5 (zB0 e))).trans (zAv _ e);refine⟨(e0.mod.nolimit.keeps λb o e=>(e0.bs b o e).1).keeps hk,?_⟩;have I:=Hf (fl:=fl) (E:=λe C H1=>NoC cs H1->E e C (fz H1 cs)) (tk:=s.toks+0) Z hr.hd e1 hn hk (λx c e=>(let⟨o,v,q,d⟩:=cell x c e;⟨lZ q,v,o,Ap c o q,d⟩)) (λi x v e1 e2=>(let⟨c,u,o,a1,a2,a3,a4⟩:=val i x v e1 e2;⟨c,u,a1,a2,o,Ap c o a3,a4⟩)) hl;refine kla_codeExpr (wpAny_mono (kD [] _ _ _ _ I h) (λu s' hv=>?_) λe s' hx=>?_)
 .obtain⟨v,H1,J,r,q⟩:=hv;obtain⟨un,k⟩:=Un.loose (fs:=frs outer) J.base J.hok e0.hok fr;exact⟨v,fz H1 cs,J.os,J.bare,un,k,r,q λb o z=>Un.free (fs:=frs outer) (ex:=[]) J.base b o (Ap b o z) (lZ z) z01⟩
 .exact wpAny_mono hx (λ_ kK z=>CX1.loose e0.hok fr z) λe' kK z=>CX1.loose e0.hok fr z
abbrev held(o:Obj):HO:=.frz o (.ext λ_=>True)
structure LamObj(H:Hp)(fl:Addr)(fd:FuncData):Prop where
 ob:∃o,H fl=some (held o)/\o.data=.func fd
 cd:∃c oc vs t,fd.code=.ref c/\H c=some (held oc)/\oc.data=.fields vs/\vs[1]?=some (.str fd.qualname t)
def JX(X:Cx)(i:Nat)(E:XK):TE:=λσ H Q=>∃(fl:Addr) (fd:FuncData) (body:Expr) (N:List Str) (vs:List V) (cs:List (Addr×Obj)) (te:TE),σ[i]?=some (some (.ref fl))/\LamObj H fl fd/\LamAt fd body N/\(∀b o,cs.lookup b=some o->H b=some (held o))/\(∀x c,fd.closure.lookup x=some c->∃o v,cs.lookup c=some o/\o.data=.cell v) /\
 (∀(i:Nat) (x:Str) (v:V),N[i]?=some x->vs[i]?=some v->∃c u o,fd.closure.lookup x=some c/\RelV v u/\cs.lookup c=some o/\o.data=.cell (some u))/\vs.length=N.length /\
 (∀s,PE (cxL X.prog X.w X.K X.mg X.base N fd fl X.A X.stack s (er H cs) (λe C H1=>NoC cs H1->E e C (fz H1 cs))) body te)/\te (vs.map some) (er H cs) λv H1=>NoC cs H1->Q v (fz H1 cs)
theorem JZ{p pos:Pos}(hr:Room k X.A)(hN:X.N[i]?=some x)(hv:Vis X.env.scope x)(W:vQ X λa C H=>E (.ref a) (some C) H)(hx:X.ex=[])(hd:(x==("__debug__":Str))=false:=by decide)(eB:(x==("__classdict__":Str))=false:=by decide):
  PE X (.Call (.Name x p) [] [] pos) (JX X i E):=by
 intro z06 s σ H Q I h;obtain⟨fl,fd,body,N,vs,cs,te,Kj,L,Z,fr,cell,val,hl,kD,q⟩:=h;obtain⟨o,ho,iO⟩:=L.ob;have CI:s.heap.get? fl=some o:=(I.hok fl _ ho).1;refine wpAny_Call_Name_kw (thn (wW (pos:=p) hN hv hd eB z06 s σ H (λv H'=>v=.ref fl/\H'=H) I ⟨_,Kj,rfl,rfl⟩) λf s1=>?_);rintro⟨v,H1,I1,r1,z1,z2⟩;subst z1 z2;cases(show f=Value.ref fl from r1);have CI:s1.heap.get? fl=some o:=(I1.hok fl _ ho).1;refine callWith_F0 (by obtain⟨oc,od,dt,sl⟩:=o;exact⟨oc,od,fd,sl,by rw[CI];exact congrArg some (by rw[show dt=Data.func fd from iO])⟩) ?_;obtain⟨c,oc,ws,t,ec,hc,Kk,hw⟩:=L.cd
 have Sv:s1.heap.CodeRec fd.code fd.qualname:=⟨c,oc,ws,t,ec,(I1.hok c _ hc).1,Kk,hw⟩
 refine wpAny_call (codeAny_mono (Hg (k:=k) Z hr I1.env0 CI iO Sv (λb ob e=>⟨fr b ob e,λhm=>?_⟩) cell val hl (kD s1) q) λr s' hq=>?_)
 .have:=I1.stkFree b hm;rw[fr b ob e]at this;cases this
 .cases r with
  |error e=>exact J7 W hx z06 σ _ s1 e s' I1 hq
  |ok hZ=>
   cases hZ with
   |ret u=>exact I1.after hq
   |next=>exact False.elim hq
   |brk=>exact False.elim hq
   |cont=>exact False.elim hq
def Du(H:Hp)(c:Addr)(q:Str):Prop:=∃oc vs t,H c=some (held oc)/\oc.data=.fields vs/\vs[1]?=some (.str q t)
def TabOk(H:Hp)(P:Addr)(q:Str):Prop:=∃ps,H P=some (.tbl ps)/\TriplesOk ps.toList/\∀l,codeAmong l ps.toList=none\/∃c,codeAmong l ps.toList=some (.ref c)/\Du H c q
theorem TabOk.keep(x:TabOk H P q)(kp:∀ps,H P=some (.tbl ps)->H' P=some (.tbl ps))(kh:∀b o,H b=some (held o)->H' b=some (held o)):TabOk H' P q:=by
 obtain⟨ps,e,t,h⟩:=x;refine⟨ps,kp ps e,t,λl=>?_⟩;rcases h l with z|⟨c,z,oc,vs,t',y,r⟩
 .exact .inl z
 .exact .inr ⟨c,z,oc,vs,t',kh _ _ y,r⟩
theorem TabOk.same(x:TabOk H P q)(s:Same H H'):TabOk H' P q:=x.keep (λ_=>s _ _) λ_ _=>s _ _
theorem Bq:∀a,TriplesOk a->codeAmong l (a++r)=(codeAmong l a).orElse λ_=>codeAmong l r:=λa h=>by
 fun_induction TriplesOk a with
 |case1=>simp[codeAmong]
 |case2 x t y u z rest ih=>
  simp only[List.cons_append,codeAmong];split
  .rfl
  .exact ih h
 |case3 a h1 h2=>exact h.elim
section
variable{T c fl:Addr}
theorem mq(e:h.get? b=some o):ObjOk P w H h b (held o):=⟨e,trivial,⟨o,e⟩,λ_ _ _ _=>trivial⟩
theorem Mj(hT:H T=some (.tbl ps))(ok:HOk P w H h)(k:∀b o,b≠T->h.get? b=some o->h'.get? b=some o)(hp:h'.get? T=some (tabObj (ps++more)))(hc:h.objs.size<=c)(hf:h.objs.size<=fl)(Yy:c≠fl)(ec:h'.get? c=some oc)(ef:h'.get? fl=some ob):
  Un fs [] H (upd (upd (upd H T (.tbl (ps++more))) c (held oc)) fl (held ob)) h h'/\HOk P w (upd (upd (upd H T (.tbl (ps++more))) c (held oc)) fl (held ob)) h':=by
 have nc:=ok.fresh hc;have nf:=ok.fresh hf
 have lt:∀b u,H b=some u->b≠c/\b≠fl:=λb u e=>⟨aD e nc,aD e nf⟩
 have mE:∀b u,b≠T->H b=some u->upd (upd (upd H T (.tbl (ps++more))) c (held oc)) fl (held ob) b=some u:=λb u n e=>by
  rw[aA (lt b u e).2,aA (lt b u e).1,aA n];exact e
 have atT:upd (upd (upd H T (.tbl (ps++more))) c (held oc)) fl (held ob) T=some (.tbl (ps++more)):=by
  rw[aA (lt T _ hT).2,aA (lt T _ hT).1,aa]
 have old:∀b o,h.get? b=some o->b≠c/\b≠fl:=λb o e=>⟨zB5 (zB4 (zB0 e) hc),zB5 (zB4 (zB0 e) hf)⟩
 refine⟨⟨λb o e n _ _=>k b o (λz=>(by rw[z,hT]at n;cases n)) e,λb o e n _ _=>⟨o.slots,k b o (λz=>(by rw[z,hT]at n;cases n)) e⟩,λb o e n _=>?_,λb o e _=>?_,λb xs e=>mE b _ (λz=>(by rw[z,hT]at e;cases e)) e,λb o u e=>mE b _ (λz=>(by rw[z,hT]at e;cases e)) e,λb qs e=>?_⟩,λb u e=>?_⟩
 .rw[aA (old b o e).2,aA (old b o e).1,aA λz=>(by rw[z,hT]at n;cases n)];exact n
 .by_cases z:b=T
  .rw[z];exact⟨_,hp⟩
  .exact⟨o,k b o z e⟩
 .by_cases z:b=T
  .subst z;rw[hT]at e;cases e;exact⟨more,atT⟩
  .exact⟨#[],by rw[Array.append_empty];exact mE b _ z e⟩
 .by_cases z1:b=fl
  .subst z1;rw[aa]at e;cases e;exact mq ef
  .rw[aA z1]at e;by_cases z2:b=c
   .subst z2;rw[aa]at e;cases e;exact mq ec
   .rw[aA z2]at e;by_cases z3:b=T
    .subst z3;rw[aa]at e;cases e;exact hp
    .rw[aA z3]at e;refine(ok b u e).stay (λd v hd q=>k d v (λy=>?_) q) (λd q=>mE d _ (λy=>(by rw[y,hT]at q;cases q)) q) λd xs q=>mE d _ (λy=>(by rw[y,hT]at q;cases q)) q;subst y;rcases hd with y|y
     .exact z3 y.symm
     .rw[hT]at y;cases y
end
def tMk(T:Addr)(q:Str)(params:Arguments)(body:Expr)(scope:Scope)(cl:List (Str×Addr))(N:List Str):TE:=λ_ H Q=>TabOk H T q /\
 ∀fl pm cv ct H1,(∀b o,b≠T->H b=some o->H1 b=some o)->TabOk H1 T q->H fl=none->LamObj H1 fl (kla_fn "<lambda>" q params body scope cl pm cv ct)->LamAt (kla_fn "<lambda>" q params body scope cl pm cv ct) body N->Q (.ref fl) H1
structure LamTx(X:Cx)(params:Arguments)(body:Expr)(scope:Scope)(N:List Str):Prop where
 df:defaultsOf params X.env=([],[])
 kd:scope.kind=.function
 co:scope.isCoroutine=false
 ge:scope.isGenerator=false
 fr:∀p∈scope.names,p.2≠.cell
 fl:∀p∈scope.names,p.2=NameKind.free->X.env.kindOf p.1=some .cell\/X.env.kindOf p.1=some .free
 ba:∀qual cl pm cv ct,bindArgs (kla_fn "<lambda>" qual params body scope cl pm cv ct) ⟨[],[]⟩=pure []
 nm:∀x∈N,scope.names.lookup x=some .free
theorem vY(Z:LamTx X params body scope N)(dv:X.env.code=.ref cc)(hC:CodeHd X.base cc T)(hB:X.base.BuiltinsAt X.mg T):
  PE X (.Lambda params body scope bg) (tMk T (X.env.qual++"<lambda>") params body scope (cC X.env.cells scope.names []) N):=by
 intro z06 s σ H Q I h;obtain⟨⟨ps,hT,tr,am⟩,q⟩:=h
 have hs:∀p∈scope.names,p.2=NameKind.free->(X.env.cells.lookup p.1).isSome=true:=λp hp e=>by
  obtain⟨c,z⟩:=I.ok.has p.1 (Z.fl p hp e);rw[z];rfl
 have lam:∀qual pm cv ct,LamAt (kla_fn "<lambda>" qual params body scope (cC X.env.cells scope.names []) pm cv ct) body N:=λqual pm cv ct=>
  ⟨rfl,rfl,rfl,Z.kd,Z.co,Z.ge,Z.fr,λx hx=>lD _ _ (.inl ⟨_,PySem.mem_of_lookup hx,rfl⟩),λx y c h1 h2=>by
   rcases jo _ _ hs h1 with z|z
   .cases z
   .rcases jo _ _ hs h2 with z2|z2
    .cases z2
    .exact I.ok.inj x y c z z2,Z.ba _ _ _ _ _,Z.nm⟩
 have hg:=I.mod.glob.keeps I.bk;have hP:s.heap.get? T=some (tabObj ps):=I.hok T _ hT
 have Sw:mainGlobals≠T:=λz=>by
  obtain⟨o,es,ep,e,_⟩:=I.mod.glob;have:=(I.bs _ _ e).2;rw[z,hT]at this;cases this
 have hb:s.heap.BuiltinsAt X.mg T:=by obtain⟨bm,o,b1,b2,b3,b4,b5,r⟩:=hB;exact⟨bm,o,b1,b2,b3,b4,I.bk _ _ b5,r⟩
 refine kla_eval Z.df ?_;rcases am bg with hn|⟨c,hf,oc,vs,t,hc,hd,hv⟩
 .refine kla_makeFunction (mg:=X.mg) (oV hs) I.ok.glob hg dv (hC.keeps I.bk) hP tr hn Sw hb λc' rf h' tk hx kQ ay Kn CL=>?_;obtain⟨c₂,oc,vs,t,e2,E3,hd,hv⟩:=Kn;cases e2
  obtain⟨un,ok⟩:=Mj (P:=X.prog) (w:=X.w) (fs:=frs X.stack) (h':=h'.push (kla_obj "<lambda>" (X.env.qual++"<lambda>") params body scope (cC X.env.cells scope.names []) ((X.mg "__name__").getD .none) c' rf)) (fl:=h'.objs.size) hT I.hok
   (λb o n e=>zAv _ (hx b o n e)) (zAv _ CL) kQ (Zah kQ (Za4 ay)) (zB5 ay) (zAv _ E3) (zB1 _ rfl)
  have J:=I.call (ch:=[]) (g':=s.gens) (t':=tk) (d':=s.drawn) un ok I.bare λb z=>absurd z z01;have nc:H c'=none:=I.hok.fresh kQ;have nf:H h'.objs.size=none:=I.hok.fresh (Zah kQ (Za4 ay))
  have kp:∀b o,b≠T->H b=some o->upd (upd (upd H T (.tbl (ps++#[rawInt bg.line,rawInt bg.col,.ref c']))) c' (held oc)) h'.objs.size (held (kla_obj "<lambda>" (X.env.qual++"<lambda>") params body scope (cC X.env.cells scope.names []) ((X.mg "__name__").getD .none) c' rf)) b=some o:=λb o n e=>by
   rw[aA (aD e nf),aA (aD e nc),aA n];exact e
  have cd:Du (upd (upd (upd H T (.tbl (ps++#[rawInt bg.line,rawInt bg.col,.ref c']))) c' (held oc)) h'.objs.size (held (kla_obj "<lambda>" (X.env.qual++"<lambda>") params body scope (cC X.env.cells scope.names []) ((X.mg "__name__").getD .none) c' rf))) c' (X.env.qual++"<lambda>"):=
   ⟨oc,vs,t,by rw[aA (zB5 ay),aa],hd,hv⟩
  refine⟨.ref h'.objs.size,_,J,rfl,q _ ((X.mg "__name__").getD .none) (.ref c') rf _ kp ⟨ps++#[rawInt bg.line,rawInt bg.col,.ref c'],?_,?_,λl=>?_⟩ nf ⟨⟨_,aa,rfl⟩,?_⟩ (lam _ _ _ _)⟩
  .rw[aA (aD hT nf),aA (aD hT nc),aa]
  .rw[Zag];exact TriplesOk_snoc _ _ _ _ tr
  .rw[Zag,Bq _ tr];rcases am l with z|⟨c,z,Sx,iS,t2,y,r⟩
   .rw[z];show codeAmong l [rawInt bg.line,rawInt bg.col,.ref c']=none\/_;simp only[codeAmong,rawInt];by_cases e:((bg.line:Int)==(l.line:Int)&&(bg.col:Int)==(l.col:Int))=true
    .refine .inr ⟨c',?_,cd⟩;show codeAmong l [rawInt bg.line,rawInt bg.col,.ref c']=some (.ref c');simp only[codeAmong,rawInt];rw[zAz e]
    .refine .inl ?_;rw[zAy e]
   .rw[z];exact .inr ⟨c,rfl,Sx,iS,t2,kp _ _ (λw'=>by rw[w',hT]at y;cases y) y,r⟩
  .obtain⟨Sy,Sz,t3,a1,a2,a3⟩:=cd;exact⟨c',Sy,Sz,t3,rfl,a1,a2,a3⟩
 .refine kla_makeFunctionHit (mg:=X.mg) (oV hs) I.ok.glob hg dv (hC.keeps I.bk) hP tr hf hb λrf h' tk hk hsz=>?_
  have J:=I.laid (a:=h'.objs.size) (o:=held (kla_obj "<lambda>" (X.env.qual++"<lambda>") params body scope (cC X.env.cells scope.names []) ((X.mg "__name__").getD .none) c rf)) (h':=h'.push (kla_obj "<lambda>" (X.env.qual++"<lambda>") params body scope (cC X.env.cells scope.names []) ((X.mg "__name__").getD .none) c rf)) (t':=tk)
   (λb u e=>zAv _ (hk b u e)) hsz (mq (zB1 _ rfl))
  have nf:H h'.objs.size=none:=I.hok.fresh hsz
  have kp:Same H (upd H h'.objs.size (held (kla_obj "<lambda>" (X.env.qual++"<lambda>") params body scope (cC X.env.cells scope.names []) ((X.mg "__name__").getD .none) c rf))):=λb o e=>by
   rw[aA (aD e nf)];exact e
  exact⟨.ref h'.objs.size,_,J,rfl,q _ ((X.mg "__name__").getD .none) (.ref c) rf _ (λb o _ e=>kp b o e) (TabOk.same ⟨ps,hT,tr,am⟩ kp) nf ⟨⟨_,aa,rfl⟩,c,oc,vs,t,rfl,kp _ _ hc,hd,hv⟩ (lam _ _ _ _)⟩
structure CellsOf(cl:List (Str×Addr))(N:List Str)(vs:List V)(H:Hp)(cs:List (Addr×Obj)):Prop where
 no:∀b o,cs.lookup b=some o->H b=none
 cell:∀x c,cl.lookup x=some c->∃o v,cs.lookup c=some o/\o.data=.cell v
 val:∀(i:Nat) x v,N[i]?=some x->vs[i]?=some v->∃c u o,cl.lookup x=some c/\RelV v u/\cs.lookup c=some o/\o.data=.cell (some u)
theorem Ml:∀{l:List (Addr×Obj)},l.lookup b=some o->(b,o)∈l
 |[],e=>by cases e
 | (a,x)::r,e=>by
  rw[Za1]at e
  cases z:b==a with
  |true=>rw[z]at e;cases e;rw[eq_of_beq z];exact .head _
  |false=>rw[z]at e;exact .tail _ (Ml e)
theorem sI:∀{fp:List Addr},(dI fp h).lookup b=some o->b∈fp/\h.get? b=some o:=λ{fp} e=>mV (p:=(b,o)) (Ml e)
theorem kY(e:h.get? b=some o):∀{fp:List Addr},b∈fp->(dI fp h).lookup b=some o
 |[],z=>absurd z z01
 |a::r,z=>by
  have un:dI (a::r) h=match(h.get? a).map (λo=>(a,o))with|some p=>p::dI r h|none=>dI r h:=by
   unfold dI;rw[Zaj];cases(h.get? a).map (λo=>(a,o))<;>rfl
  rw[un];by_cases y:b=a
  .subst y;rw[e];show List.lookup b ((b,o)::dI r h)=_;rw[Za1,beq_self_eq_true]
  .have ih:=kY e (fp:=r) ((zAo.mp z).resolve_left y)
   cases q:h.get? a with
   |none=>exact ih
   |some o'=>
    show List.lookup b ((a,o')::dI r h)=_;rw[Za1,show(b==a)=false by simpa using y];exact ih
theorem vZ:∀l acc,q∈cC cells l acc->q∈acc\/∃k,(q.1,k)∈l/\k=NameKind.free/\q.2=(cells.lookup q.1).getD 0
 |[],_,h=>.inl h
 | (n,k)::r,acc,h=>by
  have h':q∈cC cells r (if k=.free then(n,(cells.lookup n).getD 0)::acc else acc):=h;rcases vZ r _ h' with e|⟨k',e1,e2⟩
  .by_cases hk:k=.free
   .rw[zAz hk]at e;rcases zAo.mp e with z|z
    .cases z;exact .inr ⟨k,Zap,hk,rfl⟩
    .exact .inl z
   .rw[zAy hk]at e;exact .inl e
  .exact .inr ⟨k',Zai _ e1,e2⟩
def Dv(sp:Sp)(N:List Str)(ix:List Nat)(cl:List (Str×Addr))(te:TE):TE:=λσ H Q=>te σ H λv H1=>∃vs:List V,vs.length=N.length/\(∀(j i:Nat) u,ix[j]?=some i->vs[j]?=some u->σ[i]?=some (some u)) /\
 ∀cs,CellsOf cl N vs H1 cs->sp [v] (fz H1 cs) (λv H2=>Q v (er H2 cs)) E0
theorem yW{p pos:Pos}{scope:Scope}(F:FnOk X.prog X.w X.K X.mg X.base CX0 k f fd [y] sp)(hr:Room k X.A)(hg:Gl X x)(hm:X.mg x=some (.ref f))
  (hk:PySem.W.keepIn X.K (.ref f)=true) (hb:Binds X.K fd [y] []) (hx:X.ex=[]) (hp:∀p∈scope.names,p.2=NameKind.free->X.env.kindOf p.1=some .cell/\X.fn p.1=true) (hN:∀(j:Nat) x,N[j]?=some x->∃i,ix[j]?=some i/\X.N[i]?=some x/\scope.names.lookup x=some .free)
  (ha:PE X arg te) (eC:(x==("__debug__":Str))=false:=by decide) (he:starEach [arg] X.env=(false,eval arg X.env)::starEach [] X.env:=by rfl) (dP:(backTo pos (starEach [] X.env)).any (·.1)=false:=by rfl):
  PE X (.Call (.Name x p) [arg] [] pos) (Dv sp N ix (cC X.env.cells scope.names []) te):=by
 intro z06 s σ H Q I h;refine wpAny_Call_Name_kw (jD I hg hm ?_ eC)
 refine PySem.W.callWith_K (h₀:=X.base) I.ok.mod.kin hk (thn (aM ha aj he pos z06 s σ H (λvs H1=>∃ws:List V,ws.length=N.length/\(∀(j i:Nat) (u:V),ix[j]?=some i->ws[j]?=some u->σ[i]?=some (some u)) /\
  ∀cs,CellsOf (cC X.env.cells scope.names []) N ws H1 cs->sp vs (fz H1 cs) (λv H2=>Q v (er H2 cs)) E0) I h) λus s1 z=>?_) he dP
 obtain⟨vs,H1,I1,r,ws,hw,fR,q⟩:=z;refine⟨I1.kIn,?_⟩
 have hs:∀p∈scope.names,p.2=NameKind.free->(X.env.cells.lookup p.1).isSome=true:=λp ij e=>by
  obtain⟨c,z⟩:=I1.ok.has p.1 (.inl (hp p ij e).1);rw[z];rfl
 have sub:∀x c,(cC X.env.cells scope.names []).lookup x=some c->X.env.cells.lookup x=some c:=λx c e=>by
  rcases jo _ _ hs e with z|z
  .cases z
  .exact z
 have at':∀b∈(cC X.env.cells scope.names []).map (·.2),∃x,X.env.cells.lookup x=some b/\X.fn x=true:=λb eR=>by
  obtain⟨q',SA,rfl⟩:=zA5.mp eR;rcases vZ _ _ SA with z|⟨k',fk,rfl,e⟩
  .cases z
  .obtain⟨c,hc⟩:=Zas.mp (hs _ fk rfl);refine⟨q'.1,?_,(hp _ fk rfl).2⟩;rw[e,show X.env.cells.lookup q'.1=some c from hc];rfl
 obtain⟨cs,FE⟩:∃cs,cs=dI ((cC X.env.cells scope.names []).map (·.2)) s1.heap:=⟨_,rfl⟩
 have Oq:∀x c,(cC X.env.cells scope.names []).lookup x=some c->c∈(cC X.env.cells scope.names []).map (·.2):=λx c e=>zA5.mpr ⟨(x,c),PySem.mem_of_lookup e,rfl⟩
 have L:Loose H1 s1.heap (frs X.stack) cs:=λb o e=>by
  rw[FE]at e;obtain⟨eR,e'⟩:=sI e;obtain⟨x',cS,lS⟩:=at' b eR;refine⟨e',I1.freeC x' b cS,λz=>?_⟩;rcases zAo.mp (I1.stkSub b z)with y'|y'
  .exact I1.cne x' b cS y'
  .obtain⟨_,o',gN,_⟩:=I1.ok.funs.mem y';exact absurd (zB4 (zB0 gN) (I1.ok.cab x' b lS cS)) (Zak _)
 have C:CellsOf (cC X.env.cells scope.names []) N ws H1 cs:=by
  refine⟨λb o e=>(L b o e).2.1,λx' c e=>?_,λi x' v e1 e2=>?_⟩
  .obtain⟨v,o,ho,hd⟩:=I1.cell x' c (sub x' c e);exact⟨o,v,by rw[FE];exact kY ho (Oq x' c e),hd⟩
  .obtain⟨j,e3,e4,e5⟩:=hN i x' e1;obtain⟨m,hn,hl⟩:=I1.loc;have Ot:=(hp (x',.free) (PySem.mem_of_lookup e5) rfl).1;obtain⟨u,ru,lk⟩:=hl j x' v e4 (fR i j v e3 e2) (.inr (.inl Ot));rcases lk with⟨kl,_⟩|⟨_,c,ec,o,ho,hd⟩
   .rw[Ot]at kl;cases kl
   .obtain⟨c',ax⟩:=lD (cells:=X.env.cells) (x:=x') scope.names [] (.inl ⟨_,PySem.mem_of_lookup e5,rfl⟩);have:=sub x' c' ax;rw[ec]at this;cases this;exact⟨c,u,o,ax,ru,by rw[FE];exact kY ho (Oq x' c ax),hd⟩
 have q:=q cs C;have hok:=I1.hok.fz L
 have e0:Env0 X.prog X.w X.K X.mg X.base X.A X.stack s1 (fz H1 cs):=by
  have e1:=I1.env0;refine⟨e1.frames,e1.mod,λb o e=>⟨(e1.bs b o e).1,?_⟩,e1.bsz,e1.funs,λb eR=>?_,hok,e1.bare⟩
  .cases z:cs.lookup b with
   |none=>rw[dR z];exact(e1.bs b o e).2
   |some o'=>
    have z':=z;rw[FE]at z';obtain⟨x',cS,lS⟩:=at' b (sI z').1;exact absurd (zB4 (zB0 (I1.ok.bs b o e).1) (I1.ok.cab x' b lS cS)) (Zak _)
  .cases z:cs.lookup b with
   |none=>rw[dR z];exact e1.frf b eR
   |some o'=>exact absurd eR (L b o' z).2.2
 have hl:(us++[]).length=[y].length:=by rw[zAn,<-r.length];exact F.len _ _ _ _ q
 have CD:=hb s1 us I1.kIn hl;rw[zAn]at CD;refine wpAny_call (codeAny_mono (F.run X.A X.stack s1 (fz H1 cs) ⟨us,[]⟩ us vs _ E0 hr e0 CD r q) λrr s' hq=>?_)
 cases rr with
 |error e=>exact(show False from hq).elim
 |ok fl=>
  cases fl with
  |ret u=>
   obtain⟨v,H2,os,bare,un,mv,rv,qq⟩:=hq;obtain⟨un',vt,_⟩:=un.held mv L;exact I1.after (Q:=Q) ⟨v,er H2 cs,os,bare,un',vt,rv,qq⟩
  |next=>exact False.elim hq
  |brk=>exact False.elim hq
  |cont=>exact False.elim hq
def qj(scope sc:Scope)(NX N:List Str)(ix:List Nat):Bool:=
 decide (scope.kind=.function)&&!scope.isCoroutine&&!scope.isGenerator&&scope.names.all (λp=>decide (p.2≠NameKind.cell)&&(decide (p.2≠NameKind.free)||decide (sc.names.lookup p.1=some NameKind.cell))) &&
 (N.zip ix).all (λq=>decide (NX[q.2]?=some q.1)&&decide (scope.names.lookup q.1=some NameKind.free))&&decide (N.length=ix.length)
theorem Dw{p pos bg:Pos}(F:FnOk X.prog X.w X.K X.mg X.base CX0 k f fd [y] sp)(hr:Room k X.A)(hg:Gl X x)(hm:X.mg x=some (.ref f))
  (hk:PySem.W.keepIn X.K (.ref f)=true) (hb:Binds X.K fd [y] []) (hx:X.ex=[]) (lS:∀x,X.fn x=true) (dv:X.env.code=.ref cc) (hC:CodeHd X.base cc T) (hB:X.base.BuiltinsAt X.mg T) (CM:X.env.scope=sc) (CO:X.N=NX)
  (qh:defaultsOf params X.env=([],[])) (Kt:∀qual cl pm cv ct,bindArgs (kla_fn "<lambda>" qual params body scope cl pm cv ct) ⟨[],[]⟩=pure []) (ok:qj scope sc NX N ix=true) (eC:(x==("__debug__":Str))=false:=by decide)
  (he:starEach [.Lambda params body scope bg] X.env=(false,eval (.Lambda params body scope bg) X.env)::starEach [] X.env:=by rfl) (dP:(backTo pos (starEach [] X.env)).any (·.1)=false:=by rfl):
  PE X (.Call (.Name x p) [.Lambda params body scope bg] [] pos) (Dv sp N ix (cC X.env.cells scope.names []) (tMk T (X.env.qual++"<lambda>") params body scope (cC X.env.cells scope.names []) N)):=by
 subst CM CO;unfold qj at ok;simp only[Bool.and_eq_true,z08,Bool.not_eq_true',List.all_eq_true,Bool.or_eq_true]at ok;obtain⟨⟨⟨⟨⟨kd,co⟩,ge⟩,As⟩,zs⟩,hl⟩:=ok
 have kc:∀p∈scope.names,p.2=NameKind.free->X.env.kindOf p.1=some .cell:=λp hp e=>by
  rcases(As p hp).2 with z|z
  .exact absurd e z
  .exact z
 have hz:∀(j:Nat) (x:Str),N[j]?=some x->∃i,ix[j]?=some i/\X.N[i]?=some x/\scope.names.lookup x=some .free:=λj x e=>by
  have hj:=(zAa.mp e).1;have e2:ix[j]?=some (ix[j]'z00):=zA0 z00;have:=zs (x,ix[j]'z00) (zB6 (i:=j) (by rw[List.getElem?_zip_eq_some];exact⟨e,e2⟩));exact⟨_,e2,this.1,this.2⟩
 refine yW F hr hg hm hk hb hx (λp hp e=>⟨kc p hp e,lS _⟩) hz (vY ⟨qh,kd,co,ge,λp hp=>(As p hp).1,λp hp e=>.inl (kc p hp e),Kt,λx hx=>?_⟩ dv hC hB) eC he dP;obtain⟨j,e⟩:=List.mem_iff_getElem?.mp hx;obtain⟨_,_,_,z⟩:=hz j x e;exact z
theorem Fun.okC{K:Frag}{st:Stmt}{f cc:Addr}{fd:FuncData}{N ps:List Str}{k:Nat}{sp:Sp}(F:Fun K x qual st f fd)(hc:fd.code=.ref cc)(S:FnScope N ps (az st))(len:∀vs H Q E,sp vs H Q E->vs.length=ps.length)
  (ar:∀A outer s H vs Q E,Room k (A.deeper (envOfC qual (az st) s.heap.objs.size f (.ref cc)))->sp vs H Q E->
   ∃t,PSs (iJ CX0 P w K mg base N qual (az st) f (.ref cc) A outer s H E).nox (cB st) t/\t {nx:=λ_ H'=>Q .non H',rt:=Q} (start N vs) H):FnOk P w K mg base CX0 (k+1) f fd ps sp:=by
 obtain⟨oc,od,kV,doc,pm,an,cdv,ct,kM,rfl,lk,eB⟩:=F.ex;subst hc;refine Cu lk eB S len λA outer s H vs Q E hr hV=>?_;obtain⟨t,h,q⟩:=ar A outer s H vs Q E hr hV;exact⟨t,h.nox,q⟩
theorem Fun.oqC {K:Frag} {st:Stmt} {f cc:Addr} {fd:FuncData} {N ps:List Str} {k:Nat} {sp:Sp} (F:Fun K x qual st f fd) (hc:fd.code=.ref cc) (S:FnScope N ps (az st)) (ar:∀A outer s H vs Q E,Room k (A.deeper (envOfC qual (az st) s.heap.objs.size f (.ref cc)))->sp vs H Q E->
   ∃t,PSs (iJ CX0 P w K mg base N qual (az st) f (.ref cc) A outer s H E).nox (cB st) t/\t {nx:=λ_ H'=>Q .non H',rt:=Q} (start N vs) H) (len:LenOk sp ps:=by exact{}):FnOk P w K mg base CX0 (k+1) f fd ps sp:=F.okC hc S len.h ar
section
mutual
theorem IsTh.kp(k:∀b o,(∀ps,o≠HO.tbl ps)->(∀ob u,o≠HO.frz ob u)->H b=some o->H' b=some o)(hS:∀b o,(∀ps,o≠HO.tbl ps)->(∀ob u,o≠HO.frz ob u)->S b->H b=some o->S' b):∀{v:V} {d:PyData},IsTh S H v d->IsTh S' H' v d
 |_,_,.non=>.non
 |_,_,.bl b=>.bl b
 |_,_,.int i=>.int i
 |_,_,.str x=>.str x
 |_,_,.lst s e r=>.lst (hS _ _ (λ_ z=>by cases z) (λ_ _ z=>by cases z) s e) (k _ _ (λ_ z=>by cases z) (λ_ _ z=>by cases z) e) (IsThs.kp k hS r)
 |_,_,.tup e r=>.tup (k _ _ (λ_ z=>by cases z) (λ_ _ z=>by cases z) e) (IsThs.kp k hS r)
 |_,_,.dct s e=>.dct (hS _ _ (λ_ z=>by cases z) (λ_ _ z=>by cases z) s e) (k _ _ (λ_ z=>by cases z) (λ_ _ z=>by cases z) e)
theorem IsThs.kp(k:∀b o,(∀ps,o≠HO.tbl ps)->(∀ob u,o≠HO.frz ob u)->H b=some o->H' b=some o)(hS:∀b o,(∀ps,o≠HO.tbl ps)->(∀ob u,o≠HO.frz ob u)->S b->H b=some o->S' b):∀{vs:List V} {ds:List PyData},IsThs S H vs ds->IsThs S' H' vs ds
 |_,_,.nil=>.nil
 |_,_,.cons h t=>.cons (IsTh.kp k hS h) (IsThs.kp k hS t)
end
theorem IsTh.tbl(h:IsTh S H v d)(t:TabOk H T q)(k:∀b o,b≠T->H b=some o->H' b=some o):IsTh S H' v d:=
 h.kp (λb o n1 _ e=>k b o (λz=>by obtain⟨ps,y,_⟩:=t;rw[z,y]at e;cases e;exact n1 _ rfl) e) λ_ _ _ _ s _=>s
theorem Mm(no:NoC cs H):er (fz H cs) cs=H:=by
 funext b
 cases q:cs.lookup b with
 |some o=>rw[lZ q,no b o q]
 |none=>rw[gm q,dR q]
theorem Same.fz(s:Same H H'):Same (L2.fz H cs) (L2.fz H' cs):=λb o e=>by
 cases q:cs.lookup b with
 |some u=>
  rw[sG q]at e⊢;exact e
 |none=>
  rw[dR q]at e⊢;exact s b o e
theorem yX(s:Same (fz H cs) H1)(n:∀ob u,o≠HO.frz ob u)(e:H1 b=some o):er H1 cs b=some o:=by
 cases q:cs.lookup b with
 |some u=>
  rw[s b _ (sG q)]at e;cases e;exact absurd rfl (n _ _)
 |none=>rw[gm q];exact e
theorem Same.er(s:Same (L2.fz H cs) H1)(no:NoC cs H):Same H (L2.er H1 cs):=λb o e=>by
 cases q:cs.lookup b with
 |some u=>rw[no b u q]at e;cases e
 |none=>
  rw[gm q];exact s b o (by rw[dR q];exact e)
end
theorem Br{K:Frag}{sp:Sp}{s₁:Shared}{vs:List Value}{ns:UV}
  (KX:K.In s₁.heap) (Kx:s₁.heap.Ns mainGlobals mg) (hb:s₁.heap.Ns builtinsNs mb) (SD:∀x:Str,x≠"__name__"->mb x=bootBuiltins x) (KA:s₁.heap.NoLimit) (hg:s₁.gens=#[])
  (hC:CodeHd s₁.heap c T) (hT:s₁.heap.get? T=some (tabObj #[])) (hK:noTabs K=true) (bmain:∃bm ob,mg "__builtins__"=some (.ref bm)/\bm≠builtinsNs/\s₁.heap.get? bm=some ob/\ob.cls=.type "module"/\ob.dict=some builtinsNs/\ob.data=.plain)
  (ha:s₁.heap.get? a=some {cls:=.type "list",data:=.seq vs.toArray}) (hi:IntsAre vs ns) (hl:ns.length<=sizeLine) (hr:Room k callerA)
  (F:∀base,K.In base->base.Ns mainGlobals mg->CodeHd base c T->base.BuiltinsAt mg T->FnOk P w K mg base CX k fa fd [x] sp) (CS:∀s u,BindsTo s fd ⟨[u],[]⟩ [(x,u)])
  (hV:∀H,SqL K H a (ns.map V.int)->TabOk H T qn->sp [.ref a] H (λv _=>v=.bl true) λ_ _ _=>False) (KG:∀H e s',CX [] H s₁ (λ_ _ _=>False) e s'->False):
  codeAny (model P w) callerA (.call (.ref fa) ⟨[.ref a],[]⟩) (λr s'=>r=.ok (.ret (.bool true))/\OldK s₁.heap s'.heap/\s'.os=s₁.os/\AllBare s'.gens) s₁:=by
 have rv:=rK hi;have KI:=hi.length
 have neT:a≠T:=λz=>by
  rw[z,hT]at ha;cases ha
 have SE:K.lookup T=none:=by
  cases e:K.lookup T with
  |none=>rfl
  |some o=>
   have h1:=KX _ _ e;rw[hT]at h1;cases h1;have h2:=Zae.mp hK _ (mem_of_lookupK e);exact absurd (show false=true from h2) zAg
 have core:∀H:Hp,H T=some (.tbl #[])->(∀b,b≠T->H b=none\/∃o xs,H b=some (.frz o (.lst xs)))->SqL K H a (ns.map V.int)->HOk P w H s₁.heap->(∀b,H b≠none->b=a\/b=T)->(H a≠none->K.lookup a=none)->
   codeAny (model P w) callerA (.call (.ref fa) ⟨[.ref a],[]⟩) (λr s'=>r=.ok (.ret (.bool true))/\OldK s₁.heap s'.heap/\s'.os=s₁.os/\AllBare s'.gens) s₁:=by
  intro H eT hO hS hok hA SF;have dS:∀{b:Addr} {o:Obj},s₁.heap.get? b=some o->H b=none->(pq s₁.heap H).get? b=some o:=λe n=>Ci e n
  have apart:∀{b:Addr} {o:Obj},s₁.heap.get? b=some o->(∀its n,o.data≠.seq its n)->o.cls≠.none->H b=none:=λ{b o} e h1 h2=>by grind
  have BB:∀{b:Addr} {o:Obj} {es:Array DictEntry} {ep:Nat},s₁.heap.get? b=some o->o.data=.dict es ep->H b=none:=λ{b o es ep} e d=>by
   cases q:H b with
   |none=>rfl
   |some u=>
    rcases hA b (by rw[q];simp)with z|z
    .rw[z,ha]at e;cases e;cases d
    .rw[z,hT]at e;cases e;cases d
  have FF:∀{b:Addr} {m:Str->Option Value},s₁.heap.Ns b m->(pq s₁.heap H).Ns b m:=λ{b m} ⟨o,es,ep,e,d,r⟩=>⟨o,es,ep,dS e (BB e d),d,r⟩
  have Ou:K.In (pq s₁.heap H):=λb o e=>dS (KX b o e) (by
   cases q:H b with
   |none=>rfl
   |some u=>
    rcases hA b (by rw[q];simp)with z|z
    .subst z;rw[SF (by rw[q];simp)]at e;cases e
    .rw[z,SE]at e
     cases e)
  have hM:Mod K mg (pq s₁.heap H):=⟨Ou,FF Kx,⟨mb,FF hb,SD⟩,let⟨mc,h1,h2⟩:=KA;⟨mc,FF h1,h2⟩⟩
  have e0:Env0 P w K mg (pq s₁.heap H) callerA [] s₁ H:=⟨rfl,hM,λb o e=>Ge e,Nat.le_of_eq (Ab _ _),trivial,λb hb=>absurd (show b∈([]:List Addr)from hb) z01,hok,.of_eq hg⟩
  have SI:CodeHd (pq s₁.heap H) c T:=by
   obtain⟨o,SJ,file,tf,flags,tg,B8,text,tt,e,h1,h2,r⟩:=hC;exact⟨o,SJ,file,tf,flags,tg,B8,text,tt,dS e (apart e (λits n z=>by rw[h2]at z;cases z) λz=>by rw[h1]at z;cases z),h1,h2,r⟩
  have SK:(pq s₁.heap H).BuiltinsAt mg T:=by
   obtain⟨bm,ob,b1,b2,b3,b4,b5,b6⟩:=bmain;refine⟨bm,ob,b1,b2,λz=>?_,λz=>?_,dS b3 (apart b3 (λits n z=>by rw[b6]at z;cases z) λz=>by rw[b4]at z;cases z),b4,b5,b6⟩
   .obtain⟨o,es,ep,e,d,_⟩:=Kx;rw[z,e]at b3;cases b3;rw[d]at b6;cases b6
   .rw[z,hT]at b3;cases b3;cases b4
  refine codeAny_mono ((F _ Ou (FF Kx) SI SK).run callerA [] s₁ H ⟨[.ref a],[]⟩ [.ref a] [.ref a] _ _ hr e0 (CS s₁ (.ref a)) (.cons rfl .nil) (hV H hS ⟨#[],eT,trivial,λl=>.inl rfl⟩)) λr s' h=>?_
  cases r with
  |error e=>exact(KG H e s' h).elim
  |ok fl=>
   cases fl with
   |next=>exact False.elim h
   |brk=>exact False.elim h
   |cont=>exact False.elim h
   |ret u=>
    obtain⟨v,H',os,bare,un,CU,r',q⟩:=h;have q':v=.bl true:=q;subst q';obtain rfl:u=Value.bool true:=r'
    have kept:∀b o,b≠T->s₁.heap.get? b=some o->s'.heap.get? b=some o:=λb o nb e=>by
     rcases hO b nb with z|⟨ob,xs,z⟩
     .exact un.keep b o e z (by intro z;exact absurd (show b∈([]:List Addr)from z) z01) z01
     .have z2:=un.frzs b ob _ z;obtain⟨e1,_⟩:=hok b _ z;obtain⟨e2,_⟩:=CU b _ z2;rw[e]at e1;cases e1;exact e2
    obtain⟨more,SM⟩:=un.tbls T #[] eT;have Ov:s'.heap.get? T=some (tabObj (#[]++more)):=CU T _ SM;refine⟨rfl,⟨λb o e=>?_,λb o e=>?_⟩,os,bare⟩
    .by_cases z:b=T
     .subst z;rw[hT]at e;cases e;exact .inr (.inl ⟨(hC.tab hT).isCodeTable,rfl,#[],more,rfl,Ov⟩)
     .exact .inl (kept b o z e)
    .by_cases z:b=T
     .rw[z];exact⟨_,Ov⟩
     .exact⟨o,kept b o z e⟩
 cases hk:K.lookup a with
 |some o=>
  have e:=KX a o hk;rw[ha]at e;cases e;refine core (λb=>if b=T then some (.tbl #[])else none) (zAz rfl) (λb nb=>.inl (zAy nb)) (.inr ⟨_,vs.toArray,_,hk,rfl,rfl,rfl,by rw[zA8,KI];exact hl,by simpa using rv⟩) (λb u z=>?_) (λb z=>?_) λz=>absurd (zAy neT) z
  .by_cases eR:b=T
   .have z':=(zAz eR).symm.trans z;cases z';subst eR;exact hT
   .have z':=(zAy eR).symm.trans z;cases z'
  .by_cases eR:b=T
   .exact .inr eR
   .exact absurd (zAy eR) z
 |none=>
  refine core (λb=>if b=T then some (.tbl #[])else if b=a then some (.frz {cls:=.type "list",data:=.seq vs.toArray} (.lst (ns.map V.int)))else none) (zAz rfl) (λb nb=>?_) (.inl (.inr ⟨{cls:=.type "list",data:=.seq vs.toArray},(zAy neT).trans (zAz rfl)⟩)) (λb u z=>?_) (λb z=>?_) λ_=>hk
  .by_cases eR:b=a
   .exact .inr ⟨_,_,(zAy nb).trans (zAz eR)⟩
   .exact .inl ((zAy nb).trans (zAy eR))
  .by_cases mM:b=T
   .have z':=(zAz mM).symm.trans z;cases z';subst mM;exact hT
   .by_cases eR:b=a
    .have z':=((zAy mM).trans (zAz eR)).symm.trans z;cases z';subst eR;exact⟨ha,by rw[zA1];exact hl,vs,_,rv,ha⟩
    .have z':=((zAy mM).trans (zAy eR)).symm.trans z;cases z'
  .by_cases mM:b=T
   .exact .inr mM
   .by_cases eR:b=a
    .exact .inl eR
    .exact absurd ((zAy mM).trans (zAy eR)) z
theorem walk_ofT{l:PySem.W.OpenLaw}{K:Params->Frag}{CX:World->CXT}{sp:World->Sp}{x nm qn:Str}{c T:Addr}
  (hn:l.most=some n) (vx:n<=sizeLine) (qh:d.params.defaults=[]) (hr:Room k callerA)
  (hY:∀w h,YP w h->(K w.params).In h)
  (KL:(recsOf q).find? (λe=>e.name==nm)=some dr) (CL:∀p,tabIn (K p) nm=some (c,T)) (Au:∀p,noTabs (K p)=true)
  (F:∀w mg fa h,(K w.params).In h->h.Ns mainGlobals mg->mg d.name=some (.ref fa)->
   ∃fd,(∀s u,BindsTo s fd ⟨[u],[]⟩ [(x,u)]) /\
    ∀base,(K w.params).In base->base.Ns mainGlobals mg->CodeHd base c T->base.BuiltinsAt mg T->FnOk l.prog w (K w.params) mg base (CX w) k fa fd [x] (sp w))
  (hV:∀w H a (ns:UV),ns.length<=n->SqL (K w.params) H a (ns.map V.int)->TabOk H T qn->sp w [.ref a] H (λv _=>v=.bl true) λ_ _ _=>False)
  (KG:∀w H s e s',CX w [] H s (λ_ _ _=>False) e s'->False):
  PySem.W.WalkO q loose XP YP l.row.toRowW d [] (λf vs=>PySem.call f vs):=by
 refine Att.attach_call hn qh λw s₀ s₁ mg mb fa o pm cd doc a vs ns G Y ho hd eB hmg vk hints hlen hg=>?_;have KX:=hY w _ Y;obtain⟨fd,hb,hF⟩:=F w mg fa _ KX G.T.g hmg;obtain⟨hC,hT⟩:=tab_of G.T KX KL (CL w.params);exact Br KX G.T.g G.T.b G.T.builtins G.T.nolimit hg hC hT (Au w.params) G.T.bmain vk hints (Zah hlen vx) hr hF hb (λH hS SN=>hV w H a ns hlen hS SN) λH e s'=>KG w H s₁ e s'
end L2
namespace L2.Z3
open PySem PySem.Spec PyProof.Rows PySem.Calls
theorem tc3(a b c:Value):checkTypeCall "zip" ⟨[a,b,c],[]⟩=pure ():=by kernel_rfl
theorem nc3(a b c:Value):checkBuiltinCall "zip.__new__" ⟨[.type "zip",a,b,c],[]⟩=pure ():=by kernel_rfl
theorem oi4(a b c d:Value):argsOk "object.__init__" ⟨[a,b,c,d],[]⟩:=by rfl
theorem K1:typeLookup (.type "zip") "__len__"=pure none:=by rw[typeLookup_type];kernel_rfl
theorem Hh:typeLookup (.type "zip") "__length_hint__"=pure none:=by rw[typeLookup_type];kernel_rfl
abbrev IsZ(h:Heap)(z TI TO:Addr)(f0 f1:Value):Prop:=h.get? z=some {cls:=.type "zip",dict:=none,data:=.fields #[f0,f1,.bool false,.ref TI,.ref TO],slots:=#[]}
abbrev iT(h:Heap)(T:Addr)(a b c:Value):Prop:=h.get? T=some {cls:=.type "tuple",data:=.seq #[a,b,c]}
theorem nn{a b:Nat}(h:a≠b):@Ne Addr a b:=h
structure Apart(l1 l2 l3 i1 i2 i3 TI TO z:Nat):Prop where
 a1:l1<i1
 a2:l2<i1
 a3:l3<i1
 b1:i1<i2
 b2:i2<i3
 b3:i3<TI
 b4:TI<TO
 b5:TO<z
structure St(l1 l2 l3 i1 i2 i3 TI TO z:Nat)(xs ys zs:Array Value)(S:Nat)(i:Nat)(h:Heap):Prop where
 z0:(i=0/\IsZ h z TI TO .none (.bool false))\/∃(a:Nat) (oa:Obj) (f:Bool),IsZ h z TI TO (rawInt a) (.bool f)/\h.get? a=some oa/\z<a/\a≠S
 ti:iT h TI (.ref i1) (.ref i2) (.ref i3)
 to:∃a b c,iT h TO a b c
 p1:h.IsListIter i1 l1 i
 p2:h.IsListIter i2 l2 i
 p3:h.IsListIter i3 l3 i
 q1:h.IsList l1 xs
 q2:h.IsList l2 ys
 q3:h.IsList l3 zs
section
variable{s:Shared}{l1 l2 l3 i1 i2 i3 TI TO z:Nat}
theorem K4(hT:iT s.heap T a b c)
  (h:∀h',h'.get? T=some {cls:=.type "tuple",data:=.seq ((#[a,b,c]:Array Value).setIfInBounds k x)}->Heap.SameBut T s.heap h'->Q () {s with heap:=h'}):
  wpAny (model prog w) A (updateSeq T (·.setIfInBounds k x)) Q E s:=by
 refine wpAny_updateSeq hT rfl (h _ ?_ (Heap.SameBut.update ..));rw[Heap.get?_update_self _ hT rfl];simp[Obj.mapSeq]
theorem Hk{Q:Value->Shared->Prop}(D:Apart l1 l2 l3 i1 i2 i3 TI TO z)(hz:IsZ s.heap z TI TO .none (.bool false))(qv:iT s.heap TI (.ref i1) (.ref i2) (.ref i3))(Fh:iT s.heap TO a b c)
  (h1:s.heap.IsListIter i1 l1 k) (h2:s.heap.IsListIter i2 l2 k) (h3:s.heap.IsListIter i3 l3 k) (q1:s.heap.IsList l1 xs) (q2:s.heap.IsList l2 ys) (q3:s.heap.IsList l3 zs) (hx:xs[k]?=some x) (hy:ys[k]?=some y) (hv:zs[k]?=some v)
  (hQ:∀h',IsZ h' z TI TO (rawInt s.heap.objs.size) (.bool false)->iT h' TO x y v->h'.IsListIter i1 l1 (k+1)->h'.IsListIter i2 l2 (k+1)->h'.IsListIter i3 l3 (k+1)->iT h' s.heap.objs.size x y v->h'.objs.size=s.heap.objs.size+1->
   (∀c o,c≠z->c≠TO->c≠i1->c≠i2->c≠i3->s.heap.get? c=some o->h'.get? c=some o)->Q (.ref s.heap.objs.size) {s with heap:=h'}):
  wpAny (model prog w) A (Builtin.«zip.__next__» ⟨[.ref z],[]⟩) (λfin s'=>∃v,fin=.done (.ret v)/\Q v s') E s:=by
 obtain⟨a1,a2,a3,b1,b2,b3,b4,b5⟩:=D;show wpAny _ _ (field (.ref z) 2>>=_) _ _ _;refine zAt (wpAny_field hz rfl (x:=.bool false) rfl ?_);show wpAny _ _ (field (.ref z) 3>>=_) _ _ _;refine zAt (wpAny_field hz rfl (x:=.ref TI) rfl ?_);refine zAt (wpAny_seqItems qv rfl ?_);refine zAt ?_;unfold Builtin.SmallTypes.ownedTupleIsFree;refine zAt (wpAny_field hz rfl (x:=.none) rfl (zAx ?_));simp only[if_true];refine zAt (wpAny_rule ?_);refine zAt (wpAny_field hz rfl (x:=.ref TO) rfl ?_);refine zAt (wpAny_setField_rec hz z01 λg1 KO s1=>?_)
 replace KO:IsZ g1 z TI TO .ellipsis (.bool false):=KO
 refine zAt ?_;simp only[List.zipIdx_cons,List.zipIdx_nil,List.forIn_cons,List.forIn_nil];refine zAt (zAt (wpAny_onRaise ?_));show wpAny _ _ (Builtin.SmallTypes.nextOf (.ref i1)>>=_) _ _ _;refine zAt (wpAny_nextOf_list_item (h1.extBut s1.extBut (nn z00)) (q1.extBut s1.extBut (nn z00)) hx λg2 p1 s2=>zAx ?_);have t2:iT g2 TO a b c:=s2.extBut _ _ (nn z00) (s1.extBut _ _ (nn z00) Fh);refine zAt (wpAny_seqItems t2 rfl ?_);refine zAt (K4 t2 λg3 t3 s3=>?_)
 replace t3:iT g3 TO x b c:=t3
 refine zAt (wpAny_letGo (zAx ?_));have k3:∀d o,d≠z->d≠TO->d≠i1->s.heap.get? d=some o->g3.get? d=some o:=λd o n1 n2 n3 e=>s3.extBut _ _ n2 (s2.extBut _ _ n3 (s1.extBut _ _ n1 e));refine zAt (zAt (wpAny_onRaise ?_));show wpAny _ _ (Builtin.SmallTypes.nextOf (.ref i2)>>=_) _ _ _;refine zAt (wpAny_nextOf_list_item (h2.at λo e=>k3 _ o (nn z00) (nn z00) (nn z00) e) (q2.at λo e=>k3 _ o (nn z00) (nn z00) (nn z00) e) hy λg4 p2 s4=>zAx ?_);have t4:iT g4 TO x b c:=s4.extBut _ _ (nn z00) t3;refine zAt (wpAny_seqItems t4 rfl ?_);refine zAt (K4 t4 λg5 t5 s5=>?_)
 replace t5:iT g5 TO x y c:=t5
 refine zAt (wpAny_letGo (zAx ?_));have k5:∀d o,d≠TO->d≠i2->g3.get? d=some o->g5.get? d=some o:=λd o n1 n2 e=>s5.extBut _ _ n1 (s4.extBut _ _ n2 e);refine zAt (zAt (wpAny_onRaise ?_));show wpAny _ _ (Builtin.SmallTypes.nextOf (.ref i3)>>=_) _ _ _;refine zAt (wpAny_nextOf_list_item (h3.at λo e=>k5 _ o (nn z00) (nn z00) (k3 _ o (nn z00) (nn z00) (nn z00) e)) (q3.at λo e=>k5 _ o (nn z00) (nn z00) (k3 _ o (nn z00) (nn z00) (nn z00) e)) hv λg6 p3 s6=>zAx ?_);have t6:iT g6 TO x y c:=s6.extBut _ _ (nn z00) t5;refine zAt (wpAny_seqItems t6 rfl ?_);refine zAt (K4 t6 λg7 t7 s7=>?_)
 replace t7:iT g7 TO x y v:=t7
 refine zAt (wpAny_letGo (zAx (zAx ?_)));have k7:∀d o,d≠TO->d≠i3->g5.get? d=some o->g7.get? d=some o:=λd o n1 n2 e=>s7.extBut _ _ n1 (s6.extBut _ _ n2 e);refine zAt (wpAny_seqItems t7 rfl ?_);refine zAt (wpAny_newTuple ?_);have hsz:g7.objs.size=s.heap.objs.size:=by rw[s7.1,s6.1,s5.1,s4.1,s3.1,s2.1,s1.1]
 have z7:IsZ g7 z TI TO .ellipsis (.bool false):=k7 _ _ (nn z00) (nn z00) (k5 _ _ (nn z00) (nn z00) (s3.extBut _ _ (nn z00) (s2.extBut _ _ (nn z00) KO)));have zl:z<g7.objs.size:=zB0 z7;refine zAt ?_;unfold Builtin.SmallTypes.ownedTupleHandOut;have z8:IsZ (g7.push {cls:=.type "tuple",data:=.seq #[x,y,v]}) z TI TO .ellipsis (.bool false):=zAv _ z7;refine zAt (wpAny_setField_rec z8 z01 λg9 z9 s9=>?_)
 replace z9:IsZ g9 z TI TO (rawInt g7.objs.size) (.bool false):=z9
 refine wpAny_setField_rec z9 z01 λh8 z10 kU=>?_
 replace z10:IsZ h8 z TI TO (rawInt g7.objs.size) (.bool false):=z10
 have up:∀d o,d≠z->g7.get? d=some o->h8.get? d=some o:=λd o n e=>kU.extBut _ _ n (s9.extBut _ _ n (zAv _ e));have tn:iT h8 g7.objs.size x y v:=kU.extBut _ _ (Zar zl) (s9.extBut _ _ (Zar zl) (zB1 _ rfl));have CY:h8.objs.size=g7.objs.size+1:=by rw[kU.1,s9.1,Heap.size_push]
 rw[hsz]at z10 tn CY;refine zAx ⟨_,rfl,?_⟩;show Q (.ref g7.objs.size) _;rw[hsz];refine hQ h8 z10 (up _ _ (nn z00) t7) (p1.at λo e=>up _ o (nn z00) (k7 _ _ (nn z00) (nn z00) (k5 _ _ (nn z00) (nn z00) (s3.extBut _ _ (nn z00) e)))) (p2.at λo e=>up _ o (nn z00) (k7 _ _ (nn z00) (nn z00) (s5.extBut _ _ (nn z00) e))) (p3.at λo e=>up _ o (nn z00) (s7.extBut _ _ (nn z00) e)) tn CY λd o n1 n2 n3 n4 n5 e=>up d o n1 (k7 _ _ n2 n5 (k5 _ _ n2 n4 (k3 _ _ n1 n2 n3 e)))
theorem yZ{a:Nat}(hz:IsZ s.heap z TI TO (rawInt a) (.bool f))(ha:s.heap.get? a=some oa):
  wpAny (model prog w) A (Builtin.SmallTypes.ownedTupleIsFree (.ref z)) (λb s'=>b=false/\∃g0,s'={s with heap:=g0}/\IsZ g0 z TI TO (rawInt a) (.bool true)/\Heap.SameBut z s.heap g0) E s:=by
 refine zAt (wpAny_field hz rfl (x:=rawInt a) rfl ?_);refine zAt (PySem.W.kdx_alive ha ?_);refine zAt (wpAny_field hz rfl (x:=.bool f) rfl ?_)
 cases f with
 |true=>
  exact zAx ⟨rfl,s.heap,rfl,hz,Heap.SameBut.refl _ _⟩
 |false=>
  exact zAt (wpAny_setField_rec hz z01 λg0 z0 s0=>zAx ⟨rfl,g0,rfl,z0,s0⟩)
theorem K6{a:Nat}{Q:Value->Shared->Prop}(D:Apart l1 l2 l3 i1 i2 i3 TI TO z)(hz:IsZ s.heap z TI TO (rawInt a) (.bool f))(ha:s.heap.get? a=some oa)(Yz:z<a)(qv:iT s.heap TI (.ref i1) (.ref i2) (.ref i3))
  (h1:s.heap.IsListIter i1 l1 k) (h2:s.heap.IsListIter i2 l2 k) (h3:s.heap.IsListIter i3 l3 k) (q1:s.heap.IsList l1 xs) (q2:s.heap.IsList l2 ys) (q3:s.heap.IsList l3 zs) (hx:xs[k]?=some x) (hy:ys[k]?=some y) (hv:zs[k]?=some v)
  (hQ:∀h',IsZ h' z TI TO (rawInt a) (.bool true)->h'.IsListIter i1 l1 (k+1)->h'.IsListIter i2 l2 (k+1)->h'.IsListIter i3 l3 (k+1)->iT h' s.heap.objs.size x y v->h'.objs.size=s.heap.objs.size+1->
   (∀c o,c≠z->c≠i1->c≠i2->c≠i3->s.heap.get? c=some o->h'.get? c=some o)->Q (.ref s.heap.objs.size) {s with heap:=h'}):
  wpAny (model prog w) A (Builtin.«zip.__next__» ⟨[.ref z],[]⟩) (λfin s'=>∃v,fin=.done (.ret v)/\Q v s') E s:=by
 obtain⟨a1,a2,a3,b1,b2,b3,b4,b5⟩:=D;show wpAny _ _ (field (.ref z) 2>>=_) _ _ _;refine zAt (wpAny_field hz rfl (x:=.bool false) rfl ?_);show wpAny _ _ (field (.ref z) 3>>=_) _ _ _;refine zAt (wpAny_field hz rfl (x:=.ref TI) rfl ?_);refine zAt (wpAny_seqItems qv rfl ?_);refine zAt (wpAny_mono (yZ hz ha) (λb s' h=>?_) λ_ _ x=>x);obtain⟨rfl,g0,rfl,z0,s0⟩:=h;refine zAt (zAt (zAt (wpAny_holding ?_)));refine zAt (wpAny_nextOf_list_item (h1.extBut s0.extBut (nn z00)) (q1.extBut s0.extBut (nn z00)) hx λg1 p1 s1=>zAx ?_);refine zAx ?_;have k1:∀d o,d≠z->d≠i1->s.heap.get? d=some o->g1.get? d=some o:=λd o n1 n2 e=>s1.extBut _ _ n2 (s0.extBut _ _ n1 e);refine zAt (zAt (wpAny_holding ?_));show wpAny _ _ (Builtin.SmallTypes.nextOf (.ref i2)>>=_) _ _ _;refine zAt (wpAny_nextOf_list_item (h2.at λo e=>k1 _ o (nn z00) (nn z00) e) (q2.at λo e=>k1 _ o (nn z00) (nn z00) e) hy λg2 p2 s2=>zAx ?_);refine zAx ?_;have k2:∀d o,d≠z->d≠i1->d≠i2->s.heap.get? d=some o->g2.get? d=some o:=λd o n1 n2 n3 e=>s2.extBut _ _ n3 (k1 _ _ n1 n2 e);refine zAt (zAt (wpAny_holding ?_));show wpAny _ _ (Builtin.SmallTypes.nextOf (.ref i3)>>=_) _ _ _;refine zAt (wpAny_nextOf_list_item (h3.at λo e=>k2 _ o (nn z00) (nn z00) (nn z00) e) (q3.at λo e=>k2 _ o (nn z00) (nn z00) (nn z00) e) hv λg3 p3 s3=>zAx ?_);refine zAx (zAx ?_);have k3:∀d o,d≠z->d≠i1->d≠i2->d≠i3->s.heap.get? d=some o->g3.get? d=some o:=λd o n1 n2 n3 n4 e=>s3.extBut _ _ n4 (k2 _ _ n1 n2 n3 e);refine zAt (wpAny_newTuple (hsz:=by show 3<=sizeLine;decide) ?_);have hsz:g3.objs.size=s.heap.objs.size:=by rw[s3.1,s2.1,s1.1,s0.1]
 have z3:IsZ g3 z TI TO (rawInt a) (.bool true):=s3.extBut _ _ (nn z00) (s2.extBut _ _ (nn z00) (s1.extBut _ _ (nn z00) z0));have tn:iT (g3.push {cls:=.type "tuple",data:=.seq #[x,y,v]}) g3.objs.size x y v:=zB1 _ rfl;have CY:(g3.push {cls:=.type "tuple",data:=.seq #[x,y,v]}).objs.size=g3.objs.size+1:=Heap.size_push ..;rw[hsz]at tn CY;refine zAx ⟨_,rfl,?_⟩;show Q (.ref g3.objs.size) _;rw[hsz];exact hQ _ (zAv _ z3) (p1.at λo e=>zAv _ (s3.extBut _ _ (nn z00) (s2.extBut _ _ (nn z00) e))) (p2.at λo e=>zAv _ (s3.extBut _ _ (nn z00) e)) (p3.at λo e=>zAv _ e) tn CY λd o n1 n2 n3 n4 e=>zAv _ (k3 _ _ n1 n2 n3 n4 e)
theorem K7{a:Nat}(hh:A.handled=none)(D:Apart l1 l2 l3 i1 i2 i3 TI TO z)(hz:IsZ s.heap z TI TO (rawInt a) (.bool f))(ha:s.heap.get? a=some oa)(qv:iT s.heap TI (.ref i1) (.ref i2) (.ref i3))
  (h1:s.heap.IsListIter i1 l1 k) (q1:s.heap.IsList l1 xs) (hx:xs[k]?=none)
  (hE:∀h' e,(∀c o,c≠z->c≠i1->s.heap.get? c=some o->h'.get? c=some o)->(∃o,h'.get? e=some o/\o.cls=.type "StopIteration")->E (.ref e) {s with heap:=h'}):
  wpAny (model prog w) A (Builtin.«zip.__next__» ⟨[.ref z],[]⟩) Q E s:=by
 obtain⟨a1,a2,a3,b1,b2,b3,b4,b5⟩:=D;show wpAny _ _ (field (.ref z) 2>>=_) _ _ _;refine zAt (wpAny_field hz rfl (x:=.bool false) rfl ?_);refine zAt (wpAny_field hz rfl (x:=.ref TI) rfl ?_);refine zAt (wpAny_seqItems qv rfl ?_);refine zAt (wpAny_mono (yZ hz ha) (λb s' h=>?_) λ_ _ x=>x);obtain⟨rfl,g0,rfl,z0,s0⟩:=h;refine zAt (zAt (zAt (wpAny_holding ?_)));refine zAt (wpAny_nextOf_list_end hh (h1.extBut s0.extBut (nn z00)) (q1.extBut s0.extBut (nn z00)) hx λg1 e s1 he=>hE g1 e (λd o n1 n2 x=>s1 _ _ n2 (s0.extBut _ _ n1 x)) he)
theorem St.keep(x:St l1 l2 l3 i1 i2 i3 TI TO z xs ys zs S i h)(D:Apart l1 l2 l3 i1 i2 i3 TI TO z)(hS:z<S)(hk:∀b o,b≠S->h.get? b=some o->h'.get? b=some o):St l1 l2 l3 i1 i2 i3 TI TO z xs ys zs S i h':=by
 obtain⟨a1,a2,a3,b1,b2,b3,b4,b5⟩:=D;obtain⟨z0,ti,⟨a,b,c,to⟩,p1,p2,p3,q1,q2,q3⟩:=x;refine⟨?_,hk _ _ (nn z00) ti,⟨a,b,c,hk _ _ (nn z00) to⟩,p1.at λo e=>hk _ o (nn z00) e,p2.at λo e=>hk _ o (nn z00) e,p3.at λo e=>hk _ o (nn z00) e,q1.at λo e=>hk _ o (nn z00) e,q2.at λo e=>hk _ o (nn z00) e,q3.at λo e=>hk _ o (nn z00) e⟩;rcases z0 with⟨e,hz⟩|⟨a,oa,f,hz,ha,h1,h2⟩
 .exact .inl ⟨e,hk _ _ (nn z00) hz⟩
 .exact .inr ⟨a,oa,f,hk _ _ (nn z00) hz,hk _ _ h2 ha,h1,h2⟩
theorem item{S:Nat}{i:Nat}(D:Apart l1 l2 l3 i1 i2 i3 TI TO z)(st:St l1 l2 l3 i1 i2 i3 TI TO z xs ys zs S i s.heap)(hS:S<s.heap.objs.size)(hx:xs[i]?=some x)(hy:ys[i]?=some y)(hv:zs[i]?=some v)
  (hQ:∀h',St l1 l2 l3 i1 i2 i3 TI TO z xs ys zs S (i+1) h'->iT h' s.heap.objs.size x y v->h'.objs.size=s.heap.objs.size+1->(∀c o,c≠z->c≠TO->c≠i1->c≠i2->c≠i3->s.heap.get? c=some o->h'.get? c=some o)->Q (some (.ref s.heap.objs.size)) {s with heap:=h'}):
  wpAny (model prog w) A (pyNext (.ref z)) Q E s:=by
 obtain⟨a1,a2,a3,b1,b2,b3,b4,b5⟩:=id D;obtain⟨z0,ti,⟨a,b,c,to⟩,p1,p2,p3,q1,q2,q3⟩:=st
 have zl:z<s.heap.objs.size:=by
  rcases z0 with⟨_,hz⟩|⟨_,_,_,hz,_⟩<;>exact zB0 hz
 have hT:s.TypeIs (.ref z) "zip":=by
  rcases z0 with⟨_,hz⟩|⟨_,_,_,hz,_⟩<;>exact⟨_,hz,rfl⟩
 refine zAt (wpAny_attempt (wpAny_callSpecial?_slot (name:=Str.ofString "__next__") hT F.slot_zip_next (wpAny_call_entry F.slot_zip_next hT F.entry_zip_next ?_ (F.args_zip_next_1 _))));rcases z0 with⟨rfl,hz⟩|⟨a',oa,f,hz,ha,h1,h2⟩
 .refine Hk D hz ti to p1 p2 p3 q1 q2 q3 hx hy hv λh' e1 e2 e3 e4 e5 e6 e7 k=>zAx (hQ h' ⟨.inr ⟨_,_,_,e1,e6,zl,nn z00⟩,k _ _ (nn z00) (nn z00) (nn z00) (nn z00) (nn z00) ti,⟨_,_,_,e2⟩,e3,e4,e5,q1.at λo e=>k _ o (nn z00) (nn z00) (nn z00) (nn z00) (nn z00) e,q2.at λo e=>k _ o (nn z00) (nn z00) (nn z00) (nn z00) (nn z00) e,q3.at λo e=>k _ o (nn z00) (nn z00) (nn z00) (nn z00) (nn z00) e⟩ e6 e7 k)
 .refine K6 D hz ha h1 ti p1 p2 p3 q1 q2 q3 hx hy hv λh' e1 e3 e4 e5 e6 e7 k=>zAx (hQ h' ⟨.inr ⟨a',oa,true,e1,k _ _ (nn z00) (nn z00) (nn z00) (nn z00) ha,h1,h2⟩,k _ _ (nn z00) (nn z00) (nn z00) (nn z00) ti,⟨_,_,_,k _ _ (nn z00) (nn z00) (nn z00) (nn z00) to⟩,e3,e4,e5,q1.at λo e=>k _ o (nn z00) (nn z00) (nn z00) (nn z00) e,q2.at λo e=>k _ o (nn z00) (nn z00) (nn z00) (nn z00) e,q3.at λo e=>k _ o (nn z00) (nn z00) (nn z00) (nn z00) e⟩ e6 e7 λc o n1 _ n3 n4 n5 e=>k c o n1 n3 n4 n5 e)
theorem done(hh:A.handled=none)(D:Apart l1 l2 l3 i1 i2 i3 TI TO z)(st:St l1 l2 l3 i1 i2 i3 TI TO z xs ys zs S i s.heap)(hi:i≠0)(hx:xs[i]?=none)
  (hQ:∀h',(∀c o,c≠z->c≠i1->s.heap.get? c=some o->h'.get? c=some o)->Q none {s with heap:=h'}):wpAny (model prog w) A (pyNext (.ref z)) Q E s:=by
 obtain⟨z0,ti,⟨a,b,c,to⟩,p1,p2,p3,q1,q2,q3⟩:=st;rcases z0 with⟨e,_⟩|⟨a',oa,f,hz,ha,h1,h2⟩
 .exact absurd e hi
 have hT:s.TypeIs (.ref z) "zip":=⟨_,hz,rfl⟩
 refine zAt (wpAny_attempt (wpAny_callSpecial?_slot (name:=Str.ofString "__next__") hT F.slot_zip_next (wpAny_call_entry F.slot_zip_next hT F.entry_zip_next (K7 hh D hz ha ti p1 q1 hx λh' e hk he=>?_) (F.args_zip_next_1 _))));obtain⟨o,ho,hc⟩:=he;exact zAt (wpAny_isInstance (T:="StopIteration") (b:=true) ⟨o,ho,hc⟩ isSubtype_stop (zAx (hQ _ hk)))
structure Gd(xs ys zs:Array Value)(lo:Nat)(h:Heap)(as:List Nat):Prop where
 rise:as.Pairwise (· < ·)
 above:∀a∈as,lo<a
 rows:∀(j:Nat) a,as[j]?=some a->∃x y v,xs[j]?=some x/\ys[j]?=some y/\zs[j]?=some v/\iT h a x y v
end
section
variable{s:Shared}{l1 l2 l3 i1 i2 i3 TI TO z:Nat}
theorem loop(hh:A.handled=none)(D:Apart l1 l2 l3 i1 i2 i3 TI TO z)(wq:z<S)(nx:xs.size=n)(ny:ys.size=n)(nz:zs.size=n)(n0:0<n)(hn:n<=sizeLine)(res:Value){h₁:Heap}
  (hR:∀h' tk acc c as,(∀b o,b≠S->b≠z->b≠TO->b≠i1->b≠i2->b≠i3->h₁.get? b=some o->h'.get? b=some o)->h'.get? S=some {cls:=.type "list",dict:=none,data:=.seq acc c,slots:=#[]}->as.length=n->Gd xs ys zs S h' as->
   acc.toList=as.map Value.ref->R (.ok (.ret res)) {s with heap:=h',toks:=tk}):
  ∀k i h tk c acc as,n-i=k->i<=n->St l1 l2 l3 i1 i2 i3 TI TO z xs ys zs S i h->(∀b o,b≠S->b≠z->b≠TO->b≠i1->b≠i2->b≠i3->h₁.get? b=some o->h.get? b=some o)->
   h.get? S=some {cls:=.type "list",dict:=none,data:=.seq acc c,slots:=#[]}->acc.toList=as.map Value.ref->as.length=i->Gd xs ys zs S h as->
   codeAny (model prog w) A (.builtin "list.extend.loop" ⟨[.ref S,.ref z,res],[]⟩) R {s with heap:=h,toks:=tk}:=by
 obtain⟨a1,a2,a3,b1,b2,b3,b4,b5⟩:=id D;intro k
 induction k with
 |zero=>
  intro i h tk c acc as hk hi st mP hS dE wt hG;refine codeAny_builtin PySem.F.entry_extend_loop ?_;show wpAny _ A.in1 (pyNext (.ref z)>>=_) _ _ _;refine zAt (done (s:={s with heap:=h,toks:=tk}) (A:=A.in1) hh D st z00 (Array.getElem?_eq_none z00) λh' he=>?_);refine zAx (hR h' tk acc c as (λb o n1 n2 n3 n4 n5 n6 e=>he b o n2 n4 (mP b o n1 n2 n3 n4 n5 n6 e)) (he S _ (nn z00) (nn z00) hS) z00 ⟨hG.rise,hG.above,λj a hj=>?_⟩ dE);obtain⟨x,y,v,e1,e2,e3,e4⟩:=hG.rows j a hj;have:=hG.above a (zB6 hj);exact⟨x,y,v,e1,e2,e3,he a _ (nn z00) (nn z00) e4⟩
 |succ k ih=>
  intro i h tk c acc as hk hi st mP hS dE wt hG;have ay:i<n:=z00
  obtain⟨x,hx⟩:∃x,xs[i]?=some x:=⟨xs[i],Zam z00⟩
  obtain⟨y,hy⟩:∃x,ys[i]?=some x:=⟨ys[i],Zam z00⟩
  obtain⟨v,hv⟩:∃x,zs[i]?=some x:=⟨zs[i],Zam z00⟩
  have hsz:acc.size=i:=by rw[<-zA9,dE,zA1,wt]
  have Ow:S<h.objs.size:=zB0 hS;refine codeAny_builtin PySem.F.entry_extend_loop ?_;rw[Around.under_plainId PySem.F.plain_extend_loop _];show wpAny _ A.in1 (pyNext (.ref z)>>=_) _ _ _;refine zAt (item (s:={s with heap:=h,toks:=tk}) D st Ow hx hy hv λh' z07 ht hz FG=>?_);dsimp only at ht hz FG⊢;have AB:=FG S _ (nn z00) (nn z00) (nn z00) (nn z00) (nn z00) hS;have up:∀b o,b≠S->h'.get? b=some o->(h'.update S (Obj.mapSeq (·.push (Value.ref h.objs.size)))).get? b=some o:=λb o hb e=>(Heap.get?_update_other _ _ (Ne.symm hb)).trans e;refine zAt ?_
  refine wpAny_updateSeq AB rfl (zAx ⟨plainId_quiet PySem.F.plain_extend_loop _,ih (i+1) _ tk _ (acc.push (Value.ref h.objs.size)) (as++[h.objs.size]) z00 ay (z07.keep D wq up)
   (λb o n1 n2 n3 n4 n5 n6 e=>up b o n1 (FG b o n2 n3 n4 n5 n6 (mP b o n1 n2 n3 n4 n5 n6 e))) (Heap.get?_update_self _ AB rfl) (by rw[Array.toList_push,dE,zA4];rfl) (by rw[zA2,wt];rfl) ⟨?_,?_,?_⟩⟩) (by rw[hsz];lia) (by grind)
  .refine List.pairwise_append.mpr ⟨hG.rise,List.pairwise_singleton _ _,λa ha b hb=>?_⟩;rw[Zad.mp hb];obtain⟨j,hj⟩:=List.mem_iff_getElem?.mp ha;obtain⟨_,_,_,_,_,_,e⟩:=hG.rows j a hj;exact zB0 e
  .intro a ha;rcases zA6.mp ha with ha|ha
   .exact hG.above a ha
   .rw[Zad.mp ha];exact Ow
  .intro j b hj;rcases Nat.lt_trichotomy j as.length with h1|h1|h1
   .rw[zBa h1]at hj;obtain⟨x',y',v',e1,e2,e3,e4⟩:=hG.rows j b hj;have hb:=hG.above b (zB6 hj);exact⟨x',y',v',e1,e2,e3,up b _ (nn z00) (FG b _ (nn z00) (nn z00) (nn z00) (nn z00) (nn z00) e4)⟩
   .subst h1;have hb:h.objs.size=b:=by simpa using hj
    subst hb;exact⟨x,y,v,by rw[wt];exact hx,by rw[wt];exact hy,by rw[wt];exact hv,up _ _ (nn z00) ht⟩
   .have Dx:(as++[h.objs.size])[j]?=none:=Zay (by rw[zA2,List.length_singleton];lia);rw[Dx]at hj;cases hj
end
end L2.Z3
namespace L2
open PySem PyProof.Rows HT
theorem xW:bootBuiltins "list"=some (.type "list"):=by decide +kernel
section
end
end L2
namespace L2.Z3
open PySem PySem.Spec PyProof.Rows PySem.Calls
abbrev g1(h:Heap)(l:Addr):Heap:=h.push {cls:=.type "list_iterator",data:=.fields #[.ref l,.int 0 0]}
abbrev g3(h:Heap)(l1 l2 l3:Addr):Heap:=g1 (g1 (g1 h l1) l2) l3
abbrev g4(h:Heap)(l1 l2 l3:Addr):Heap:=(g3 h l1 l2 l3).push {cls:=.type "tuple",data:=.seq #[.ref h.objs.size,.ref (g1 h l1).objs.size,.ref (g1 (g1 h l1) l2).objs.size]}
abbrev g5(h:Heap)(l1 l2 l3:Addr):Heap:=(g4 h l1 l2 l3).push {cls:=.type "tuple",data:=.seq #[.none,.none,.none]}
abbrev g6(h:Heap)(l1 l2 l3:Addr):Heap:=(g5 h l1 l2 l3).push {cls:=.type "zip",data:=.fields #[.none,.bool false,.bool false,.ref (g3 h l1 l2 l3).objs.size,.ref (g4 h l1 l2 l3).objs.size]}
theorem K8(l1 l2 l3:Addr)(xs ys zs:Array Value):
  Meets (Builtin.«zip.__new__» ⟨[.type "zip",.ref l1,.ref l2,.ref l3],[]⟩) (λ_ R s=>s.heap.IsList l1 xs/\s.heap.IsList l2 ys/\s.heap.IsList l3 zs/\R (.ok (.ret (.ref (g5 s.heap l1 l2 l3).objs.size))) {s with heap:=g6 s.heap l1 l2 l3}):=
 .of_wp λprog w A R s h=>by
  obtain⟨hp,g,d,tk,os⟩:=s;obtain⟨bX,cx,DA,h⟩:=h;have B7:=sub_zip;have mS:Heap.IsList (Shared.heap ⟨hp,g,d,tk,os⟩) l1 xs:=bX;have FH:Heap.IsList (Shared.heap ⟨g1 hp l1,g,d,tk,os⟩) l2 ys:=Heap.IsList.push cx _;have FI:Heap.IsList (Shared.heap ⟨g1 (g1 hp l1) l2,g,d,tk,os⟩) l3 zs:=Heap.IsList.push (Heap.IsList.push DA _) _
  wp_walk using wpAny_pyIter_list mS,wpAny_pyIter_list FH,wpAny_pyIter_list FI
  exact⟨_,rfl,h⟩
section
theorem Mp{l1 l2 l3:Nat}(bX:s.heap.IsList l1 xs)(cx:s.heap.IsList l2 ys)(DA:s.heap.IsList l3 zs)
  (h:∀h',Apart l1 l2 l3 s.heap.objs.size (s.heap.objs.size+1) (s.heap.objs.size+2) (s.heap.objs.size+3) (s.heap.objs.size+4) (s.heap.objs.size+5)->(∀S,s.heap.objs.size+5<S->St l1 l2 l3 s.heap.objs.size (s.heap.objs.size+1) (s.heap.objs.size+2) (s.heap.objs.size+3) (s.heap.objs.size+4) (s.heap.objs.size+5) xs ys zs S 0 h')->
   h'.objs.size=s.heap.objs.size+6->(∀c o,s.heap.get? c=some o->h'.get? c=some o)->Q (.ref (s.heap.objs.size+5)) {s with heap:=h'}):
  wpAny (model prog w) A (call (.type "zip") [.ref l1,.ref l2,.ref l3]) Q E s:=by
 refine callType_new F.called_zip z02 (tc3 _ _ _) (nc3 _ _ _) (λobj=>oi4 obj _ _ _) F.entry_zip_new (K8 l1 l2 l3 xs ys zs) ⟨bX,cx,DA,?_⟩
 have lt:∀{l:Addr} {zs:Array Value},s.heap.IsList l zs->l<s.heap.objs.size:=λh=>by obtain⟨_,e,_⟩:=h;exact zB0 e
 have z1:(g1 s.heap l1).objs.size=s.heap.objs.size+1:=Heap.size_push ..;have z2:(g1 (g1 s.heap l1) l2).objs.size=s.heap.objs.size+2:=by rw[Heap.size_push,z1]
 have z3:(g3 s.heap l1 l2 l3).objs.size=s.heap.objs.size+3:=by rw[Heap.size_push,z2]
 have z4:(g4 s.heap l1 l2 l3).objs.size=s.heap.objs.size+4:=by rw[Heap.size_push,z3]
 have z5:(g5 s.heap l1 l2 l3).objs.size=s.heap.objs.size+5:=by rw[Heap.size_push,z4]
 have z6:(g6 s.heap l1 l2 l3).objs.size=s.heap.objs.size+6:=by rw[Heap.size_push,z5]
 have e6:(g6 s.heap l1 l2 l3).get? (g5 s.heap l1 l2 l3).objs.size=some _:=zB1 _ rfl;have e5:(g6 s.heap l1 l2 l3).get? (g4 s.heap l1 l2 l3).objs.size=some _:=zAv _ (zB1 _ rfl);have e4:(g6 s.heap l1 l2 l3).get? (g3 s.heap l1 l2 l3).objs.size=some _:=zAv _ (zAv _ (zB1 _ rfl));have k3:∀b o,(g3 s.heap l1 l2 l3).get? b=some o->(g6 s.heap l1 l2 l3).get? b=some o:=λb o e=>zAv _ (zAv _ (zAv _ e));have e3:(g6 s.heap l1 l2 l3).get? (g1 (g1 s.heap l1) l2).objs.size=some _:=k3 _ _ (zB1 _ rfl);have e2:(g6 s.heap l1 l2 l3).get? (g1 s.heap l1).objs.size=some _:=k3 _ _ (zAv _ (zB1 _ rfl));have e1:(g6 s.heap l1 l2 l3).get? s.heap.objs.size=some _:=k3 _ _ (zAv _ (zAv _ (zB1 _ rfl)));have kp:∀c o,s.heap.get? c=some o->(g6 s.heap l1 l2 l3).get? c=some o:=λc o x=>k3 _ _ (zAv _ (zAv _ (zAv _ x)));show _/\_;rw[z3,z4,z5]at e6;rw[z4]at e5;rw[z1,z2,z3]at e4;rw[z2]at e3;rw[z1]at e2;rw[z5];have n1:l1<s.heap.objs.size:=lt bX;have n2:l2<s.heap.objs.size:=lt cx;have n3:l3<s.heap.objs.size:=lt DA;exact⟨⟨_,e6,rfl⟩,h _ ⟨n1,n2,n3,z00,z00,z00,z00,z00⟩ (λS _=>⟨.inl ⟨rfl,e6⟩,e4,⟨_,_,_,e5⟩,⟨_,e1,rfl,rfl⟩,⟨_,e2,rfl,rfl⟩,⟨_,e3,rfl,rfl⟩,bX.at λo e=>kp _ o e,cx.at λo e=>kp _ o e,DA.at λo e=>kp _ o e⟩) z6 kp⟩
end
section
variable{l1 l2 l3 i1 i2 i3 TI TO z:Nat}
theorem ext(hh:A.handled=none)(D:Apart l1 l2 l3 i1 i2 i3 TI TO z)(wq:z<S)(nx:xs.size=n)(ny:ys.size=n)(nz:zs.size=n)(n0:0<n)(hn:n<=sizeLine)(res:Value)(c₀:Nat)
  (st:St l1 l2 l3 i1 i2 i3 TI TO z xs ys zs S 0 s.heap) (hS:s.heap.get? S=some {cls:=.type "list",data:=.seq #[] c₀})
  (hR:∀h' tk acc c as,(∀b o,b≠S->b≠z->b≠TO->b≠i1->b≠i2->b≠i3->s.heap.get? b=some o->h'.get? b=some o)->h'.get? S=some {cls:=.type "list",dict:=none,data:=.seq acc c,slots:=#[]}->as.length=n->Gd xs ys zs S h' as->
   acc.toList=as.map Value.ref->R (.ok (.ret res)) {s with heap:=h',toks:=tk}):
  wpAny (model prog w) A.in1 (Builtin.List.listExtendWith (.ref S) (.ref z) res)
   (λfin s'=>match fin with|.done f=>R (.ok f) s'|.again c'=>c'.quiet=true/\codeAny (model prog w) A c' R s') (λe s'=>R (.error e) s') s:=by
 have hz:IsZ s.heap z TI TO .none (.bool false)\/∃a f,IsZ s.heap z TI TO (rawInt a) (.bool f):=by
  rcases st.z0 with⟨_,e⟩|⟨a,_,f,e,_⟩
  .exact .inl e
  .exact .inr ⟨a,f,e⟩
 have hT:s.TypeIs (.ref z) "zip":=by
  rcases hz with e|⟨_,_,e⟩<;>exact⟨_,e,rfl⟩
 unfold Builtin.List.listExtendWith;refine zAt (wpAny_typeOf hT ?_)
 have h1:Builtin.List.listSameRef (.ref S) (.ref z)=false:=by
  have:(S:Addr)≠z:=nn z00;simp[Builtin.List.listSameRef,this]
 have h2:(Value.type "zip"==Value.type "list")=false:=by decide
 have h3:(Value.type "zip"==Value.type "tuple")=false:=by decide
 simp only[h1,h2,h3,Bool.or_false,Bool.false_eq_true,if_false]
 have hit:∀{Q:Value->Shared->Prop} {E:Value->Shared->Prop},Q (.ref z) s->wpAny (model prog w) A.in1 (pyIter (.ref z)) Q E s:=λ{Q E} q=>by
  refine wpAny_pyIter_slot hT F.slot_zip_iter (wpAny_call_entry F.slot_zip_iter hT F.entry_zip_iter ?_ (F.args_zip_iter_1 _));show wpAny _ _ (ret (.ref z)) _ _ s;exact zAx ⟨_,rfl,"zip",_,hT,F.slot_zip_next.lookup,q⟩
 refine zAt (hit ?_);refine zAt (wpAny_holding ?_);unfold Builtin.List.listLengthHint;refine zAt (wpAny_specialOf hT K1 ?_);refine zAt (wpAny_specialOf hT Hh ?_);refine zAx ?_;refine zAt (wpAny_rule ?_);refine zAt ?_;show wpAny _ A.in1 (updateSeq S (·.push .none)>>=λ_=>updateSeq S (·.pop)) _ _ _;refine zAt (wpAny_updateSeq hS rfl ?_);have iX:=Heap.get?_update_self (Obj.mapSeq (·.push Value.none)) hS rfl;refine wpAny_updateSeq (hz:=by seq_fits) iX rfl ?_;have DB:=Heap.get?_update_self (Obj.mapSeq (·.pop)) iX rfl
 have DC:∀b o,b≠S->s.heap.get? b=some o->((s.heap.update S (Obj.mapSeq (·.push Value.none))).update S (Obj.mapSeq (·.pop))).get? b=some o:=
  λb o hb e=>(Heap.get?_update_other _ _ (Ne.symm hb)).trans ((Heap.get?_update_other _ _ (Ne.symm hb)).trans e)
 exact zAx ⟨plainId_quiet F.plain_extend_loop _,loop (s:=s) (h₁:=s.heap) hh D wq nx ny nz n0 hn res hR n 0 _ s.toks _ #[] [] (Nat.sub_zero _) (zAp _) (st.keep D wq DC) (λb o n1 _ _ _ _ _ e=>DC b o n1 e) DB rfl rfl ⟨List.Pairwise.nil,(λ_ ha=>nomatch ha),(λj a hj=>by simp at hj)⟩⟩
theorem init(hh:A.handled=none)(D:Apart l1 l2 l3 i1 i2 i3 TI TO z)(wq:z<S)(nx:xs.size=n)(ny:ys.size=n)(nz:zs.size=n)(n0:0<n)(hn:n<=sizeLine)
  (st:St l1 l2 l3 i1 i2 i3 TI TO z xs ys zs S 0 s.heap) (hS:s.heap.get? S=some {cls:=.type "list",data:=.seq #[]})
  (hR:∀h' tk acc c as,(∀b o,b≠S->b≠z->b≠TO->b≠i1->b≠i2->b≠i3->s.heap.get? b=some o->h'.get? b=some o)->h'.get? S=some {cls:=.type "list",dict:=none,data:=.seq acc c,slots:=#[]}->as.length=n->Gd xs ys zs S h' as->
   acc.toList=as.map Value.ref->R (.ok (.ret .none)) {s with heap:=h',toks:=tk}):
  wpAny (model prog w) A.in1 (Builtin.«list.__init__» ⟨[.ref S,.ref z],[]⟩)
   (λfin s'=>match fin with|.done f=>R (.ok f) s'|.again c'=>c'.quiet=true/\codeAny (model prog w) A c' R s') (λe s'=>R (.error e) s') s:=by
 refine zAt ?_;refine zAt (wpAny_seqItems hS rfl (zAx ?_));refine zAt (wpAny_updateSeq hS rfl ?_);have iX:=Heap.get?_update_self (Obj.mapSeq (λ_=>(#[]:Array Value))) hS rfl;have DC:∀b o,b≠S->s.heap.get? b=some o->(s.heap.update S (Obj.mapSeq (λ_=>(#[]:Array Value)))).get? b=some o:=λb o hb e=>(Heap.get?_update_other _ _ (Ne.symm hb)).trans e;refine zAt (wpAny_letGo ?_);refine ext hh D wq nx ny nz n0 hn .none _ (st.keep D wq DC) iX λh' tk acc c as hk AB hl hG dE=>?_;exact hR h' tk acc c as (λb o n1 n2 n3 n4 n5 n6 e=>hk b o n1 n2 n3 n4 n5 n6 (DC b o n1 e)) AB hl hG dE
theorem Mq(hh:A.handled=none)(D:Apart l1 l2 l3 i1 i2 i3 TI TO z)(nx:xs.size=n)(ny:ys.size=n)(nz:zs.size=n)(n0:0<n)(hn:n<=sizeLine)(zl:z<s.heap.objs.size)
  (st:∀S,z<S->St l1 l2 l3 i1 i2 i3 TI TO z xs ys zs S 0 s.heap)
  (hQ:∀h' tk acc c as,(∀b o,b≠z->b≠TO->b≠i1->b≠i2->b≠i3->s.heap.get? b=some o->h'.get? b=some o)->h'.get? s.heap.objs.size=some {cls:=.type "list",dict:=none,data:=.seq acc c,slots:=#[]}->as.length=n->Gd xs ys zs s.heap.objs.size h' as->
   acc.toList=as.map Value.ref->Q (.ref s.heap.objs.size) {s with heap:=h',toks:=tk}):
  wpAny (model prog w) A (call (.type "list") [.ref z]) Q E s:=by
 refine callType_codes (Q₁:=λobj s₁=>obj=.ref s.heap.objs.size/\s₁={s with heap:=s.heap.push {cls:=.type "list",data:=.seq #[]}}) PySem.F.called_list (PySem.F.typeCall_list_1 _) PySem.F.entry_list_init
  (code_list_new _ ⟨rfl,rfl⟩) λobj s₁ h₁=>?_
 obtain⟨rfl,rfl⟩:=h₁;have hS:(s.heap.push {cls:=.type "list",data:=.seq #[]}).get? s.heap.objs.size=some {cls:=.type "list",data:=.seq #[]}:=zB1 _ rfl;refine⟨⟨_,hS,rfl⟩,PySem.F.args_list_init_2 _ _,init (A:=A.in1) (s:={s with heap:=s.heap.push {cls:=.type "list",data:=.seq #[]}}) hh D zl nx ny nz n0 hn ((st _ zl).keep D zl λb o _ e=>zAv _ e) hS (λh' tk acc c as hk AB hl hG dE=>?_)⟩;exact⟨rfl,hQ h' tk acc c as (λb o n2 n3 n4 n5 n6 e=>hk b o (zB5 (zB0 e)) n2 n3 n4 n5 n6 (zAv _ e)) AB hl hG dE⟩
end
theorem Dy{σ:L2.St}(I:Inv X z06 σ H s)(k:∀b u,s.heap.get? b=some u->h'.get? b=some u)(old:∀b,b<s.heap.objs.size->H' b=H b)
  (new:∀b o,s.heap.objs.size<=b->H' b=some o->ObjOk X.prog X.w H' h' b o):Inv X z06 σ H' {s with heap:=h',toks:=t'}:=by
 have ol:∀{b:Addr} {o:HO},H b=some o->H' b=some o:=λe=>by rw[old _ (I.hok.lt e)];exact e
 refine I.un ⟨λb o q _ _ _=>k b o q,λb o q _ _ _=>⟨o.slots,k b o q⟩,λb o q n _=>by rw[old _ (zB0 q)];exact n,λb o q _=>⟨o,k b o q⟩,λb xs q=>ol q,λb o u q=>ol q,λb ps q=>⟨#[],by rw[ol q];simp⟩⟩ λb o e=>?_;by_cases hb:b<s.heap.objs.size
 .rw[old _ hb]at e;exact(I.hok b o e).stay (λc v _ q=>k c v q) (λc q=>ol q) λc xs q=>ol q
 .exact new b o (Nat.le_of_not_lt hb) e
def Dz(xs ys zs:List V)(j:Nat):List V:=[xs.getD j .non,ys.getD j .non,zs.getD j .non]
def tLZ(K:Frag)(ta:TA):TE:=λσ H Q=>ta σ H λvs H1=>∃a b c xs ys zs,vs=[.ref a,.ref b,.ref c]/\SqL K H1 a xs/\SqL K H1 b ys/\SqL K H1 c zs/\ys.length=xs.length/\zs.length=xs.length/\0<xs.length /\
 ∀l (as:List Addr) H',Same H1 H'->H1 l=none->l≠sysModules->H' l=some (.lst (as.map V.ref))->as.length=xs.length->(∀j a,as[j]?=some a->H' a=some (.tup (Dz xs ys zs j)))->Q (.ref l) H'
theorem Bs:bootBuiltins "zip"=some (.type "zip"):=by decide +kernel
theorem vals3:∀{a b c:V} {us:List Value},Vals [a,b,c] us->∃u v w,us=[u,v,w]/\RelV a u/\RelV b v/\RelV c w:=λh=>by
 cases h with
 |cons r1 h=>
  cases h with
  |cons r2 h=>
   cases h with
   |cons r3 h=>
    cases h;exact⟨_,_,_,rfl,r1,r2,r3⟩
theorem DG{as:List Nat}(h:as.Pairwise (· < ·)){i j:Nat}(hi:as[i]?=some a)(hj:as[j]?=some a):i=j:=by
 have nd:as.Nodup:=h.imp λ{x y} z=>zB5 z;obtain⟨h1,e1⟩:=zAa.mp hi;obtain⟨h2,e2⟩:=zAa.mp hj;exact(List.getElem_inj nd).mp (e1.trans e2.symm)
section
open Classical in
theorem pe_lzip3{p p2 p3 pos:Pos}(hd:X.A.handled=none)(SO:Gl X "list")(Fs:X.mg "list"=none)(hg:Gl X "zip")(hm:X.mg "zip"=none)(ha:PA X [a,b,c] ta)
  (hs:starEach [a,b,c] X.env=[(false,eval a X.env),(false,eval b X.env),(false,eval c X.env)]:=by rfl) (se:starEach [b,c] X.env=[(false,eval b X.env),(false,eval c X.env)]:=by rfl)
  (he:starEach [(.Call (.Name "zip" p2) [a,b,c] [] p3)] X.env=[(false,eval (.Call (.Name "zip" p2) [a,b,c] [] p3) X.env)]:=by rfl):PE X (.Call (.Name "list" p) [.Call (.Name "zip" p2) [a,b,c] [] p3] [] pos) (tLZ X.K ta):=by
 intro z06 s σ H Q I h;refine wpAny_Call_Name_kw (j6 I SO Fs xW ?_ z02 z02);refine PyProof.Rows.callWith_type1 ?_ he rfl;rw[he];refine Calls.spliced_cons ?_;refine Call_ (j6 I hg hm Bs (PyProof.Rows.callWith_type1 (thn (ha p3 z06 s σ H _ I h) λus s1=>?_) (by rw[hs,se]) (by rw[se];rfl)));rintro⟨vs,H1,I1,r1,q1⟩;obtain⟨x,y,z,xs,ys,zs,e,hx,hy,hz,ly,lz,l0,q⟩:=q1;subst e;obtain⟨u1,u2,u3,rfl,SR,SU,SV⟩:=vals3 r1;cases SR;cases SU;cases SV;obtain⟨YA,v1,SW,z1⟩:=I1.list hx;obtain⟨YB,v2,SX,z2⟩:=I1.list hy;obtain⟨YC,v3,SY,z3⟩:=I1.list hz;have n1:=v1.length;have n2:=v2.length;have n3:=v3.length;refine Mp (l1:=x) (l2:=y) (l3:=z) SW.isList SX.isList SY.isList λg D st gs kp=>?_;refine Calls.spliced_nil ?_;refine Mq (s:={s1 with heap:=g}) (n:=xs.length) hd D (by rw[zA8];lia) (by rw[zA8];lia) (by rw[zA8];lia) l0 z1 (by show _<g.objs.size;lia) (λS hS=>st S hS) λh' tk acc cc as qB at' hl hG dE=>?_;have S0:(Shared.heap {s1 with heap:=g}).objs.size=s1.heap.objs.size+6:=gs
 have S4:∀b o,s1.heap.get? b=some o->h'.get? b=some o:=λb o e=>by
  obtain⟨b',rfl⟩:∃b':Nat,b'=b:=⟨b,rfl⟩
  have hb:@LT.lt Nat instLTNat b' s1.heap.objs.size:=zB0 e;exact qB b' o (nn z00) (nn z00) (nn z00) (nn z00) (nn z00) (kp b' o e)
 have big:@LT.lt Nat instLTNat sysModules s1.heap.objs.size:=I1.big
 obtain⟨Lz,Ox⟩:∃Lz:Nat,Lz=(Shared.heap {s1 with heap:=g}).objs.size:=⟨_,rfl⟩
 rw[<-Ox]at at' hG S0;show EP X z06 σ Q (.ref (Shared.heap {s1 with heap:=g}).objs.size) _;rw[<-Ox]
 let H':Hp:=λb=>if b=Lz then some (.lst (as.map V.ref))else if hj:∃j:Nat,as[j]?=some b then some (.tup (Dz xs ys zs hj.choose))else H1 b
 have gu:∀{j a:Nat},as[j]?=some a->@LT.lt Nat instLTNat Lz a:=λ{j a} e=>hG.above a (zB6 e);have eL:H' Lz=some (.lst (as.map V.ref)):=zAz rfl
 have eT:∀j a,as[j]?=some a->H' a=some (.tup (Dz xs ys zs j)):=λj a e=>by
  have hj:∃j:Nat,as[j]?=some a:=⟨j,e⟩
  have n:¬(a=Lz):=Zar (gu e);show(if a=Lz then _ else if hj:∃j:Nat,as[j]?=some a then some (HO.tup (Dz xs ys zs hj.choose))else H1 a)=_;rw[zAy n,dif_pos hj,DG hG.rise hj.choose_spec e]
 have old:∀b,b<s1.heap.objs.size->H' b=H1 b:=λb hb=>by grind
 have fresh:∀b:Nat,@LE.le Nat instLENat s1.heap.objs.size b->H1 b=none:=λb hb=>I1.hok.fresh hb
 have vr:∀l:List Nat,Vals (l.map V.ref) (l.map Value.ref):=λl=>by
  induction l with
  |nil=>exact .nil
  |cons x l ih=>exact .cons rfl ih
 have get:∀{ws:List V} {its:List Value} (v:Vals ws its) {j:Nat} {u:Value},its.toArray[j]?=some u->RelV (ws.getD j .non) u:=λ{ws its} v {j u} e=>by
  have e':its[j]?=some u:=by simpa using e
  have hj:j<ws.length:=by rw[v.length];exact(zAa.mp e').1
  obtain⟨u',e1,r⟩:=v.get (zA0 hj);rw[e']at e1;cases e1;rw[zA7,zA0 hj];exact r
 refine⟨.ref Lz,H',(show Inv X z06 σ H' {s1 with heap:=h',toks:=tk}from Dy I1 S4 old λb o hb e=>?_),rfl,q Lz as H' (λb o e=>by rw[old b (I1.hok.lt e)];exact e) (fresh _ z00) (nn z00) eL hl eT⟩
 obtain⟨b',rfl⟩:∃b':Nat,b'=b:=⟨b,rfl⟩
 by_cases h1:b'=Lz
 .subst h1;rw[eL]at e;cases e;refine⟨by rw[zA1,hl];exact z1,as.map Value.ref,cc,vr as,?_⟩;rw[<-dE];simpa using at'
 .by_cases h2:∃j:Nat,as[j]?=some b'
  .obtain⟨j,hj⟩:=h2;rw[eT j b' hj]at e;cases e;obtain⟨u,v,w',e1,e2,e3,e4⟩:=hG.rows j b' hj;exact⟨(by show 3<=sizeLine;decide),[u,v,w'],.cons (get v1 e1) (.cons (get v2 e2) (.cons (get v3 e3) .nil)),_,e4,rfl,⟨_,rfl⟩⟩
  .exfalso
   have:H' b'=H1 b':=by
    show(if b'=Lz then _ else if hj:∃j:Nat,as[j]?=some b' then some (HO.tup (Dz xs ys zs hj.choose))else H1 b')=_;rw[zAy h1,dif_neg h2]
   rw[this,fresh b' hb]at e;cases e
end
end L2.Z3
namespace L2
open PySem PySem.Spec PyProof.Rows PySem.SeqAt
theorem xX(hu:X.A.units<cLine):OpR X (compareOp .NotEq) (λx y H Q=>∃a b xs,x=.ref a/\y=.ref b/\SqL X.K H a xs/\SqL X.K H b []/\Q (.bl (!xs.isEmpty)) H):=by
 intro z06 s σ H x y v u Q I rx ry h;obtain⟨a,b,xs,rfl,rfl,ha,hb,q⟩:=h;cases rx;cases ry;obtain⟨its,r1,p1,_⟩:=I.list ha;obtain⟨aT,r2,p2,_⟩:=I.list hb;have e2:aT=[]:=r2.zero;subst e2;have hl:=r1.length
 cases xs with
 |nil=>
  have e1:its=[]:=r1.zero;subst e1;exact RcNeAt.lists (e:=λ_=>true) p1.isList p2.isList rfl hu (λj h1 h2=>absurd h2 z01) _ _ _ _ ⟨.bl _,H,I,rfl,q⟩
 |cons z r=>
  exact RcNeAt.lists_lengths p1.isList p2.isList (by rw[zA8,<-hl];simp) hu _ _ _ _ ⟨.bl _,H,I,rfl,q⟩
theorem xY(hu:X.A.units<cLine):OpR X (compareOp .NotEq) (λx y H Q=>∃a b xs,x=.ref a/\y=.ref b/\SqT X.K H a xs/\SqT X.K H b []/\Q (.bl (!xs.isEmpty)) H):=by
 intro z06 s σ H x y v u Q I rx ry h;obtain⟨a,b,xs,rfl,rfl,ha,hb,q⟩:=h;cases rx;cases ry;obtain⟨its,r1,p1,_⟩:=I.tuple ha;obtain⟨aT,r2,p2,_⟩:=I.tuple hb;have e2:aT=[]:=r2.zero;subst e2;have hl:=r1.length
 have e3:((List.range (min its.toArray.size ([]:List Value).toArray.size)).all (λ_=>true)&&its.toArray.size==([]:List Value).toArray.size)=xs.isEmpty:=by
  cases its with
  |nil=>
   cases r1;rfl
  |cons a r=>cases xs with
   |nil=>simp at hl
   |cons b r'=>simp
 refine RcNeAt.tuples (e:=λ_=>true) p1 p2 hu (λj h1 h2=>absurd h2 z01) _ _ _ _ ?_;rw[e3];exact⟨.bl _,H,I,rfl,q⟩
open PySem PySem.Spec PyProof.Rows PySem.Calls PySem.W
theorem DK{X:Cx}(ok:qj scope X.env.scope X.N N ix=true):(∀p∈scope.names,p.2=NameKind.free->X.env.kindOf p.1=some .cell)/\∀(j:Nat) x,N[j]?=some x->∃i,ix[j]?=some i/\X.N[i]?=some x/\scope.names.lookup x=some .free:=by
 unfold qj at ok;simp only[Bool.and_eq_true,z08,Bool.not_eq_true',List.all_eq_true,Bool.or_eq_true]at ok;obtain⟨⟨⟨⟨⟨kd,co⟩,ge⟩,As⟩,zs⟩,hl⟩:=ok;refine⟨λp hp e=>?_,λj x e=>?_⟩
 .rcases(As p hp).2 with z|z
  .exact absurd e z
  .exact z
 .have hj:=(zAa.mp e).1;have e2:ix[j]?=some (ix[j]'z00):=zA0 z00;have:=zs (x,ix[j]'z00) (zB6 (i:=j) (by rw[List.getElem?_zip_eq_some];exact⟨e,e2⟩));exact⟨_,e2,this.1,this.2⟩
theorem nA(ix:List Nat)(dv:X.env.code=.ref cc)(hC:CodeHd X.base cc T)(hB:X.base.BuiltinsAt X.mg T)(CM:X.env.scope=sc)(CO:X.N=NX)
  (qh:defaultsOf params X.env=([],[])) (Kt:∀qual cl pm cv ct,bindArgs (kla_fn "<lambda>" qual params body scope cl pm cv ct) ⟨[],[]⟩=pure []) (ok:qj scope sc NX N ix=true):
  PE X (.Lambda params body scope bg) (tMk T (X.env.qual++"<lambda>") params body scope (cC X.env.cells scope.names []) N):=by
 subst CM CO;obtain⟨kc,hz⟩:=DK ok;unfold qj at ok;simp only[Bool.and_eq_true,z08,Bool.not_eq_true',List.all_eq_true,Bool.or_eq_true]at ok;obtain⟨⟨⟨⟨⟨kd,co⟩,ge⟩,As⟩,zs⟩,hl⟩:=ok;refine vY ⟨qh,kd,co,ge,λp hp=>(As p hp).1,λp hp e=>.inl (kc p hp e),Kt,λx hx=>?_⟩ dv hC hB;obtain⟨j,e⟩:=List.mem_iff_getElem?.mp hx;obtain⟨_,_,_,z⟩:=hz j x e;exact z
theorem DN{p pos:Pos}(scope:Scope)(F:FnOk X.prog X.w X.K X.mg X.base CX0 k f fd [y] sp)(hr:Room k X.A)(hg:Gl X x)(hm:X.mg x=some (.ref f))
  (hk:PySem.W.keepIn X.K (.ref f)=true) (hb:Binds X.K fd [y] []) (hx:X.ex=[]) (lS:∀x,X.fn x=true) (CM:X.env.scope=sc) (CO:X.N=NX) (ok:qj scope sc NX N ix=true) (ha:PE X arg te) (eC:(x==("__debug__":Str))=false:=by decide)
  (he:starEach [arg] X.env=(false,eval arg X.env)::starEach [] X.env:=by rfl) (dP:(backTo pos (starEach [] X.env)).any (·.1)=false:=by rfl):
  PE X (.Call (.Name x p) [arg] [] pos) (Dv sp N ix (cC X.env.cells scope.names []) te):=by
 subst CM CO;obtain⟨kc,hz⟩:=DK ok;exact yW F hr hg hm hk hb hx (λp hp e=>⟨kc p hp e,lS _⟩) hz ha eC he dP
theorem Hl(hu:X.A.units<cLine):OpR X (compareOp .Eq) (λx y H Q=>∃s,y=.str s/\((∃r,x=.str r/\Q (.bl (decide (r=s))) H)\/∃a xs,x=.ref a/\SqT X.K H a xs/\Q (.bl false) H)):=by
 intro z06 st σ H x y v u Q I rx ry h;obtain⟨s,rfl,⟨r,rfl,q⟩|⟨a,xs,rfl,ha,q⟩⟩:=h
 .exact iH z06 st σ H _ _ v u Q I rx ry ⟨rfl,by rw[show decide (V.str r=V.str s)=decide (r=s) by simp];exact q⟩
 .cases rx;obtain⟨t,rfl⟩:=ry;obtain⟨its,r1,p1,_⟩:=I.tuple ha;exact PySem.SeqAt.RcAt.tuple_str s t p1 hu _ _ _ _ ⟨.bl false,H,I,rfl,q⟩
open Builtin in
theorem DP(l:Addr)(n:Nat)(k:Int)(u:Tok)(dd:Option Addr)(sl:Array (Option Value))(h2:2<=k)(h3:k<=1000):
  Meets (Builtin.«tuple.__mul__» ⟨[.ref l,.int k u],[]⟩) (λ_ R s=>s.heap.get? l=some {cls:=.type "tuple",dict:=dd,data:=.seq #[] n,slots:=sl}/\R (.ok (.ret (.ref l))) s):=by
 refine .of_wp λprog w A R s h=>?_;obtain⟨hp,g,d,tk,os⟩:=s;obtain⟨hl,h⟩:=h;have f1:=PySem.AutoSeq1.idx_int;have f2:=PySem.AutoSeq1.sub_tuple_tuple
 have c0:(decide (k < -2^63)||decide (k≥2^63))=false:=by
  rw[zB2 z00,zB2 z00];rfl
 have nf:∀{b:Bool},b=false->decide (b=true)=false:=λ{b} e=>by rw[e];rfl
 wp_walk
 refine wpAny_ite_false (nf c0) ?_
 wp_walk
 exact⟨_,rfl,h⟩
inductive RRepUI(x:V)(y:V)(H:Hp)(Q:VK):Prop
 |mk:∀a k xs,(x=.ref a)->(y=.int k)->(H a=some (.tup xs))->(xs.length<=1000)->(2<=k)->(k<=1000)->(∀p H',Same H H'->H' p=some (.tup (List.replicate k.toNat xs).flatten)->Q (.ref p) H')->RRepUI  x y H Q
def Mr:R2:=λx y H Q=>RRepUI  x y H Q
theorem za:OpR X (binaryOp .Mult) Mr:=by
 intro z06 s σ H x y v u Q I rx ry h;obtain⟨a,k,xs,rfl,rfl,ea,hl,k2,k3,q⟩:=h;have ha:SqT X.K H a xs:=SqT.of ea;by_cases hx:xs=[]
 .subst hx;cases rx;obtain⟨t,rfl⟩:=ry;obtain⟨its,r,p1,_⟩:=I.tuple ha;have e2:its=[]:=r.zero;subst e2;obtain⟨⟨cls,dd,data,sl⟩,ho,hc,n,hd⟩:=id p1;simp only at hc hd;subst hc hd
  refine wpAny_binaryOp_repeat_ref (T:="tuple") (U:="int") z02 ⟨_,ho,rfl⟩ (λs'=>typeIs_int s' k t) jx F.fills_int_mul F.slot_int_rmul pU F.slot_int_index.lookup
   (call_meets F.slot_int_rmul (typeIs_int s k t) F.entry_int_rmul (F.args_int_rmul_2 _ _) (lM k t a _ n dd sl) ⟨ho,rfl,⟨_,ho,rfl⟩,?_⟩)
  exact call_meets F.slot_tuple_mul ⟨_,ho,rfl⟩ F.entry_tuple_mul (F.args_tuple_mul_2 _ _) (DP a n k t dd sl k2 k3) ⟨ho,.ref a,H,I,rfl,q a H (Same.refl H) (by rw[ea];simp)⟩
 .exact GC z06 s σ H _ _ v u Q I rx ry ⟨a,k,xs,rfl,rfl,ha,hx,hl,.inr ⟨.inr ⟨k2,k3⟩,λp hp=>q p _ (Same.upd hp) aa⟩⟩
end L2
namespace K33P
open PySem L2
def top(i:Nat):Stmt:=PySem.Challenge.pw_woolyears_k33_owing_refused.main.body.getD i (.Pass ⟨0,0,0,0⟩)
def bD(d:PyData):Bool:=mY d&&!lG d
def items:PyData->List PyData
 |.tuple ds=>ds
 |_=>[]
def intOf:PyData->Int
 |.int i=>i
 |_=>0
def bH(d:PyData)(f m:Int):Bool:=du d&&(decide (f<=(items d).length)&&decide (((items d).length:Int)<=m))
theorem nd1(x:Str):([x]:List Str).Nodup:=by simp
theorem DQ(d:PyData):1<=sz d:=by cases d<;>simp[sz]
theorem um:∀ds,ds.length<=szs ds
 |[]=>zAp _
 |d::ds=>by
  have:=um ds;have:=DQ d;simp only[List.length_cons,szs];lia
theorem uo:∀{ds:List PyData} {d:PyData},d∈ds->sz d<=szs ds
 |x::ds,d,h=>by
  simp only[szs];rcases zAo.mp h with e|e
  .rw[e];lia
  .have:=uo e;lia
theorem iy(h:d∈ds)(hz:sz (.tuple ds)<=4000):sz d<=4000:=by
 have:=uo h;simp only[sz]at hz;lia
theorem gn(r:IsThs S H xs ds)(hz:sz (.tuple ds)<=4000):xs.length<sizeLine:=by
 have:=um ds;have:=r.length;simp only[sz]at hz;rw[sizeLine_eq];lia
def spT(f:PyData->Bool):Sp:=λvs H Q _=>∃S v d,vs=[v]/\IsTh S H v d/\sz d<=4000/\∀H',Same H H'->Q (.bl (f d)) H'
def jP(f:PyData->Int->Int->Bool):Sp:=λvs H Q _=>∃S v d n m,vs=[v,.int n,.int m]/\IsTh S H v d/\sz d<=4000/\∀H',Same H H'->Q (.bl (f d n m)) H'
structure Mg(mg:Str->Option Value):Prop where
 isinstance:mg "isinstance"=none
 int:mg "int"=none
 bool:mg "bool"=none
 tuple:mg "tuple"=none
 len:mg "len"=none
 all:mg "all"=none
theorem boot_tuple:bootBuiltins "tuple"=some (.type "tuple"):=by decide +kernel
theorem boot_isinstance:bootBuiltins "isinstance"=some (.builtin "isinstance"):=by decide +kernel
theorem boot_all:bootBuiltins "all"=some (.builtin "all"):=by decide +kernel
theorem eF(f:PyData->Bool)(fR:σ[i]?=some (some (.ref a)))(ea:H a=some (.tup xs))(r:IsThs S H xs ds)(hl:xs.length<sizeLine)
  (kD:∀v d H1 Q1,d∈ds->Same H H1->IsTh S H1 v d->(∀H',Same H1 H'->Q1 (.bl (f d)) H')->te ((capσ σ src).set j (some v)) H1 Q1) (q:∀H',Same H H'->Q (.bl (ds.all f)) H'):
  tCB (λxs H Q=>∃(p:Addr) (bs:List Bool),xs=[.ref p]/\SqL K H p (bs.map V.bl)/\Q (.bl (bs.all id)) H) (bU (v9 (Jr K (iz i)) src (bG j) tU te) gW) σ H Q:=by
 refine⟨_,fR,a,rfl,⟨xs,SqT.of ea⟩,oE (j:=j) f ea r hl kD λH2 s2 D hD=>⟨D,ds.map f,rfl,?_,?_⟩⟩
 .rw[<-vA];exact SqL.of aa
 .rw[CN];exact q _ (s2.updR hD)
structure Nums(mg:Str->Option Value):Prop where
 many:∃t,mg "MOST_WEIGHTS"=some (.int 80 t)
 most:∃t,mg "MOST_WEIGHT"=some (.int 99 t)
def Cal(P:Program)(w:World)(K:Frag)(mg:Str->Option Value)(base:Heap)(k:Nat)(x:Str)(ps:List Str)(sp:Sp):Prop:=
 ∃f fd,FnOk P w K mg base CX0 k f fd ps sp/\mg x=some (.ref f)/\PySem.W.keepIn K (.ref f)=true/\Binds K fd ps []
theorem aG{p pos:Pos}(c:Cal X.prog X.w X.K X.mg X.base j x ps sp)(hr:Room k X.A)(ha:PA X (e::es) t)(hjk:j<=k:=by decide)(hg:Gl X x:=by exact rfl)
  (eC:(x==("__debug__":Str))=false:=by decide) (he:starEach (e::es) X.env=(false,eval e X.env)::starEach es X.env:=by rfl) (dP:(backTo pos (starEach es X.env)).any (·.1)=false:=by rfl):
  PE X (.Call (.Name x p) (e::es) [] pos) (uZ sp [] E0 t):=by
 obtain⟨f,fd,F,hm,hk,hb⟩:=c;exact yu F (hr.mono hjk) hg hm hk hb .nil Li ha eC he dP
def dN(d:PyData)(lo hi:Int):Bool:=bD d&&(decide (lo<=intOf d)&&decide (intOf d<=hi))
def jy(d:PyData):Bool:=bH d 1 80&&(items d).all λx=>dN x 1 99
theorem boot_sorted:bootBuiltins "sorted"=some (.builtin "sorted"):=by decide +kernel
theorem boot_sum:bootBuiltins "sum"=some (.builtin "sum"):=by decide +kernel
theorem cX{Fin:List V->Hp->Prop}(n:Nat)(Pv:Nat->List V->St->Hp->Prop)(h0:Pv 0 [] dQ H0)(hz:n<sizeLine)
  (step:∀i ys σ H,i<n->ys.length=i->Pv i ys σ H->J.go i H/\∀x H',J.yld i H x H'->∀R:V->St->Hp->Prop,(∀y aw H4,Pv (i+1) (ys++[y]) aw H4->R y aw H4)->g x σ H' λaw H2=>te aw H2 λy H4=>R y aw H4)
  (fin:∀ys σ H,ys.length=n->Pv n ys σ H->J.stop n H/\Fin ys H):oh J g tU te Fin dQ H0:=by
 refine⟨λi m ys σ H=>m=n-i/\i<=n/\ys.length=i/\Pv i ys σ H,⟨_,rfl,zAp _,rfl,h0⟩,?_⟩;rintro i m ys σ H ⟨rfl,hi,hy,p⟩;refine⟨z00,?_⟩;by_cases ay:i<n
 .obtain⟨go,st⟩:=step i ys σ H ay hy p;exact .inr ⟨go,λx H' y=>st x H' y _ λy aw H4 p2=>⟨n-(i+1),z00,rfl,ay,by rw[zA2,hy];rfl,p2⟩⟩
 .have e:i=n:=z00
  subst e;exact .inl (fin ys σ H hy p)
theorem nd2(x y:Str)(h:x≠y):([x,y]:List Str).Nodup:=by simp[h]
section
theorem sc1:FnScope ["thing"] ["thing"] (az (top 20)):=fQS
theorem NB:FnScope ["thing"] ["thing"] (az (top 48)):=fQS
theorem ok_are_weights(F:Fun K "are_weights" "are_weights" (top 48) f fd)(T:Mg mg)(N:Nums mg)(c1:Cal P w K mg base 2 "is_whole_from" ["thing","least","most"] (jP dN))(c2:Cal P w K mg base 1 "is_tuple_of" ["thing","fewest","most"] (jP bH)):
  FnOk P w K mg base CX0 4 f fd ["thing"] (spT jy):=by
 refine F.oq NB λcdv A outer s H vs Q E hr h=>?_;obtain⟨S,v,d,rfl,th,hz,q⟩:=h;obtain⟨t3,e3⟩:=N.many;obtain⟨t4,e4⟩:=N.most
 refine⟨_,aF (aN (cF (aG c2 hr (aM (pv 0) (aM au (aM (bO (v:=.int 80) rfl e3 ⟨_,rfl⟩) aj))))
  (eV (aK (gj rfl) rfl T.all boot_all (aM (bW ["part"] [none] rfl (gF (pv 0))
   (λC fp z06 s₂ H₂=>⟨bw (i:=0) (nd1 _) rfl (Or.inl rfl),bV,aG c1 hr (aM (pv 0) (aM au (aM (bO (v:=.int 99) rfl e4 ⟨_,rfl⟩) aj)))⟩) (λC=>trivial) ⟨rfl,rfl,rfl,rfl⟩) aj))))),?_⟩
 refine⟨_,rfl,S,v,d,1,80,rfl,th,hz,λH1 s1=>⟨_,rfl,?_⟩⟩;have fq:=th.same s1;have fin:=λH' (s:Same H H')=>q H' s;unfold jy at fin
 cases e:bH d 1 80 with
 |false=>
  rw[e]at fin;exact aX (fin _ s1)
 |true=>
  rw[e]at fin;refine bh ?_
  cases fq with
  |@tup a xs ds ea r=>exact eF (λx=>dN x 1 99) rfl ea r (gn r hz) (λv d H2 Q2 hm s2 t2 q2=>⟨_,rfl,S,v,d,1,99,rfl,t2,iy hm hz,q2⟩) λH2 s2=>fin _ (s1.trans s2)
  |_=>cases e
end
theorem fX:La X (λx y H Q=>∃p xs i v,x=.ref p/\y=.int i/\SqL X.K H p xs/\0<=i/\xs[i.toNat]?=some v/\Q v H):=by
 intro z06 s σ H x y v u Q I rx ry h;obtain⟨p,xs,i,z,rfl,rfl,hq,h0,he,q⟩:=h;cases rx;obtain⟨t,rfl⟩:=ry;obtain⟨its,r,pl,hz⟩:=I.list hq;obtain⟨w,ew,hU⟩:=r.get he;have hn:=pG;have hi:=(zAa.mp he).1;exact PySem.wpAny_getItem_list pl.isList h0 z00 (by simpa using ew) ⟨z,H,I,hU,q⟩
section
theorem DR(hK:X.K=K)(hl:PE X l tl):PI X tg l (IV K tl):=by
 subst hK;exact dC hl
theorem ix_tupK(hK:X.K=K):IxR X (Jx K):=by
 subst hK;exact bj
theorem ql(hK:X.K=K):dH X (.type "tuple") (λxs H Q=>∃p ys,xs=[.ref p]/\((SqL K H p ys/\∀l,H l=none->Q (.ref l) (upd H l (.tup ys)))\/(SqT K H p ys/\Q (.ref p) H))):=by
 subst hK;exact cZ
end
def iU(H:Hp)(st:Addr):Prop:=∃a b c,H st=some (.lst [.int a,.int b,.int c])/\0<=a/\0<=b/\b<4294967296
structure Dr(st:Addr)(H H':Hp):Prop where
 bt:∀b o,H b=some o->b≠st->H' b=some o
 sa:iU H' st
theorem Dr.same(g:Dr st H H1)(s:Same H1 H2):Dr st H H2:=by
 obtain⟨a,b,c,e,h⟩:=g.sa;exact⟨λb' o' e' ne=>s _ _ (g.bt b' o' e' ne),a,b,c,s _ _ e,h⟩
theorem Dr.trans(g:Dr st H H1)(g':Dr st H1 H2):Dr st H H2:=⟨λb' o' e' ne=>g'.bt _ _ (g.bt b' o' e' ne) ne,g'.sa⟩
theorem Dr.refl(h:iU H st):Dr st H H:=⟨λ_ _ e _=>e,h⟩
theorem Dr.draw(g:Dr st H H1)(h1:0<=a)(h2:0<=b)(h3:b<4294967296):Dr st H (upd H1 st (.lst [.int a,.int b,.int c])):=
 ⟨λb' o' e' ne=>by rw[aA ne];exact g.bt _ _ e' ne,a,b,c,aa,h1,h2,h3⟩
theorem Dr.ne(g:Dr st H H1)(hp:H1 p=none):p≠st:=λz=>by
 obtain⟨a,b,c,e,_⟩:=g.sa;rw[z,e]at hp;cases hp
theorem Dr.tups(g:Dr st H H1)(h0:iU H st):∀b xs,H b=some (.tup xs)->H1 b=some (.tup xs):=λb xs e=>g.bt _ _ e λz=>by
 obtain⟨_,_,_,e',_⟩:=h0;rw[z,e']at e;cases e
theorem Dr.ths(g:Dr st H H1)(h0:iU H st)(t:IsThs (λ_=>False) H vs ds):IsThs (λ_=>False) H1 vs ds:=t.keep (g.tups h0) (λ_ _ z _=>z.elim) λ_ _ z _=>z.elim
inductive SpCellI(K:Frag)(vs:List V)(H:Hp)(Q:VK):Prop
 |mk:∀a (ns:UV) k,(vs=[.ref a,.int k])->(SqL K H a (ns.map V.int))->(0<=k)->(∀i,Q (.int i) H)->SpCellI K vs H Q
def DW(K:Frag):Sp:=λvs H Q _=>SpCellI K vs H Q
inductive SpStateI(K:Frag)(vs:List V)(H:Hp)(Q:VK):Prop
 |mk:∀a (ns:UV) k,(vs=[.ref a,.int k])->(SqL K H a (ns.map V.int))->(0<=k)->(∀p x y z,H p=none->0<=x->0<=y->y<4294967296->Q (.ref p) (upd H p (.lst [.int x,.int y,.int z])))->SpStateI K vs H Q
def zc(K:Frag):Sp:=λvs H Q _=>SpStateI K vs H Q
inductive SpChoiceI(vs:List V)(H:Hp)(Q:VK):Prop
 |mk:∀st n,(vs=[.ref st,.int n])->(iU H st)->(1<=n)->(n<1073741824)->(∀r a b c,0<=r->r<n->0<=a->0<=b->b<4294967296->Q (.int r) (upd H st (.lst [.int a,.int b,.int c])))->SpChoiceI  vs H Q
def dU:Sp:=λvs H Q _=>SpChoiceI  vs H Q
theorem nF:bootBuiltins "max"=some (.builtin "max"):=by decide +kernel
theorem nG:bootBuiltins "min"=some (.builtin "min"):=by decide +kernel
section
theorem NK:FnScope [AAc,AAo] [AAc,AAo] (az (top 72)):=fQS
theorem ok_cell(F:Fun K "_law_cell_at" "_law_cell_at" (top 72) f fd)(T:Mg mg):FnOk P w K mg base CX0 1 f fd [AAc,AAo] (DW K):=by
 refine F.oq NK λcdv A outer s H vs Q E hr h=>?_;obtain⟨a,ns,k,rfl,hS,h0,q⟩:=h;refine⟨_,aB (bR (aW o7 (pv 1) (aK aZ rfl T.len PySem.boot_len (aM (pv 0) aj)) (aU _)) (aF (aN (pX bM (pv 0) (pv 1)))) aY) (aF (aN au)),?_⟩;refine⟨_,rfl,_,rfl,a,_,rfl,.inl hS,_,_,rfl,rfl,_,rfl,?_⟩;refine Cy (λc=>?_) (λ_=>q 0);have c:=zB8 c;rw[zA1]at c;have hk:k.toNat<ns.length:=z00
 refine⟨_,rfl,_,rfl,a,_,k,.int ns[k.toNat],rfl,rfl,hS,?_,q _⟩;have e:(ns.map V.int)[k.toNat]?=some (.int ns[k.toNat]):=by rw[zAb,zA0 hk];rfl
 have:=dD e;rw[show((k.toNat:Nat):Int)=k by lia]at this;exact this
theorem sc26:FnScope [AAc,AAo,"_law_cell"] [AAc,AAo] (az (top 73)):=fQS
theorem ok_state(F:Fun K "_law_state" "_law_state" (top 73) f fd)(Tm:mg "max"=none)(c1:Cal P w K mg base 1 "_law_cell_at" [AAc,AAo] (DW K)):FnOk P w K mg base CX0 2 f fd [AAc,AAo] (zc K):=by
 refine F.oq sc26 λcdv A outer s H vs Q E hr h=>?_;obtain⟨a,ns,k,rfl,hS,h0,q⟩:=h
 refine⟨_,aB (pss 2 sc26.nd (aG c1 hr (aM (pv 0) (aM (pv 1) aj))))
  (aF (aN (dJ (aq (aK (jG rfl) rfl Tm nF (aq au (aq (aO dY (pv 2) (aO tK au au)) aj))) (aq (aO bT (aO jY (pv 2) au) au) (aq au aj)))))),?_⟩
 refine⟨_,rfl,_,rfl,a,ns,k,rfl,hS,h0,λc=>?_⟩;refine⟨_,rfl,_,_,rfl,rfl,⟨by decide,by decide,by decide⟩,_,_,rfl,rfl,_,_,rfl,_,rfl,_,_,rfl,rfl,(by show(0:Int)<2147483629;decide),_,_,rfl,rfl,zL,λp hp=>?_⟩;refine q p _ _ _ hp ?_ ?_ ?_
 .split<;>lia
 .show 0<=c % 2147483629+1;lia
 .show c % 2147483629+1<4294967296;lia
theorem sc27:FnScope [AAa,AAh,AAt,"_law_mixed"] [AAa,AAh] (az (top 74)):=fQS
theorem ok_choice(F:Fun K AAg AAg (top 74) f fd):FnOk P w K mg base CX0 1 f fd [AAa,AAh] dU:=by
 refine F.oq sc27 λcdv A outer s H vs Q E hr h=>?_;obtain⟨st,n,rfl,⟨a,b,c,es,ha,hb,Ct⟩,h1,h2,q⟩:=h
 refine⟨_,aB (bR (aW jm (pX bM (pv 0) au) au (aU _))
   (aB (pss 2 sc27.nd (aO jY (pX bM (pv 0) au) (pv 1)))
    (aB (cN (aO tH (pX bM (pv 0) au) (pv 1)) (mR (pv 0) au set_list)) (aF (aN (pv 2))))) aY)
  (aB (cN (aO bT (pX bM (pv 0) au) au) (mR (pv 0) au set_list))
  (aB (cN (aO jY (aO bT (aO bT (aO gR (pX bM (pv 0) au) au) au) (pX bM (pv 0) au)) au) (mR (pv 0) au set_list))
  (aB (pss 3 sc27.nd (aO jY (aO bT (aO bT (aO gR (pX bM (pv 0) au) (pX bM (pv 0) au)) (aO gR au (pX bM (pv 0) au))) au) au))
  (aB (pss 3 sc27.nd (aO jY (aO bT (aO gR (pv 3) (pv 3)) (aO gR au (pv 3))) au))
  (aF (aN (aO jY (aO tH (pv 3) au) (pv 1)))))))),?_⟩
 refine⟨_,rfl,st,_,0,.int a,rfl,rfl,SqL.of es,rfl,_,_,rfl,rfl,_,rfl,?_⟩;refine Cy (λhc=>?_) (λ_=>?_)
 .refine⟨_,rfl,st,_,0,.int a,rfl,rfl,SqL.of es,rfl,_,rfl,_,_,rfl,rfl,(by show 0<n;lia),?_⟩;refine⟨_,rfl,st,_,0,.int a,rfl,rfl,SqL.of es,rfl,_,rfl,_,_,rfl,rfl,⟨z00,h2⟩,_,rfl,st,_,0,0,rfl,rfl,es,rfl,_,rfl,?_⟩;exact q (a % n) (a / n) b c (Int.emod_nonneg a z00) (Za8 a z00) (Int.ediv_nonneg ha z00) hb Ct
 .refine⟨_,rfl,st,_,2,.int c,rfl,rfl,SqL.of es,rfl,_,_,rfl,rfl,_,rfl,st,_,2,2,rfl,rfl,es,rfl,?_⟩;have eL:([V.int a,V.int b,V.int c].set 2 ((λi j:Int=>V.int (i+j)) c 1))=[V.int a,V.int b,V.int (c+1)]:=rfl;rw[eL];have mw:upd H st (.lst [.int a,.int b,.int (c+1)]) st=some (.lst [.int a,.int b,.int (c+1)]):=aa;refine⟨_,rfl,st,_,1,.int b,rfl,rfl,SqL.of mw,rfl,_,_,rfl,rfl,.inl ⟨z00,z00⟩,_,_,rfl,rfl,_,rfl,st,_,2,.int (c+1),rfl,rfl,SqL.of mw,rfl,_,_,rfl,rfl,_,_,rfl,rfl,(by show(0:Int)<2147483647;decide),_,rfl,st,_,1,1,rfl,rfl,mw,rfl,?_⟩;have Oy:0<=(b*48271+29+(c+1)) % 2147483647:=Int.emod_nonneg _ z02;have S5:(b*48271+29+(c+1)) % 2147483647<2147483647:=Za8 _ z02
  obtain⟨m,hm⟩:∃m,m=(b*48271+29+(c+1)) % 2147483647:=⟨_,rfl⟩
  rw[<-hm]at Oy S5;have eL:([V.int a,V.int b,V.int (c+1)].set 1 ((λi j:Int=>V.int (i % j)) (b*48271+29+(c+1)) 2147483647))=[V.int a,V.int m,V.int (c+1)]:=by rw[hm];rfl
  rw[eL]
  have eu:upd (upd H st (.lst [.int a,.int b,.int (c+1)])) st (.lst [.int a,.int m,.int (c+1)])=upd H st (.lst [.int a,.int m,.int (c+1)]):=by
   funext z;by_cases hz:z=st
   .rw[hz,aa,aa]
   .rw[aA hz,aA hz,aA hz]
  rw[eu];have fN:upd H st (.lst [.int a,.int m,.int (c+1)]) st=some (.lst [.int a,.int m,.int (c+1)]):=aa;refine⟨_,rfl,st,_,1,.int m,rfl,rfl,SqL.of fN,rfl,_,rfl,st,_,1,.int m,rfl,rfl,SqL.of fN,rfl,_,_,rfl,rfl,.inl ⟨z00,z00⟩,_,rfl,st,_,1,.int m,rfl,rfl,SqL.of fN,rfl,_,_,rfl,rfl,.inl ⟨by decide,by decide⟩,_,_,rfl,rfl,_,_,rfl,rfl,_,_,rfl,rfl,(by show(0:Int)<2147483629;decide),?_⟩;have KP:0<=(m*m+39373*m+7) % 2147483629:=Int.emod_nonneg _ z02;have wx:(m*m+39373*m+7) % 2147483629<2147483629:=Za8 _ z02;refine⟨_,rfl,_,rfl,_,_,rfl,rfl,.inl ⟨Int.lt_of_lt_of_le z02 KP,Int.lt_trans wx z02⟩,_,rfl,_,_,rfl,rfl,.inl ⟨by decide,by decide⟩,_,_,rfl,rfl,_,_,rfl,rfl,(by show(0:Int)<2147483587;decide),?_⟩;refine⟨_,rfl,_,_,rfl,rfl,⟨by decide,by decide⟩,_,rfl,_,_,rfl,rfl,(by show 0<n;lia),?_⟩;exact q _ a m (c+1) (Int.emod_nonneg _ z00) (Za8 _ z00) ha Oy z00
end
theorem ok_b{R:TS->Prop}(h:BSs X body t)(q:R t):∃t,PSs X body t/\R t:=⟨t,h.run,q⟩
def rr(rs:UV)(i:Nat):Int:=rs.getD i 0
def gq(fs:UV)(pl:List Nat):UV:=pl.foldl (λl i=>l.set i (l.getD i 0+1)) fs
theorem xZ(fs:UV)(pl:List Nat)(i:Nat):gq fs (pl++[i])=(gq fs pl).set i ((gq fs pl).getD i 0+1):=by
 unfold gq;rw[List.foldl_append];rfl
theorem nH:∀pl fs,(gq fs pl).length=fs.length
 |[],_=>rfl
 |i::pl,fs=>by
  show(gq (fs.set i _) pl).length=_;rw[nH pl,Zao]
def fs(n:Int)(ws:UV):UV:=ws.map λw=>n*w / ws.sum
def rs(n:Int)(ws:UV):UV:=ws.map λw=>n*w % ws.sum
def lf(n:Int)(ws:UV):Int:=n-(fs n ws).sum
def OkW(ws:UV):Prop:=1<=ws.length/\ws.length<=80/\∀w∈ws,1<=w/\w<=99
theorem uq:∀{l:UV},(∀a∈l,a<=B)->l.sum<=B*l.length
 |[],_=>by simp
 |a::l,h=>by
  have h1:=uq (B:=B) (l:=l) λb hb=>h b (.tail _ hb);have h2:=h a (.head _);rw[Zaf,zAe,show B*((l.length+1:Nat):Int)=B*l.length+B by rw[Int.natCast_add,Int.mul_add];simp];lia
theorem nJ:∀{l:UV},(∀a∈l,0<=a)->0<=l.sum
 |[],_=>by simp
 |a::l,h=>by
  have h1:=nJ (l:=l) λb hb=>h b (.tail _ hb);have h2:=h a (.head _);rw[Zaf];lia
theorem OkW.pos(h:OkW ws):1<=ws.sum:=by
 obtain⟨h1,_,h3⟩:=h
 match ws,h1,h3 with
 |w::ws,_,h3=>
  have:=nJ (l:=ws) λa ha=>by have:=h3 a (.tail _ ha);lia
  have:=h3 w (.head _);rw[Zaf];lia
theorem OkW.top(h:OkW ws):ws.sum<=7920:=by
 have h1:=uq (B:=99) λa ha=>(h.2.2 a ha).2;have:=h.2.1;lia
theorem divs(n T:Int):∀ws:UV,T*(ws.map λw=>n*w / T).sum+(ws.map λw=>n*w % T).sum=n*ws.sum
 |[]=>by simp
 |w::ws=>by
  have h1:=divs n T ws;have h2:=Int.mul_ediv_add_emod (n*w) T;simp only[List.map_cons,List.sum_cons,Int.mul_add];lia
theorem K9(n:Int)(ws:UV):ws.sum*lf n ws=(rs n ws).sum:=by
 have h:=divs n ws.sum ws;unfold lf fs rs;rw[Int.mul_sub,Int.mul_comm ws.sum n];lia
theorem Ms(h:OkW ws):∀r∈rs n ws,0<=r:=λr hr=>by
 obtain⟨w,_,rfl⟩:=zA5.mp hr;have:=h.pos;exact Int.emod_nonneg _ z00
theorem Mt(h:OkW ws):∀r∈rs n ws,r<=ws.sum:=λr hr=>by
 obtain⟨w,_,rfl⟩:=zA5.mp hr;have:=h.pos;exact Int.le_of_lt (Za8 _ z00)
theorem ur(n:Int)(ws:UV):(fs n ws).length=ws.length:=zA1 _
theorem yc(n:Int)(ws:UV):(rs n ws).length=ws.length:=zA1 _
theorem DX(h:OkW ws):0<=lf n ws:=by
 have h1:=K9 n ws;have h2:=nJ (Ms (n:=n) h);have h3:=h.pos;refine Int.le_of_not_gt λc=>?_;have:=Int.mul_le_mul_of_nonneg_left (c:=ws.sum) (show lf n ws<=-1 by lia) z00;lia
theorem Mu(h:OkW ws):lf n ws<=ws.length:=by
 have h1:=K9 n ws;have h2:=uq (Mt (n:=n) h);rw[yc]at h2;have h3:=h.pos;refine Int.le_of_not_gt λc=>?_;have:=Int.mul_le_mul_of_nonneg_left (c:=ws.sum) (show(ws.length:Int)+1<=lf n ws by lia) z00;rw[Int.mul_add]at this;lia
theorem Ka(h:OkW ws):lf ws.sum ws=0:=by
 have h1:=K9 ws.sum ws
 have h2:(rs ws.sum ws).sum<=0:=by
  have:=uq (B:=0) (l:=rs ws.sum ws) λr hr=>by
   obtain⟨w,_,rfl⟩:=zA5.mp hr;rw[Int.mul_emod_right];exact Za3 _
  lia
 have h3:=h.pos;have h4:=DX (n:=ws.sum) h;refine Int.le_antisymm (Int.le_of_not_gt λc=>?_) h4;have:=Int.mul_le_mul_of_nonneg_left (c:=ws.sum) (show 1<=lf ws.sum ws by lia) z00;lia
theorem sJ:∀pl l i,i<l.length->(gq l pl).getD i 0=l.getD i 0+pl.count i
 |[],l,i,_=>by simp[gq]
 |j::pl,l,i,h=>by
  show(gq (l.set j (l.getD j 0+1)) pl).getD i 0=_;rw[sJ pl _ i (by rw[Zao];exact h),List.count_cons];by_cases e:j=i
  .subst e;rw[zA7,Zaw h,Option.getD_some,beq_self_eq_true,zAz rfl];lia
  .rw[zA7,List.getElem?_set_ne e,<-zA7,zAy (by simp[e])];lia
structure PtOk(n:Int)(ws ps:UV):Prop where
 len:ps.length=ws.length
 sum:ps.sum=n
 bd:∀{i:Nat} {r w:Int},ps[i]?=some r->ws[i]?=some w->0<=r/\r<=w
theorem sum_set:∀{l:UV} {i:Nat} {v:Int},i<l.length->(l.set i v).sum=l.sum-l.getD i 0+v
 |[],_,_,h=>absurd h (Nat.not_lt_zero _)
 |a::l,0,v,_=>by
  rw[List.set_cons_zero,Zaf,Zaf];show v+l.sum=a+l.sum-a+v;lia
 |a::l,i+1,v,h=>by
  have:=sum_set (l:=l) (i:=i) (v:=v) (Nat.lt_of_succ_lt_succ h);rw[List.set_cons_succ,Zaf,Zaf,this];show a+(l.sum-l.getD i 0+v)=a+l.sum-l.getD i 0+v;lia
theorem sO:∀pl l,(∀i∈pl,i<l.length)->(gq l pl).sum=l.sum+pl.length
 |[],l,_=>by
  show l.sum=l.sum+((0:Nat):Int);lia
 |i::pl,l,h=>by
  have:=sO pl (l.set i (l.getD i 0+1)) λj hj=>by
   rw[Zao];exact h j (.tail _ hj)
  show(gq (l.set i (l.getD i 0+1)) pl).sum=_;rw[this,sum_set (h i (.head _)),zAe];lia
theorem Mv(ok:OkW ws)(n0:0<=n)(n1:n<=ws.sum)(nd:pk.Nodup)(lt:∀i∈pk,i<ws.length)(hl:pk.length=(lf n ws).toNat):PtOk n ws (gq (fs n ws) pk):=by
 have hp:=ok.pos;refine⟨by rw[nH,ur],?_,λ{i r w} hr hw=>?_⟩
 .have:=sO pk (fs n ws) λi hi=>by
   rw[ur];exact lt i hi
  have l0:=DX (n:=n) ok;have e:lf n ws=n-(fs n ws).sum:=rfl;lia
 .have hi:i<ws.length:=(zAa.mp hw).1;have g:=sJ pk (fs n ws) i (by rw[ur];exact hi);rw[zA7,hr]at g
  have ef:(fs n ws).getD i 0=n*w / ws.sum:=by
   unfold fs;rw[zA7,zAb,hw];rfl
  rw[ef]at g;have g:r=n*w / ws.sum+((pk.count i:Nat):Int):=g;have w1:=ok.2.2 w (zB6 hw);have c1:pk.count i<=1:=List.nodup_iff_count.mp nd i;have q0:0<=n*w / ws.sum:=Int.ediv_nonneg (Int.mul_nonneg n0 z00) z00
  have q1:n*w / ws.sum<=w:=by
   refine Int.ediv_le_of_le_mul z00 ?_;rw[Int.mul_comm w];exact Int.mul_le_mul_of_nonneg_right n1 z00
  by_cases c0:pk.count i=0
  .rw[c0]at g;lia
  .have pos:0<pk.length:=List.length_pos_of_mem (a:=i) (List.count_pos_iff.mp (Nat.pos_of_ne_zero c0))
   have ne:n≠ws.sum:=λz=>by
    rw[z,Ka ok]at hl;have:pk.length=0:=hl;lia
   have q2:n*w / ws.sum<w:=by
    refine Int.ediv_lt_of_lt_mul z00 ?_;rw[Int.mul_comm w];exact Int.mul_lt_mul_of_pos_right z00 z00
   lia
theorem sS{ws:UV}{Fin:List V->Hp->Prop}(f:Int->Int)(ep:H0 p=some (.tup (ws.map V.int)))(hl:ws.length<sizeLine)
  (kD:∀z Q,z∈ws->Q (.int (f z)) H0->te (dQ.set 0 (some (.int z))) H0 Q) (fin:Fin ((ws.map f).map V.int) H0):oh (Itt K p) (bG 0) tU te Fin dQ H0:=by
 refine cX ws.length (λi ys σ H=>H=H0/\(∀o,σ.set 0 o=dQ.set 0 o)/\ys=((ws.take i).map f).map V.int) ⟨rfl,λ_=>rfl,rfl⟩ hl ?_ ?_
 .rintro i ys σ H hi hy ⟨rfl,fR,rfl⟩;have hz:(ws.map V.int)[i]?=some (.int ws[i]):=by rw[zAb,zA0 hi];rfl
  refine⟨⟨_,_,SqT.of ep,hz⟩,λv H' y' R hR=>?_⟩;obtain⟨rfl,y'⟩:=y';have hv:=y' _ (SqT.of ep);rw[hz]at hv;cases hv;show te (σ.set 0 (some (.int ws[i]))) _ _;rw[fR];refine kD ws[i] _ (zAh hi) (hR _ _ _ ⟨rfl,λo=>by rw[List.set_set],?_⟩);rw[zAj,zA0 hi,zA4,zA4];rfl
 .rintro ys σ H hy ⟨rfl,fR,rfl⟩;refine⟨⟨_,SqT.of ep,by rw[zA1];exact zA3 _⟩,?_⟩;rw[zAm];exact fin
def wD(ws:UV):PyData:=.tuple (ws.map PyData.int)
theorem w5:∀(r:UV),szs (r.map PyData.int)=r.length
 |[]=>rfl
 |_::r=>by
  show 1+szs (r.map PyData.int)=r.length+1;rw[w5 r,Nat.add_comm]
theorem NQ(ws:UV):sz (wD ws)=1+ws.length:=by
 show 1+szs (ws.map PyData.int)=_;rw[w5]
theorem NT(h:OkW ws):jy (wD ws)=true:=by
 unfold jy;rw[zAc];refine⟨?_,Zae.mpr λd hd=>?_⟩
 .show(true&&(decide (1<=((ws.map PyData.int).length:Int))&&decide (((ws.map PyData.int).length:Int)<=80)))=true;have h1:=h.1;have h2:=h.2.1;rw[zA1,zAu z00,zAu z00];rfl
 .obtain⟨w,hw,rfl⟩:=zA5.mp hd;have:=h.2.2 w hw;show(true&&(decide (1<=w)&&decide (w<=99)))=true;rw[zAu this.1,zAu this.2];rfl
inductive SpRefuseI(vs:List V)(H:Hp)(Q:VK):Prop
 |mk:∀n p ws,(vs=[.int n,.ref p])->(H p=some (.tup (ws.map V.int)))->(OkW ws)->(0<=n)->(n<=ws.sum)->(∀H',Same H H'->Q .non H')->SpRefuseI  vs H Q
def wg:Sp:=λvs H Q _=>SpRefuseI  vs H Q
inductive SpPlacesI(vs:List V)(H:Hp)(Q:VK):Prop
 |mk:∀p rests,(vs=[.ref p])->(H p=some (.lst ((rests:UV).map V.int)))->(rests.length<sizeLine)->(∀H' q (pl:List Nat),pl.Perm (List.range rests.length)->Same H H'->H q=none->H' q=some (.lst (pl.map λj:Nat=>V.int (j:Int)))->Q (.ref q) H')->SpPlacesI  vs H Q
def wj:Sp:=λvs H Q _=>SpPlacesI  vs H Q
inductive SpPartsI(vs:List V)(H:Hp)(Q:VK):Prop
 |mk:∀n p ws,(vs=[.int n,.ref p])->(H p=some (.tup (ws.map V.int)))->(OkW ws)->(0<=n)->(n<=ws.sum)->(∀H' q ps,PtOk n ws ps->Same H H'->H' q=some (.tup (ps.map V.int))->Q (.ref q) H')->SpPartsI  vs H Q
def spParts:Sp:=λvs H Q _=>SpPartsI  vs H Q
def jj(H:Hp)(a:Addr):Nat:=match H a with
 |some (.tup [_,.int y])=>y.toNat
 |_=>0
def rowAt(H:Hp)(a:Addr):UV:=match H a with
 |some (.tup [.int x,.int y])=>[x,y]
 |_=>[]
theorem Mw(h:rests[i]?=some x):rr rests i=x:=by
 unfold rr;rw[zA7,h];rfl
section
theorem NZ:FnScope ["sacks","weights"] ["sacks","weights"] (az (top 49)):=fQS
theorem ok_refuse(F:Fun K "refuse_unpartable" "refuse_unpartable" (top 49) f fd)(Ts:mg "sum"=none)(c1:Cal P w K mg base 4 "are_weights" ["thing"] (spT jy))(c2:Cal P w K mg base 2 "is_whole_from" ["thing","least","most"] (jP dN)):
  FnOk P w K mg base CX0 5 f fd ["sacks","weights"] wg:=by
 refine F.oq NZ λcdv A outer s H vs Q E hr h=>?_;obtain⟨n,p,ws,rfl,ep,ok,n0,n1,q⟩:=h
 refine⟨_,aB (bR (cg (bL (aG c1 hr (aM (pv 1) aj)))) (aF dO) aY)
  (aF (bR (cg (bL (aG c2 hr (aM (pv 0) (aM au (aM (aK (gM rfl) rfl Ts boot_sum (aq (pv 1) aj)) aj)))))) (aF dO) aY)),?_⟩
 refine aC ?_;refine⟨_,rfl,λ_=>False,_,wD ws,rfl,.tup ep (IsThs.ints ws),by rw[NQ];have:=ok.2.1;lia,λH1 s1=>⟨_,rfl,?_⟩⟩;rw[NT ok];refine aX ?_;dsimp only;refine⟨_,rfl,_,rfl,p,ws,rfl,.inr (SqT.of (s1 _ _ ep)),λ_=>False,_,.int n,0,_,rfl,.int n,(by show 1<=4000;decide),λH2 s2=>⟨_,rfl,?_⟩⟩
 have e:dN (.int n) 0 ws.sum=true:=by
  show(true&&(decide (0<=n)&&decide (n<=ws.sum)))=true;rw[zAu n0,zAu n1];rfl
 rw[e];exact aX (q H2 (s1.trans s2))
theorem sc13:FnScope ["rests","ranked"] ["rests"] (az (top 50)):=fQS
theorem ok_places(F:Fun K "places_by_rest" "places_by_rest" (top 50) f fd)(Te:mg "enumerate"=none)(Ts:mg "sorted"=none):FnOk P w K mg base CX0 1 f fd ["rests"] wj:=by
 refine F.oq sc13 λcdv A outer s H vs Q E hr h=>?_;obtain⟨p,rests,rfl,ep,hz,q⟩:=h
 refine⟨_,aB (pss 1 sc13.nd (aK ug rfl Ts boot_sorted (aq (bW (g:=lA K 2 (bY (bG 0) (bY (bG 1) mQ))) ["at","rest"] [none,none] rfl (ZT.pi_enum false rfl Te (aq (pv 0) aj))
   (λC fp z06 s₂ H₂=>⟨dW rfl rfl (ao (bw (i:=0) (nd2 _ _ z02) rfl (Or.inl rfl) (Or.inr rfl)) (ao (bw (i:=1) (nd2 _ _ z02) rfl (Or.inl rfl) (Or.inr rfl)) aV)),bV,
    bA (aq (uY pB (pv 1)) (aq (pv 0) aj))⟩) (λC=>trivial) ⟨rfl,rfl,rfl,rfl⟩) aj)))
  (aF (aN (bW (g:=lA K 2 (bY (bG 0) (bY (bG 1) mQ))) ["minus","at"] [none,none] rfl (dC (pv 1))
   (λC fp z06 s₂ H₂=>⟨dW rfl rfl (ao (bw (i:=0) (nd2 _ _ z02) rfl (Or.inl rfl) (Or.inr rfl)) (ao (bw (i:=1) (nd2 _ _ z02) rfl (Or.inl rfl) (Or.inr rfl)) aV)),bV,
    pv 1⟩) (λC=>trivial) ⟨rfl,rfl,rfl,rfl⟩))),?_⟩
 refine aC ?_;refine⟨_,rfl,p,_,rfl,SqL.of ep,cX rests.length (λi ys σ Hc=>Same H Hc/\(∃o1 o2,σ=[o1,o2])/\∃ts:List Addr,ys=ts.map V.ref/\∀j,j<i->∃a,ts[j]?=some a/\Hc a=some (.tup [.int (-(rr rests j)),.int (j:Int)])) ⟨Same.refl H,⟨_,_,rfl⟩,[],rfl,λj hj=>absurd hj (Nat.not_lt_zero _)⟩ hz ?_ ?_⟩
 .rintro i ys σ Hc hi hy ⟨s1,⟨o1,o2,rfl⟩,ts,rfl,zh⟩;rw[zA1]at hy;have mT:SqL K Hc p (rests.map V.int):=SqL.of (s1 _ _ ep)
  have hx:(rests.map V.int)[i]?=some (.int (rr rests i)):=by
   rw[zAb,zA0 hi,Mw (zA0 hi)];rfl
  refine⟨⟨_,_,mT,hx⟩,λv H' y R hR=>?_⟩;obtain⟨T,nT,rfl,y⟩:=y;obtain⟨x',cS,rfl⟩:=y _ mT;rw[hx]at cS;cases cS;have s2:=s1.updR (o:=.tup [.int (i:Int),.int (rr rests i)]) nT;refine⟨T,_,rfl,SqT.of aa,rfl,_,_,rfl,_,_,rfl,rfl,_,rfl,rr rests i,rfl,_,rfl,zL,λt ht=>?_⟩;refine hR _ _ _ ⟨s2.updR ht,⟨_,_,rfl⟩,ts++[t],by rw[zA4];rfl,λj hj=>?_⟩;by_cases e:j<i
  .obtain⟨a,h1,h2⟩:=zh j e;refine⟨a,by rw[zBa z00];exact h1,?_⟩;exact Same.upd ht _ _ (Same.upd nT _ _ h2)
  .have e:j=i:=z00
   subst e;refine⟨t,by rw[zB9 z00,hy,Nat.sub_self];rfl,aa⟩
 .rintro ys σ Hc hy ⟨s1,_,ts,rfl,zh⟩;rw[zA1]at hy;refine⟨⟨_,SqL.of (s1 _ _ ep),by rw[zA1];exact zA3 _⟩,λD hD=>?_⟩;have s2:=s1.updR (o:=.lst (ts.map V.ref)) hD
  have w9:∀j,j<rests.length->∃a,ts[j]?=some a/\upd Hc D (.lst (ts.map V.ref)) a=some (.tup [.int (-(rr rests j)),.int (j:Int)]):=λj hj=>by
   obtain⟨a,h1,h2⟩:=zh j hj;exact⟨a,h1,Same.upd hD _ _ h2⟩
  have eD:=aa (H:=Hc) (a:=D) (o:=.lst (ts.map V.ref));generalize upd Hc D (.lst (ts.map V.ref))=H2 at s2 w9 eD⊢;clear zh hD s1
  have kX:∀a∈ts,∃j,j<rests.length/\H2 a=some (.tup [.int (-(rr rests j)),.int (j:Int)]):=λa ha=>by
   obtain⟨j,hj,e⟩:=Zaq ha;obtain⟨b,h1,h2⟩:=w9 j z00;rw[zA0 hj]at h1;injection h1 with h1;refine⟨j,z00,?_⟩;rw[<-e,h1];exact h2
  refine⟨D,ts,rowAt H2,rfl,SqL.of eD,λa ha=>?_,λq' l' hq pm=>?_⟩
  .obtain⟨j,hj,e⟩:=kX a ha;have er:rowAt H2 a=[-(rr rests j),(j:Int)]:=by unfold rowAt;rw[e]
   rw[er];exact⟨SqT.of e,by simp⟩
  have xb:∀a∈l',∃j,j<rests.length/\H2 a=some (.tup [.int (-(rr rests j)),.int (j:Int)]):=λa ha=>kX a (pm.mem_iff.mp ha)
  have sn:∀a∈l',H2 a=some (.tup [.int (-(rr rests (jj H2 a))),.int (jj H2 a:Int)])/\rowAt H2 a=[-(rr rests (jj H2 a)),(jj H2 a:Int)]:=λa ha=>by
   obtain⟨j,hj,e⟩:=xb a ha;have er:rowAt H2 a=[-(rr rests j),(j:Int)]:=by unfold rowAt;rw[e]
   have es:jj H2 a=j:=by unfold jj;rw[e];exact zAi j
   rw[er,es];exact⟨e,rfl⟩
  have ord:(l'.map (jj H2)).Perm (List.range rests.length):=by
   refine(pm.map _).trans (List.Perm.of_eq (List.ext_getElem? λj=>?_));by_cases hj:j<rests.length
   .obtain⟨a,h1,h2⟩:=w9 j hj;rw[zAb,h1,List.getElem?_range hj];show some (jj H2 a)=some j;unfold jj;rw[h2];exact congrArg some (zAi j)
   .rw[Zay (by rw[zA1];lia),Zay (by rw[List.length_range];lia)]
  have s3:=s2.updR (o:=.lst (l'.map V.ref)) hq;have YD:l'.length=rests.length:=by rw[pm.length_eq,hy]
  have DD:=aa (H:=H2) (a:=q') (o:=.lst (l'.map V.ref));have KS:∀a∈l',upd H2 q' (.lst (l'.map V.ref)) a=some (.tup [.int (-(rr rests (jj H2 a))),.int (jj H2 a:Int)]):=λa ha=>Same.upd hq _ _ (sn a ha).1;generalize jj H2=sd at ord KS;generalize upd H2 q' (.lst (l'.map V.ref))=H3 at s3 DD KS⊢;dsimp only;refine dZ ?_;refine⟨_,rfl,q',rfl,⟨_,SqL.of DD⟩,cX rests.length (λi ys σ Hc=>Same H3 Hc/\(∃o1 o2,σ=[o1,o2])/\ys=((l'.take i).map sd).map λj:Nat=>V.int (j:Int)) ⟨Same.refl H3,⟨_,_,rfl⟩,rfl⟩ hz ?_ ?_⟩
  .rintro i ys σ Hc hi hy ⟨s4,⟨o1,o2,rfl⟩,rfl⟩;have pb:i<l'.length:=z00
   have hu:(l'.map V.ref)[i]?=some (.ref l'[i]):=by rw[zAb,zA0 pb];rfl
   refine⟨⟨_,_,SqL.of (s4 _ _ DD),hu⟩,λv H' y R hR=>?_⟩;obtain⟨rfl,y⟩:=y;have hv:=y _ (SqL.of (s4 _ _ DD));rw[hu]at hv;cases hv;refine⟨l'[i],_,rfl,SqT.of (s4 _ _ (KS _ (zAh pb))),rfl,_,_,rfl,_,_,rfl,rfl,_,rfl,hR _ _ _ ⟨s4,⟨_,_,rfl⟩,?_⟩⟩;rw[zAj,zA0 pb,zA4,zA4];rfl
  .rintro ys σ Hc sP ⟨s4,_,rfl⟩;refine⟨⟨_,SqL.of (s4 _ _ DD),by rw[zA1];lia⟩,λD' Oz=>?_⟩;have s5:=s3.trans s4;have hn:H D'=none:=s5.free Oz;refine q _ D' _ ord (s5.updR Oz) hn ?_;rw[aa,Zal z00]
end
theorem iR{xs:List V}(h:i<=xs.length):jn xs none (some (i:Int))=xs.take i:=by
 unfold jn;rw[HT.sIx_none,HT.sIx_nat,List.drop_zero,Nat.min_eq_left h,Nat.sub_zero]
theorem Hm(h:j<n):ixN n (j:Int)=some j:=by
 unfold ixN;rw[zAz z00,zAz z00,zAi]
theorem Kc(ok:OkW ws):ws.length<sizeLine:=by
 have:=ok.2.1;rw[sizeLine_eq];lia
section
theorem Mx:(["weight","sacks","together"]:List Str).Nodup:=by decide +kernel
theorem sc14:FnScope ["sacks","weights","together","parts","rests","left","at"] ["sacks","weights"] (az (top 51)):=fQS
theorem ok_parts(F:Fun K "parts_of" "parts_of" (top 51) f fd)(T:Mg mg)(Ts:mg "sum"=none)(c1:Cal P w K mg base 1 "places_by_rest" ["rests"] wj):FnOk P w K mg base CX0 2 f fd ["sacks","weights"] spParts:=by
 refine F.oq sc14 λcdv A outer s H vs Q E hr h=>?_;obtain⟨n,p,ws,rfl,ep,ok,n0,n1,q⟩:=h
 refine⟨_,aB (tE (i:=2) sc14.nd rfl (Or.inr rfl) (aK (gM rfl) rfl Ts boot_sum (aq (pv 1) aj)))
  (aB (jJ (i:=3) ["weight","sacks","together"] [none,some 0,some 2] rfl sc14.nd rfl (Or.inl rfl) (gF (pv 1))
   (λC fp z06 s₂ H₂=>⟨pgn 0 Mx,bV,aO tH (aO gR (pv 1) (pv 0)) (pv 2)⟩) (λC=>cI (cI trivial)) ⟨rfl,rfl,rfl,rfl⟩)
  (aB (jJ (i:=4) ["weight","sacks","together"] [none,some 0,some 2] rfl sc14.nd rfl (Or.inl rfl) (gF (pv 1))
   (λC fp z06 s₂ H₂=>⟨pgn 0 Mx,bV,aO jY (aO gR (pv 1) (pv 0)) (pv 2)⟩) (λC=>cI (cI trivial)) ⟨rfl,rfl,rfl,rfl⟩)
  (aB (pss 5 sc14.nd (aO dY (pv 0) (aK (gM rfl) rfl Ts boot_sum (aq (pv 3) aj))))
  (aB (cG zB7 rfl (dC (cu Gi (aG c1 hr (aq (pv 4) aj)) cR (cU (pv 5)))) (pgn 6 sc14.nd)
   (aF (jF (pv 3) (pv 6) fX au pA set_list)))
  (aF (aN (cH cZ rfl T.tuple boot_tuple (aq (pv 3) aj)))))))),?_⟩
 have hp:=ok.pos;have ht:=ok.top;have DE:=Kc ok;refine aC ?_;refine⟨_,rfl,p,ws,rfl,.inr (SqT.of ep),?_⟩;dsimp only;refine aC ?_;refine⟨_,rfl,p,rfl,⟨_,SqT.of ep⟩,sS (λz=>n*z / ws.sum) ep DE (λz Q hz h=>⟨_,rfl,_,rfl,_,_,rfl,rfl,.inl ⟨z00,z00⟩,_,rfl,_,_,rfl,rfl,⟨z00,z00⟩,h⟩) ?_⟩;rw[show ws.map (λz=>n*z / ws.sum)=fs n ws from rfl];intro l1 bX;have s1:=Same.upd (o:=.lst ((fs n ws).map V.int)) bX;have el1:=aa (H:=H) (a:=l1) (o:=.lst ((fs n ws).map V.int));generalize upd H l1 _=H1 at s1 el1⊢;dsimp only;refine aC ?_;refine⟨_,rfl,p,rfl,⟨_,SqT.of (s1 _ _ ep)⟩,sS (λz=>n*z % ws.sum) (s1 _ _ ep) DE (λz Q hz h=>⟨_,rfl,_,rfl,_,_,rfl,rfl,.inl ⟨z00,z00⟩,_,rfl,_,_,rfl,rfl,(by show 0<ws.sum;lia),h⟩) ?_⟩;rw[show ws.map (λz=>n*z % ws.sum)=rs n ws from rfl];intro l2 cx;have s2:=s1.updR (o:=.lst ((rs n ws).map V.int)) cx;have el2:=aa (H:=H1) (a:=l2) (o:=.lst ((rs n ws).map V.int));have nh:=Same.upd (o:=.lst ((rs n ws).map V.int)) cx _ _ el1;have sQ:H l1=none:=bX;clear bX cx;generalize upd H1 l2 _=H2 at s2 el2 nh⊢;clear el1 s1;dsimp only;refine aC ?_;refine⟨_,rfl,_,rfl,l1,fs n ws,rfl,.inl (SqL.of nh),_,_,rfl,rfl,?_⟩;show _;dsimp only;rw[show n-(fs n ws).sum=lf n ws from rfl];refine aC ?_;refine⟨_,rfl,l2,rs n ws,rfl,el2,by rw[yc];exact DE,λH3 l3 pl ord s3 S7 el3=>⟨_,rfl,_,rfl,l3,_,rfl,SqL.of el3,λl4 sR=>⟨l4,rfl,⟨_,SqL.of aa⟩,?_⟩⟩⟩;have YE:=DX (n:=n) ok;have YF:=Mu (n:=n) ok;rw[yc]at ord;have S8:=ord.length_eq;rw[List.length_range]at S8
 have KU:jn (pl.map λj:Nat=>V.int (j:Int)) none (some (lf n ws))=(pl.take (lf n ws).toNat).map λj:Nat=>V.int (j:Int):=by
  rw[List.map_take,<-iR (i:=(lf n ws).toNat) (by rw[zA1];lia),show((lf n ws).toNat:Int)=lf n ws by lia]
 rw[KU];have inr:∀j∈pl.take (lf n ws).toNat,j<ws.length:=λj hj=>Zan.mp (ord.mem_iff.mp (List.mem_of_mem_take hj));have fin:=Mv ok n0 n1 ((ord.nodup_iff.mpr List.nodup_range).sublist (List.take_sublist _ _)) inr (by rw[zAd];lia);generalize pl.take (lf n ws).toNat=pk at fin inr sR⊢;have s4:=(s2.trans s3).updR (o:=.lst (pk.map λj:Nat=>V.int (j:Int))) sR;have el4:=aa (H:=H3) (a:=l4) (o:=.lst (pk.map λj:Nat=>V.int (j:Int)));have DF:=Same.upd (o:=.lst (pk.map λj:Nat=>V.int (j:Int))) sR _ _ (s3 _ _ nh)
 have n14:l4≠l1:=λz=>by
  rw[z,s3 _ _ nh]at sR;cases sR
 generalize upd H3 l4 (.lst (pk.map λj:Nat=>V.int (j:Int)))=H4 at s4 el4 DF⊢;clear sR el3 S7 s3 nh el2 s2;refine gQ (xs:=pk.map λj:Nat=>V.int (j:Int)) (λi σ Hc=>∃o6,σ=[some (.int n),some (.ref p),some (.int ws.sum),some (.ref l1),some (.ref l2),some (.int (lf n ws)),o6]/\Same H Hc/\Hc l4=some (.lst (pk.map λj:Nat=>V.int (j:Int)))/\Hc l1=some (.lst ((gq (fs n ws) (pk.take i)).map V.int))) ?_ ?_ ?_ ?_
 .exact⟨none,rfl,s4,el4,DF⟩
 .rintro i σ Hc hi ⟨o6,rfl,s5,e4,e1⟩;exact SqL.of e4
 .rintro i v σ Hc hv ⟨o6,rfl,s5,e4,e1⟩;rw[zAb]at hv
  cases hj:pk[i]? with
  |none=>rw[hj]at hv;cases hv
  |some j=>
   rw[hj]at hv;cases hv;refine aJ ?_
   have kp:∀o,Same H (upd Hc l1 o):=λo b u e=>by
    rw[aA (aD e sQ)];exact s5 _ _ e
   have ay:j<(gq (fs n ws) (pk.take i)).length:=by
    rw[nH,ur];exact inr j (zB6 hj)
   have hx:((gq (fs n ws) (pk.take i)).map V.int)[((j:Nat):Int).toNat]?=some (.int ((gq (fs n ws) (pk.take i)).getD j 0)):=by
    rw[zAi,zAb,zA0 ay,zA7,zA0 ay];rfl
   refine⟨_,rfl,_,rfl,l1,_,(j:Int),_,rfl,rfl,SqL.of e1,z00,hx,_,_,rfl,rfl,l1,_,(j:Int),j,rfl,rfl,e1,Hm (by rw[zA1];exact ay),?_⟩;refine⟨_,rfl,kp _,by rw[aA n14];exact e4,?_⟩;rw[aa,zAj,hj];show _=some (HO.lst ((gq (fs n ws) (pk.take i++[j])).map V.int));rw[xZ,List.map_set]
 .rintro σ Hc ⟨o6,rfl,s5,e4,e1⟩;rw[zA1,zAm]at e1;dsimp only;refine dZ ?_;exact⟨_,rfl,l1,_,rfl,.inl ⟨SqL.of e1,λt ht=>q _ t _ fin (s5.updR ht) aa⟩⟩
theorem sc15:FnScope ["sacks","weights"] ["sacks","weights"] (az (top 52)):=fQS
theorem ok_parted(F:Fun K "parted" "parted" (top 52) f fd)(c1:Cal P w K mg base 5 "refuse_unpartable" ["sacks","weights"] wg)(c2:Cal P w K mg base 2 "parts_of" ["sacks","weights"] spParts):FnOk P w K mg base CX0 6 f fd ["sacks","weights"] spParts:=by
 refine F.oq sc15 λcdv A outer s H vs Q E hr h=>?_;obtain⟨n,p,ws,rfl,ep,ok,n0,n1,q⟩:=h;refine⟨_,aB (cA (aG c1 hr (aq (pv 0) (aq (pv 1) aj)))) (aF (aN (aG c2 hr (aq (pv 0) (aq (pv 1) aj))))),?_⟩;refine aC ?_;refine⟨_,rfl,_,rfl,n,p,ws,rfl,ep,ok,n0,n1,λH1 s1=>?_⟩;dsimp only;refine dZ ?_;exact⟨_,rfl,_,rfl,n,p,ws,rfl,s1 _ _ ep,ok,n0,n1,λH2 t ps pk s2 et=>q H2 t ps pk (s1.trans s2) et⟩
end
def SS(st:Addr):Addr->Prop:=λa=>a≠st/\a≠sysModules
theorem Dr.thS(g:Dr st H H1)(h0:iU H st)(t:IsTh (SS st) H v d):IsTh (SS st) H1 v d:=t.keep (g.tups h0) (λb o z e=>g.bt b o e z.1) λ_ _ z _=>z
theorem Dr.thsS(g:Dr st H H1)(h0:iU H st)(t:IsThs (SS st) H vs ds):IsThs (SS st) H1 vs ds:=t.keep (g.tups h0) (λb o z e=>g.bt b o e z.1) λ_ _ z _=>z
section
theorem fu:OpR X (binaryOp .Add) (λx y H Q=>∃a b xs ys,x=.ref a/\y=.ref b/\H a=some (.tup xs)/\H b=some (.tup ys)/\xs.length+ys.length<=sizeLine/\∀c H',Same H H'->H' c=some (.tup (xs++ys))->Q (.ref c) H'):=by
 intro z06 s σ H x y v u Q I rx ry h;obtain⟨a,b,xs,ys,rfl,rfl,ha,hb,hz,q⟩:=h;by_cases hx:xs=[]
 .subst hx;exact vD z06 s σ H _ _ v u Q I rx ry ⟨a,b,ys,rfl,rfl,SqT.of ha,SqT.of hb,q b H (Same.refl H) hb⟩
 .refine yx z06 s σ H _ _ v u Q I rx ry ⟨a,b,xs,ys,rfl,rfl,SqT.of ha,SqT.of hb,hx,hz,λe=>q a H (Same.refl H) ?_,λ_ p hp=>q p _ (Same.upd hp) aa⟩;rw[e,zAn];exact ha
theorem dF:SlR X (λx lo hi H Q=>∃a xs,x=.ref a/\H a=some (.tup xs)/\∀c H',Same H H'->H' c=some (.tup (jn xs lo hi))->Q (.ref c) H'):=by
 intro z06 s σ H x v vl vu lo hi sl Q I rx hs pl pu h;obtain⟨a,xs,rfl,ha,q⟩:=h;refine yL z06 s σ H _ v vl vu lo hi sl Q I rx hs pl pu ⟨a,xs,rfl,SqT.of ha,λhw=>q a H (Same.refl H) ?_,λ_ p hp=>q p _ (Same.upd hp) aa⟩;rw[ha];unfold jn;rw[hw.1,hw.2,List.drop_zero,Nat.sub_zero,zAm]
end
abbrev J8:R2:=λx y H Q=>∃a b xs ys,x=.ref a/\y=.ref b/\H a=some (.tup xs)/\H b=some (.tup ys)/\xs.length+ys.length<=sizeLine/\∀c H',Same H H'->H' c=some (.tup (xs++ys))->Q (.ref c) H'
abbrev O1:V->Option Int->Option Int->Hp->VK->Prop:=λx lo hi H Q=>∃a xs,x=.ref a/\H a=some (.tup xs)/\∀c H',Same H H'->H' c=some (.tup (jn xs lo hi))->Q (.ref c) H'
def TuE(σ:St)(H:Hp)(t:TE)(vs:List V):Prop:=∀H0,Same H H0->∀Q,(∀c H',Same H0 H'->H' c=some (.tup vs)->Q (.ref c) H')->t σ H0 Q
section
theorem qm(h:σ[i]?=some (some (.ref p)))(e:H p=some (.tup vs)):TuE σ H (iz i) vs:=λH0 s0 Q q=>⟨_,h,q p H0 (Same.refl _) (s0 _ _ e)⟩
theorem DY(ha:TuE σ H ta xs)(hb:TuE σ H tb ys)(hz:xs.length+ys.length<=4000):TuE σ H (tOp J8 ta tb) (xs++ys):=λH0 s0 Q q=>
 ha H0 s0 _ λc H1 s1 e1=>hb H1 (s0.trans s1) _ λc2 H2 s2 e2=>⟨c,c2,xs,ys,rfl,rfl,s2 _ _ e1,e2,by rw[sizeLine_eq];lia,λc3 H3 s3 e3=>q c3 H3 (s1.trans (s2.trans s3)) e3⟩
def PtE(σ:St)(H:Hp)(t:TO)(o:Option Int):Prop:=∀H0,Same H H0->∀Q,Q o H0->t σ H0 Q
theorem gJ:PtE σ H yw none:=λH0 _ Q q=>q
theorem ut(h:∀H',Ev σ H' te (.int i)):PtE σ H (rJ te) (some i):=λH0 _ Q q=>h H0 _ ⟨i,rfl,q⟩
theorem my(ha:TuE σ H ta xs)(hl:PtE σ H tl lo)(hh:PtE σ H th hi):TuE σ H (tSl O1 ta tl th) (jn xs lo hi):=λH0 s0 Q q=>
 ha H0 s0 _ λc H1 s1 e1=>hl H1 (s0.trans s1) _ (hh H1 (s0.trans s1) _ ⟨c,xs,rfl,e1,λc2 H2 s2 e2=>q c2 H2 (s1.trans s2) e2⟩)
theorem Kd(ha:TuE σ H ta xs):TuE σ H (LC K ta) xs.reverse:=λH0 s0 Q q=>
 ha H0 s0 _ λc H1 s1 e1=>⟨c,xs,rfl,SqT.of e1,λp hp=>q p _ (s1.updR hp) aa⟩
theorem Ea(h:∀H',Ev σ H' te v):TuE σ H (mW (bU te gW)) [v]:=λH0 s0 Q q=>h H0 _ ⟨by show 1<=sizeLine;decide,λp hp=>q p _ (Same.upd hp) aa⟩
theorem My(h:TuE σ H t vs)(ht:∀H',IsThs S H' vs ds):ThE S σ H t (.tuple ds):=λH0 s0 Q q=>h H0 s0 _ λc H' s e=>q _ H' s (.tup e (ht H'))
end
theorem nM:∀{ds:List PyData},(∀d∈ds,tame d=true)->iQ ds=true
 |[],_=>rfl
 |d::ds,h=>by
  show(tame d&&iQ ds)=true;rw[h d (.head _),nM λe he=>h e (.tail _ he)];rfl
theorem boot_list:bootBuiltins "list"=some (.type "list"):=by decide +kernel
section
end
theorem boot_dict:bootBuiltins "dict"=some (.type "dict"):=by decide +kernel
section
theorem Bt(h:σ[i]?=some (some (.int n))):PtE σ H (rJ (iz i)) (some n):=ut λ_=>fO h
theorem Mz(h:σ[i]?=some (some (.int n))):PtE σ H (rJ (tOp (rI0 λi j=>.int (i+j)) (iz i) (tC (.int 1)))) (some (n+1)):=ut λ_=>u9 (fO h) eZ
theorem MF:PtE σ H (rJ (tUn (rU λi=>.int (-i)) (tC (.int 1)))) (some (-1)):=λH0 _ Q q=>⟨1,rfl,_,rfl,q⟩
theorem O2:PtE σ H (rJ (tC (.int n))) (some n):=ut λ_=>eZ
theorem mz(ha:TuE σ H ta xs)(hb:TuE σ H tb ys)(hx:xs.length<=1000)(hy:ys.length<=1000):TuE σ H (tOp J8 ta tb) (xs++ys):=DY ha hb z00
theorem jz(h:vs.length<=80):(jn vs lo hi).length<=1000:=by
 have:=gh vs lo hi;lia
end
theorem MJ(KW:capσ σ src=[none])(hS:∀H',Same H H'->∀p,H' p=none->p≠sysModules->S p):
  ThE S σ H (tCB (λxs H Q=>∃(p:Addr) (l:List Addr) (kvs:List (Key×V)),xs=[.ref p]/\H p=some (.lst (l.map V.ref))/\kvs.length=l.length/\(∀(j:Nat) kv,kvs[j]?=some kv->∃a,l[j]?=some a/\H a=some (.tup [kV kv.1,kv.2]))/\∀q,H q=none->q≠sysModules->Q (.ref q) (upd H q (.dK (km [] kvs))))
   (bU (v9 (M8 (tC (.str "ab"))) src (bG 0) tU (mW (bU (iz 0) (bU (tC (.int 1)) gW)))) gW)) (.dict [(.str "a",.int 1),(.str "b",.int 1)]):=λH0 s0 Q q=>by
 refine⟨"ab",rfl,by decide +kernel,?_⟩;rw[KW];have two:("ab":Str).cps.size=2:=by decide +kernel
 have l1:("ab":Str).cps[1]?=some 98:=by decide +kernel
 refine cX 2 (λi ys σ Hc=>Same H0 Hc/\(∃o,σ=[o])/\∃ts:List Addr,ys=ts.map V.ref/\(1<=i->∃a,ts[0]?=some a/\Hc a=some (.tup [.str ⟨#[97]⟩,.int 1]))/\(2<=i->∃a,ts[1]?=some a/\Hc a=some (.tup [.str ⟨#[98]⟩,.int 1]))) ⟨Same.refl _,⟨_,rfl⟩,[],rfl,λh=>absurd h z02,λh=>absurd h z02⟩ z02 ?_ ?_
 .rintro i ys σ Hc hi hy ⟨s1,⟨o,rfl⟩,ts,rfl,h1,h2⟩;rw[zA1]at hy;refine⟨by show i<("ab":Str).cps.size;rw[two];exact hi,λv H' yl R hR=>?_⟩;obtain⟨eH,c,hc,rfl⟩:=yl;subst H';refine aJ ?_;refine⟨_,rfl,zL,λt ht=>hR _ _ _ ⟨s1.updR ht,⟨_,rfl⟩,ts++[t],by rw[zA4];rfl,λ_=>?_,λ_=>?_⟩⟩
  .by_cases z:i=0
   .subst z;cases hc;exact⟨t,by rw[zB9 z00,hy];rfl,aa⟩
   .obtain⟨a,e1,e2⟩:=h1 z00;exact⟨a,by rw[zBa z00];exact e1,Same.upd ht _ _ e2⟩
  .have z:i=1:=z00
   subst z;rw[l1]at hc;cases hc;exact⟨t,by rw[zB9 z00,hy];rfl,aa⟩
 .rintro ys σ Hc hy ⟨s1,_,ts,rfl,h1,h2⟩;rw[zA1]at hy;refine⟨by show("ab":Str).cps.size<=2;rw[two];exact zA3 _,λD hD=>?_⟩;obtain⟨a,e1,e2⟩:=h1 z02;obtain⟨b,e3,e4⟩:=h2 z02;have la:(⟨#[97]⟩:Str)="a":=by decide +kernel
  have lb:(⟨#[98]⟩:Str)="b":=by decide +kernel
  rw[la]at e2;rw[lb]at e4;have m:=Same.upd (o:=.lst (ts.map V.ref)) hD;refine⟨D,ts,[(.inr "a",.int 1),(.inr "b",.int 1)],rfl,aa,by rw[hy];rfl,λj kv hj=>?_,λp hp np=>?_⟩
  .match j,hj with
   |0,hj=>cases hj;exact⟨a,e1,m _ _ e2⟩
   |1,hj=>cases hj;exact⟨b,e3,m _ _ e4⟩
   |j+2,hj=>simp at hj
  .refine q _ _ ((s1.updR hD).updR hp) ?_
   have em:km [] ([(.inr "a",.int 1),(.inr "b",.int 1)]:List (Key×V))=([(.inr "a",1),(.inr "b",1)]:List (Key×Int)).map λp=>(p.1,V.int p.2):=by decide +kernel
   rw[em];exact .dct (ks:=[(.inr "a",1),(.inr "b",1)]) (hS _ (s0.trans (s1.updR hD)) p hp np) aa
theorem qp(h:IsThs S H vs ds)(hi:i<ds.length):∃v d,vs[i]?=some v/\d∈ds/\IsTh S H v d:=by
 have hl:=h.length;have hv:vs[i]?=some vs[i]:=zA0 z00;obtain⟨d,hd,t⟩:=h.get hv;exact⟨_,d,hv,zB6 hd,t⟩
section
end
theorem boot_str:bootBuiltins "str"=some (.type "str"):=by decide +kernel
theorem Ke(hu:X.A.units+64<cLine):OpR X (compareOp .NotEq) (λx y H Q=>∃(a b:Addr) (ns:UV),x=.ref a/\y=.ref b/\H a=some (.tup (ns.map V.int))/\H b=some (.tup [])/\Q (.bl (!decide (ns=[]))) H):=by
 intro z06 s σ H x y v u Q I rx ry h;obtain⟨a,b,ns,rfl,rfl,ha,hb,q⟩:=h;obtain⟨as,ra,_⟩:=(IsTh.tup (S:=λ_=>False) ha (IsThs.ints ns)).reads I rx;obtain⟨bs,rb,_⟩:=(IsTh.tup (S:=λ_=>False) hb .nil).reads I ry
 have h1:SeqAt.shaped (.tuple (ns.map PyData.int))=true:=by
  simp[SeqAt.shaped,PyData.canLay0,PyData.depth,PySem.W.ke_canLayAll0,PySem.W.ke_depthAll]
 have h2:SeqAt.shaped (.tuple [])=true:=rfl
 have h3:SeqAt.noMix (.tuple (ns.map PyData.int)) (.tuple [])=true:=by
  cases ns<;>simp[SeqAt.noMix,SeqAt.noMixAll]
 have h4:PySem.Spec.same (.tuple (ns.map PyData.int)) (.tuple [])=decide (ns=[]):=by
  have:=PySem.W.ke_sameAll ns [];exact this
 refine PyProof.Rows.ne_dataH_same ra rb h1 h2 hu h3 ?_;rw[h4];exact⟨.bl _,H,I,rfl,q⟩
theorem uv(hr:Room k A):A.units+64<cLine:=by
 have:=hr.un;lia
theorem Hn:PySem.W.kitOne K (.type "int") (.type "str")=some false:=by kernel_rfl
theorem Eb(h:∀H',Ev σ H' t v)(hd:∀H',IsTh S H' v d):ThE S σ H t d:=λH0 _ Q q=>h H0 _ (q _ H0 (Same.refl _) (hd H0))
theorem fD:∀{a b:List PyData},szs (a++b)=szs a+szs b
 |[],b=>by show szs b=0+szs b;lia
 |x::a,b=>by
  show sz x+szs (a++b)=sz x+szs a+szs b;rw[fD];lia
section
theorem scC:FnScope [AAa,AAb,AAl,"_law_at"] [AAa,AAb,AAl] (az (top 86)):=fQS
end
end K33P
open K33P (top bD items intOf bH nd1 DQ um uo iy gn spT jP Mg boot_tuple boot_isinstance boot_all Cal aG sc1)
namespace K33
open PySem L2
def bF(d:PyData)(n:Int):Bool:=bH d n n&&(items d).all bD
def ie(d:PyData):Bool:=bF d 3&&(items d).all λx=>decide (0<=intOf x)&&decide (intOf x<=999)
def gG(d:PyData):Bool:=bH d 1 20&&(items d).all ie
def at_(d:PyData)(i:Nat):Int:=intOf ((items d).getD i .none)
def qu(a b c d e f:Int):Bool:=
 (decide (0<=a)&&decide (a<8))&&((decide (0<=b)&&decide (b<3))&&((decide (0<=c)&&(decide (c<=d)&&decide (d<=19)))&&((decide (1<=e)&&decide (e<=99))&&(decide (0<=f)&&decide (f<=1000000)))))
def jk(d:PyData):Bool:=bF d 6&&qu (at_ d 0) (at_ d 1) (at_ d 2) (at_ d 3) (at_ d 4) (at_ d 5)
def eG(d:PyData):Bool:=bH d 0 10&&(items d).all jk
inductive SpT1I(f:PyData->Int->Bool)(vs:List V)(H:Hp)(Q:VK):Prop
 |mk:∀S v d n,(vs=[v,.int n])->(IsTh S H v d)->(sz d<=4000)->(∀H',Same H H'->Q (.bl (f d n)) H')->SpT1I f vs H Q
def Ho(f:PyData->Int->Bool):Sp:=λvs H Q _=>SpT1I f vs H Q
theorem boot_int:bootBuiltins "int"=some (.type "int"):=by decide +kernel
theorem boot_bool:bootBuiltins "bool"=some (.type "bool"):=by decide +kernel
theorem eF(f:PyData->Bool)(fR:σ[i]?=some (some (.ref a)))(ea:H a=some (.tup xs))(r:IsThs S H xs ds)(hl:xs.length<sizeLine)
  (kD:∀v d H1 Q1,d∈ds->Same H H1->IsTh S H1 v d->(∀H',Same H1 H'->Q1 (.bl (f d)) H')->te ((capσ σ src).set j (some v)) H1 Q1) (q:∀H',Same H H'->Q (.bl (ds.all f)) H'):
  tCB (λxs H Q=>∃(p:Addr) (bs:List Bool),xs=[.ref p]/\SqL K H p (bs.map V.bl)/\Q (.bl (bs.all id)) H) (bU (v9 (Jr K (iz i)) src (bG j) tU te) gW) σ H Q:=by
 refine⟨_,fR,a,rfl,⟨xs,SqT.of ea⟩,oE (j:=j) f ea r hl kD λH2 s2 D hD=>⟨D,ds.map f,rfl,?_,?_⟩⟩
 .rw[<-vA];exact SqL.of aa
 .rw[CN];exact q _ (s2.updR hD)
structure Nums(mg:Str->Option Value):Prop where
 sorts:∃t,mg "SORTS"=some (.int 3 t)
 holders:∃t,mg "HOLDERS"=some (.int 8 t)
 year:∃t,mg "LAST_YEAR"=some (.int 19 t)
 clips:∃t,mg "MOST_CLIPS"=some (.int 20 t)
 proms:∃t,mg "MOST_PROMISES"=some (.int 10 t)
 wool:∃t,mg "MOST_WOOL"=some (.int 999 t)
 sacks:∃t,mg "MOST_SACKS"=some (.int 99 t)
 price:∃t,mg "MOST_PRICE"=some (.int 1000000 t)
theorem nO(h:bF d n=true):bH d n n=true/\∀x∈items d,bD x=true:=by
 unfold bF at h;rw[zAc]at h;exact⟨h.1,Zae.mp h.2⟩
theorem nQ(h:IsTh S H v d)(e:bD d=true):∃i,v=.int i/\d=.int i:=by
 cases h with
 |int i=>exact⟨i,rfl,rfl⟩
 |_=>cases e
theorem mD{α:Type}{l:List α}(h:l.length=n+1):∃a t,l=a::t/\t.length=n:=by
 cases l with
 |nil=>cases h
 |cons a t=>exact⟨a,t,rfl,Nat.succ.inj h⟩
theorem MK{α:Type}{l:List α}(h:l.length=5):∃a b c d e,l=[a,b,c,d,e]:=by
 obtain⟨a,l1,e1,h1⟩:=mD h;obtain⟨b,l2,e2,h2⟩:=mD h1;obtain⟨c,l3,e3,h3⟩:=mD h2;obtain⟨d,l4,e4,h4⟩:=mD h3;obtain⟨e,l5,e5,h5⟩:=mD h4;exact⟨a,b,c,d,e,by rw[e1,e2,e3,e4,e5,List.length_eq_zero_iff.mp h5]⟩
theorem Kf{α:Type}{l:List α}(h:l.length=6):∃a b c d e f,l=[a,b,c,d,e,f]:=by
 obtain⟨a,l1,e1,h1⟩:=mD h;obtain⟨b,c,d,e,f,e2⟩:=MK h1;exact⟨a,b,c,d,e,f,by rw[e1,e2]⟩
theorem iV(r:IsThs S H xs (d::ds))(e:bD d=true):∃i t,xs=.int i::t/\d=.int i/\IsThs S H t ds:=by
 cases r with
 |cons h1 r=>
  obtain⟨i,rfl,rfl⟩:=nQ h1 e;exact⟨i,_,rfl,rfl,r⟩
theorem qw(r:IsThs S H xs (d::ds)):∃v t,xs=v::t/\IsTh S H v d/\IsThs S H t ds:=by
 cases r with
 |cons h1 r=>exact⟨_,_,rfl,h1,r⟩
theorem nR(r:IsThs S H xs ds)(hl:ds.length=3):∃v0 v1 v2 d0 d1 d2,xs=[v0,v1,v2]/\ds=[d0,d1,d2]/\IsTh S H v0 d0/\IsTh S H v1 d1/\IsTh S H v2 d2:=by
 obtain⟨d0,l1,e1,h1⟩:=mD hl;obtain⟨d1,l2,e2,h2⟩:=mD h1;obtain⟨d2,l3,e3,h3⟩:=mD h2;have e:ds=[d0,d1,d2]:=by rw[e1,e2,e3,List.length_eq_zero_iff.mp h3]
 subst e;obtain⟨v0,t0,f0,i0,r0⟩:=qw r;obtain⟨v1,t1,f1,i1,r1⟩:=qw r0;obtain⟨v2,t2,f2,i2,r2⟩:=qw r1;cases r2;exact⟨v0,v1,v2,d0,d1,d2,by rw[f0,f1,f2],rfl,i0,i1,i2⟩
theorem Ec(r:IsThs S H xs ds)(hl:ds.length=6)(hw:∀x∈ds,bD x=true):
  ∃i1 i2 i3 i4 i5 i6,xs=[.int i1,.int i2,.int i3,.int i4,.int i5,.int i6]/\ds=[.int i1,.int i2,.int i3,.int i4,.int i5,.int i6]:=by
 obtain⟨d1,d2,d3,d4,d5,d6,rfl⟩:=Kf hl;obtain⟨i1,t1,e1,rfl,r1⟩:=iV r (hw _ z01);obtain⟨i2,t2,e2,rfl,r2⟩:=iV r1 (hw _ z01);obtain⟨i3,t3,e3,rfl,r3⟩:=iV r2 (hw _ z01);obtain⟨i4,t4,e4,rfl,r4⟩:=iV r3 (hw _ z01);obtain⟨i5,t5,e5,rfl,r5⟩:=iV r4 (hw _ z01);obtain⟨i6,t6,e6,rfl,r6⟩:=iV r5 (hw _ z01);cases r6;exact⟨i1,i2,i3,i4,i5,i6,by rw[e1,e2,e3,e4,e5,e6],rfl⟩
theorem Bu(h:bH (.tuple ds) n m=true):n<=(ds.length:Int)/\(ds.length:Int)<=m:=by
 have h:(true&&(decide (n<=(ds.length:Int))&&decide ((ds.length:Int)<=m)))=true:=h;rw[Bool.true_and,zAc]at h;exact⟨zB8 h.1,zB8 h.2⟩
theorem wu(F:Fun K "is_whole" "is_whole" (top 20) f fd)(T:Mg mg):FnOk P w K mg base CX0 1 f fd ["thing"] (spT bD):=by
 refine F.oq sc1 λcdv A outer s H vs Q E hr h=>?_;obtain⟨S,v,d,rfl,th,hz,q⟩:=h
 refine⟨_,aF (aN (cF (aK bK rfl T.isinstance boot_isinstance (aM (pv 0) (aM (dh rfl T.int boot_int (v:=.ty "int") rfl) aj)))
  (eV (Cj (aK bK rfl T.isinstance boot_isinstance (aM (pv 0) (aM (dh rfl T.bool boot_bool (v:=.ty "bool") rfl) aj))))))),?_⟩
 refine⟨_,rfl,v,_,"int",mY d,rfl,th.ty,yH d,_,rfl,?_⟩;have fin:=q H (Same.refl H);unfold bD at fin
 cases e:mY d with
 |false=>
  rw[e]at fin;exact aX fin
 |true=>
  rw[e]at fin;exact bh ⟨_,rfl,v,_,"bool",lG d,rfl,th.ty,vp d,_,rfl,fin⟩
theorem sc2:FnScope ["thing","fewest","most"] ["thing","fewest","most"] (az (top 22)):=fQS
theorem qx(F:Fun K "is_tuple_of" "is_tuple_of" (top 22) f fd)(T:Mg mg):FnOk P w K mg base CX0 1 f fd ["thing","fewest","most"] (jP bH):=by
 refine F.oq sc2 λcdv A outer s H vs Q E hr h=>?_;obtain⟨S,v,d,n,m,rfl,th,hz,q⟩:=h
 refine⟨_,aF (aN (cF (aK bK rfl T.isinstance boot_isinstance (aM (pv 0) (aM (dh rfl T.tuple boot_tuple (v:=.ty "tuple") rfl) aj)))
  (eV (cW cD cD (pv 1) (aK aZ rfl T.len PySem.boot_len (aM (pv 0) aj)) (pv 2))))),?_⟩
 refine⟨_,rfl,v,_,"tuple",du d,rfl,th.ty,ik d,_,rfl,?_⟩;have fin:=q H (Same.refl H);unfold bH at fin
 cases e:du d with
 |false=>
  rw[e]at fin;exact aX fin
 |true=>
  refine bh ?_
  cases th with
  |@tup a xs ds ea r=>
   have hl:=r.length;refine⟨_,rfl,_,rfl,a,xs,rfl,.inr (SqT.of ea),_,_,rfl,rfl,_,rfl,?_⟩;rw[hl];have fin:Q (.bl (true&&(decide (n<=(ds.length:Int))&&decide ((ds.length:Int)<=m)))) H:=fin
   cases e1:decide (n<=(ds.length:Int))with
   |false=>
    rw[e1]at fin;exact aX fin
   |true=>
    rw[e1]at fin;exact bh ⟨_,rfl,_,_,rfl,rfl,fin⟩
  |_=>cases e
theorem sc3:FnScope ["thing","many"] ["thing","many"] (az (top 23)):=fQS
theorem qZ(F:Fun K "are_wholes" "are_wholes" (top 23) f fd)(T:Mg mg)(c1:Cal P w K mg base 1 "is_whole" ["thing"] (spT bD))(c2:Cal P w K mg base 1 "is_tuple_of" ["thing","fewest","most"] (jP bH)):
  FnOk P w K mg base CX0 2 f fd ["thing","many"] (Ho bF):=by
 refine F.oq sc3 λcdv A outer s H vs Q E hr h=>?_;obtain⟨S,v,d,n,rfl,th,hz,q⟩:=h
 refine⟨_,aF (aN (cF (aG c2 hr (aM (pv 0) (aM (pv 1) (aM (pv 1) aj))))
  (eV (aK (gj rfl) rfl T.all boot_all (aM (bW ["part"] [none] rfl (gF (pv 0))
   (λC fp z06 s₂ H₂=>⟨bw (i:=0) (nd1 _) rfl (Or.inl rfl),bV,aG c1 hr (aM (pv 0) aj)⟩) (λC=>trivial) ⟨rfl,rfl,rfl,rfl⟩) aj))))),?_⟩
 refine⟨_,rfl,_,rfl,_,rfl,S,v,d,n,n,rfl,th,hz,λH1 s1=>⟨_,rfl,?_⟩⟩;have fq:=th.same s1
 cases e:bH d n n with
 |false=>
  refine aX ?_;have fin:=q H1 s1;unfold bF at fin;rw[e]at fin;exact fin
 |true=>
  refine bh ?_
  cases fq with
  |@tup a xs ds ea r=>
   have ew:bF (.tuple ds) n=ds.all bD:=by unfold bF;rw[e];rfl
   refine eF bD rfl ea r (gn r hz) (λv d H2 Q2 hm s2 t2 q2=>⟨_,rfl,S,v,d,rfl,t2,iy hm hz,q2⟩) λH2 s2=>?_;rw[<-ew];exact q _ (s1.trans s2)
  |_=>cases e
theorem sc13:FnScope ["thing"] ["thing"] (az (top 34)):=fQS
theorem yd(F:Fun K "is_clip" "is_clip" (top 34) f fd)(T:Mg mg)(N:Nums mg)(c1:Cal P w K mg base 2 "are_wholes" ["thing","many"] (Ho bF)):
  FnOk P w K mg base CX0 3 f fd ["thing"] (spT ie):=by
 refine F.oq sc13 λcdv A outer s H vs Q E hr h=>?_;obtain⟨S,v,d,rfl,th,hz,q⟩:=h;obtain⟨t3,e3⟩:=N.sorts;obtain⟨t9,e9⟩:=N.wool
 refine⟨_,aF (aN (cF (aG c1 hr (aM (pv 0) (aM (bO (v:=.int 3) rfl e3 ⟨_,rfl⟩) aj)))
  (eV (aK (gj rfl) rfl T.all boot_all (aM (bW ["sacks"] [none] rfl (gF (pv 0))
   (λC fp z06 s₂ H₂=>⟨bw (i:=0) (nd1 _) rfl (Or.inl rfl),bV,cW cD cD au (pv 0) (bO (v:=.int 999) rfl e9 ⟨_,rfl⟩)⟩) (λC=>trivial) ⟨rfl,rfl,rfl,rfl⟩) aj))))),?_⟩
 refine⟨_,rfl,S,v,d,3,rfl,th,hz,λH1 s1=>⟨_,rfl,?_⟩⟩;have fq:=th.same s1;have fin:=λH' (s:Same H H')=>q H' s;unfold ie at fin
 cases e:bF d 3 with
 |false=>
  rw[e]at fin;exact aX (fin _ s1)
 |true=>
  rw[e]at fin;refine bh ?_;obtain⟨e1,e2⟩:=nO e
  cases fq with
  |@tup a xs ds ea r=>
   refine eF (λx=>decide (0<=intOf x)&&decide (intOf x<=999)) rfl ea r (gn r hz) (λv d H2 Q2 hm s2 t2 q2=>?_) λH2 s2=>fin _ (s1.trans s2);obtain⟨i,rfl,rfl⟩:=nQ t2 (e2 d hm);refine⟨_,rfl,_,_,rfl,rfl,_,rfl,?_⟩;have q3:=q2 H2 (Same.refl _)
   cases e5:decide ((0:Int)<=i)with
   |false=>
    refine aX ?_;have q3:Q2 (.bl (decide ((0:Int)<=i)&&decide (i<=999))) H2:=q3;rw[e5]at q3;exact q3
   |true=>
    refine bh ⟨_,_,rfl,rfl,?_⟩;have q3:Q2 (.bl (decide ((0:Int)<=i)&&decide (i<=999))) H2:=q3;rw[e5]at q3;exact q3
  |_=>cases e1
theorem sc14:FnScope ["thing"] ["thing"] (az (top 35)):=fQS
theorem uw(F:Fun K "are_clips" "are_clips" (top 35) f fd)(T:Mg mg)(N:Nums mg)(c1:Cal P w K mg base 3 "is_clip" ["thing"] (spT ie))(c2:Cal P w K mg base 1 "is_tuple_of" ["thing","fewest","most"] (jP bH)):
  FnOk P w K mg base CX0 4 f fd ["thing"] (spT gG):=by
 refine F.oq sc14 λcdv A outer s H vs Q E hr h=>?_;obtain⟨S,v,d,rfl,th,hz,q⟩:=h;obtain⟨t3,e3⟩:=N.clips
 refine⟨_,aF (aN (cF (aG c2 hr (aM (pv 0) (aM au (aM (bO (v:=.int 20) rfl e3 ⟨_,rfl⟩) aj))))
  (eV (aK (gj rfl) rfl T.all boot_all (aM (bW ["part"] [none] rfl (gF (pv 0))
   (λC fp z06 s₂ H₂=>⟨bw (i:=0) (nd1 _) rfl (Or.inl rfl),bV,aG c1 hr (aM (pv 0) aj)⟩) (λC=>trivial) ⟨rfl,rfl,rfl,rfl⟩) aj))))),?_⟩
 refine⟨_,rfl,S,v,d,1,20,rfl,th,hz,λH1 s1=>⟨_,rfl,?_⟩⟩;have fq:=th.same s1;have fin:=λH' (s:Same H H')=>q H' s;unfold gG at fin
 cases e:bH d 1 20 with
 |false=>
  rw[e]at fin;exact aX (fin _ s1)
 |true=>
  rw[e]at fin;refine bh ?_
  cases fq with
  |@tup a xs ds ea r=>exact eF ie rfl ea r (gn r hz) (λv d H2 Q2 hm s2 t2 q2=>⟨_,rfl,S,v,d,rfl,t2,iy hm hz,q2⟩) λH2 s2=>fin _ (s1.trans s2)
  |_=>cases e
theorem sc15:FnScope ["thing","holder","sort","first","last","sacks","price"] ["thing"] (az (top 36)):=fQS
theorem rm(F:Fun K "is_promise" "is_promise" (top 36) f fd)(T:Mg mg)(N:Nums mg)(c1:Cal P w K mg base 2 "are_wholes" ["thing","many"] (Ho bF)):
  FnOk P w K mg base CX0 3 f fd ["thing"] (spT jk):=by
 refine F.oq sc15 λcdv A outer s H vs Q E hr h=>?_;obtain⟨S,v,d,rfl,th,hz,q⟩:=h;obtain⟨t1,e1⟩:=N.holders;obtain⟨t2,e2⟩:=N.sorts;obtain⟨t3,e3⟩:=N.year;obtain⟨t4,e4⟩:=N.sacks;obtain⟨t5,e5⟩:=N.price
 refine⟨_,aB (bR (cg (bL (aG c1 hr (aM (pv 0) (aM au aj))))) (aF (aN iD)) aY)
  (aB (cN (pv 0) (bQ rfl (ao (pgn 1 sc15.nd) (ao (pgn 2 sc15.nd) (ao (pgn 3 sc15.nd)
   (ao (pgn 4 sc15.nd) (ao (pgn 5 sc15.nd) (ao (pgn 6 sc15.nd) aV))))))))
  (aF (aN (cF (cW cD o7 au (pv 1) (bO (v:=.int 8) rfl e1 ⟨_,rfl⟩)) (cF (cW cD o7 au (pv 2) (bO (v:=.int 3) rfl e2 ⟨_,rfl⟩))
   (cF (Am cD cD cD au (pv 3) (pv 4) (bO (v:=.int 19) rfl e3 ⟨_,rfl⟩)) (cF (cW cD cD au (pv 5) (bO (v:=.int 99) rfl e4 ⟨_,rfl⟩))
    (eV (cW cD cD au (pv 6) (bO (v:=.int 1000000) rfl e5 ⟨_,rfl⟩)))))))))),?_⟩
 refine⟨_,rfl,S,v,d,6,rfl,th,hz,λH1 s1=>⟨_,rfl,?_⟩⟩;have fq:=th.same s1;have fin:=λH' (s:Same H H')=>q H' s;unfold jk at fin
 cases e:bF d 6 with
 |false=>
  rw[e]at fin;exact bh (fin _ s1)
 |true=>
  refine aX ?_;obtain⟨z1,z2⟩:=nO e
  cases fq with
  |@tup a xs ds ea r=>
   have hl:ds.length=6:=by
    have:=Bu z1;lia
   obtain⟨i1,i2,i3,i4,i5,i6,rfl,rfl⟩:=Ec r hl z2;refine⟨_,rfl,a,_,rfl,SqT.of ea,rfl,_,_,rfl,_,_,rfl,_,_,rfl,_,_,rfl,_,_,rfl,_,_,rfl,rfl,?_⟩;refine jt (cO eZ (fO rfl) eZ) (λ_=>jt (cO eZ (fO rfl) eZ) λ_=>jt (An eZ (fO rfl) (fO rfl) eZ) λ_=>jt (cO eZ (fO rfl) eZ) λ_=>cO eZ (fO rfl) eZ) _ ?_;exact fin H1 s1
  |_=>cases z1
theorem O4:FnScope ["thing"] ["thing"] (az (top 37)):=fQS
theorem oN(F:Fun K "are_promises" "are_promises" (top 37) f fd)(T:Mg mg)(N:Nums mg)(c1:Cal P w K mg base 3 "is_promise" ["thing"] (spT jk))(c2:Cal P w K mg base 1 "is_tuple_of" ["thing","fewest","most"] (jP bH)):
  FnOk P w K mg base CX0 4 f fd ["thing"] (spT eG):=by
 refine F.oq O4 λcdv A outer s H vs Q E hr h=>?_;obtain⟨S,v,d,rfl,th,hz,q⟩:=h;obtain⟨t3,e3⟩:=N.proms
 refine⟨_,aF (aN (cF (aG c2 hr (aM (pv 0) (aM au (aM (bO (v:=.int 10) rfl e3 ⟨_,rfl⟩) aj))))
  (eV (aK (gj rfl) rfl T.all boot_all (aM (bW ["part"] [none] rfl (gF (pv 0))
   (λC fp z06 s₂ H₂=>⟨bw (i:=0) (nd1 _) rfl (Or.inl rfl),bV,aG c1 hr (aM (pv 0) aj)⟩) (λC=>trivial) ⟨rfl,rfl,rfl,rfl⟩) aj))))),?_⟩
 refine⟨_,rfl,S,v,d,0,10,rfl,th,hz,λH1 s1=>⟨_,rfl,?_⟩⟩;have fq:=th.same s1;have fin:=λH' (s:Same H H')=>q H' s;unfold eG at fin
 cases e:bH d 0 10 with
 |false=>
  rw[e]at fin;exact aX (fin _ s1)
 |true=>
  rw[e]at fin;refine bh ?_
  cases fq with
  |@tup a xs ds ea r=>exact eF jk rfl ea r (gn r hz) (λv d H2 Q2 hm s2 t2 q2=>⟨_,rfl,S,v,d,rfl,t2,iy hm hz,q2⟩) λH2 s2=>fin _ (s1.trans s2)
  |_=>cases e
end K33
open K33P (dN)
namespace K33
open PySem L2
def Ed(d:PyData):Bool:=du d&&(decide ((items d).length=3)&&(items d).all λx=>dN x 0 999)
def bounds:List PyData:=[.tuple [.int 0,.int 7],.tuple [.int 0,.int 2],.tuple [.int 0,.int 19],.tuple [.int 0,.int 19],.tuple [.int 1,.int 99],.tuple [.int 0,.int 1000000]]
def jg(d e:PyData):Bool:=dN d (at_ e 0) (at_ e 1)
def ye(d:PyData):Bool:=du d&&(decide ((items d).length=6)&&((List.zipWith jg (items d) bounds).all id&&decide (at_ d 2<=at_ d 3)))
theorem Kg(h:IsTh S H z (.tuple [.int lo,.int hi])):∃t,z=.ref t/\H t=some (.tup [.int lo,.int hi]):=by
 cases h with
 |@tup a xs ds e r=>
  cases r with
  |cons h1 r=>cases r with
   |cons h2 r=>
    cases r;cases h1;cases h2;exact⟨a,rfl,e⟩
theorem Bv(h:e∈bounds):∃lo hi,e=.tuple [.int lo,.int hi]:=by
 simp only[bounds,List.mem_cons,List.not_mem_nil,or_false]at h;rcases h with z|z|z|z|z|z<;>exact⟨_,_,z⟩
theorem zf{α:Type}(p q:α->Bool):∀l:List α,(l.all λx=>p x&&q x)=(l.all p&&l.all q)
 |[]=>rfl
 |x::l=>by
  rw[List.all_cons,List.all_cons,List.all_cons,zf p q l];cases p x<;>cases q x<;>cases l.all p<;>cases l.all q<;>rfl
theorem oU(d:PyData):ie d=Ed d:=by
 cases d with
 |tuple ds=>
  have e1:ie (.tuple ds)=((((decide ((3:Int)<=(ds.length:Int))&&decide ((ds.length:Int)<=3)))&&ds.all bD)&&ds.all λx=>decide (0<=intOf x)&&decide (intOf x<=999)):=rfl;have e2:Ed (.tuple ds)=(decide (ds.length=3)&&ds.all λx=>bD x&&(decide (0<=intOf x)&&decide (intOf x<=999))):=rfl;rw[e1,e2,zf bD]
  have e3:(decide ((3:Int)<=(ds.length:Int))&&decide ((ds.length:Int)<=3))=decide (ds.length=3):=by
   rw[<-Bool.decide_and];exact decide_eq_decide.mpr z03
  rw[e3,Bool.and_assoc]
 |_=>rfl
theorem eU(d:PyData):(∃i,d=.int i)\/bD d=false:=by
 cases d with
 |int i=>exact .inl ⟨i,rfl⟩
 |_=>exact .inr rfl
theorem Hq(d:PyData):jk d=ye d:=by
 cases d with
 |tuple ds=>
  have e1:jk (.tuple ds)=(((decide ((6:Int)<=(ds.length:Int))&&decide ((ds.length:Int)<=6))&&ds.all bD)&&qu (at_ (.tuple ds) 0) (at_ (.tuple ds) 1) (at_ (.tuple ds) 2) (at_ (.tuple ds) 3) (at_ (.tuple ds) 4) (at_ (.tuple ds) 5)):=rfl;have e2:ye (.tuple ds)=(decide (ds.length=6)&&((List.zipWith jg ds bounds).all id&&decide (at_ (.tuple ds) 2<=at_ (.tuple ds) 3))):=rfl;rw[e1,e2]
  have e3:(decide ((6:Int)<=(ds.length:Int))&&decide ((ds.length:Int)<=6))=decide (ds.length=6):=by
   rw[<-Bool.decide_and];exact decide_eq_decide.mpr z03
  rw[e3];by_cases hl:ds.length=6
  .rw[zAu hl,Bool.true_and,Bool.true_and];obtain⟨d1,d2,d3,d4,d5,d6,rfl⟩:=Kf hl;have e4:(List.zipWith jg [d1,d2,d3,d4,d5,d6] bounds).all id=(dN d1 0 7&&(dN d2 0 2&&(dN d3 0 19&&(dN d4 0 19&&(dN d5 1 99&&(dN d6 0 1000000&&true)))))):=rfl;have e5:[d1,d2,d3,d4,d5,d6].all bD=(bD d1&&(bD d2&&(bD d3&&(bD d4&&(bD d5&&(bD d6&&true)))))):=rfl;rw[e4,e5];unfold dN;rcases eU d1 with⟨i1,rfl⟩|z
   .rcases eU d2 with⟨i2,rfl⟩|z
    .rcases eU d3 with⟨i3,rfl⟩|z
     .rcases eU d4 with⟨i4,rfl⟩|z
      .rcases eU d5 with⟨i5,rfl⟩|z
       .rcases eU d6 with⟨i6,rfl⟩|z
        .show(true&&qu i1 i2 i3 i4 i5 i6)=((true&&(decide (0<=i1)&&decide (i1<=7)))&&((true&&(decide (0<=i2)&&decide (i2<=2)))&&((true&&(decide (0<=i3)&&decide (i3<=19)))&&((true&&(decide (0<=i4)&&decide (i4<=19)))&&((true&&(decide (1<=i5)&&decide (i5<=99)))&&((true&&(decide (0<=i6)&&decide (i6<=1000000)))&&true)))))&&decide (i3<=i4));unfold qu;simp only[Bool.true_and,Bool.and_true];apply Zau.mpr;simp only[Bool.and_eq_true,z08];omega
        .rw[z];simp
       .rw[z];simp
      .rw[z];simp
     .rw[z];simp
    .rw[z];simp
   .rw[z];simp
  .rw[zB2 hl,Bool.false_and,Bool.false_and,Bool.false_and]
 |_=>rfl
theorem qy:bootBuiltins "repr"=some (.builtin "repr"):=by decide +kernel
theorem uz(hr:Room k A)(hk:60<=k)(h:sz d<=1000):A.units+(sz d+1)<cLine:=by
 have:=hr.un;lia
theorem ww(hK:X.K=K):IxR X (Jw K):=by
 subst hK;exact bM
theorem boot_min:bootBuiltins "min"=some (.builtin "min"):=by decide +kernel
theorem room_un(hr:Room k A):A.units<cLine:=by
 have:=hr.un;lia
def rowD(r:UV):PyData:=.tuple (r.map .int)
def fG(rs:PK):PyData:=.tuple (rs.map rowD)
def fl(r:UV)(i:Nat):Int:=r.getD i 0
def okP(r:UV):Prop:=r.length=6/\(0<=fl r 0/\fl r 0<8)/\(0<=fl r 1/\fl r 1<3)/\(0<=fl r 2/\fl r 2<=fl r 3/\fl r 3<=19)/\(1<=fl r 4/\fl r 4<=99)/\(0<=fl r 5/\fl r 5<=1000000)
def fJ(d:PyData):Bool:=bH d 0 12&&(items d).all λx=>bF x 5
def rowsOf(d:PyData):PK:=(items d).map λx=>(items x).map intOf
theorem Ef:∀{ds:List PyData},(∀x∈ds,bD x=true)->ds=(ds.map intOf).map PyData.int
 |[],_=>rfl
 |d::ds,h=>by
  rw[zAk,zAk,<-Ef λx hx=>h x (Zai _ hx)];have:=h d Zap
  cases d with
  |int i=>rfl
  |_=>cases this
theorem ig{n:Nat}(h:bF x n=true):x=rowD ((items x).map intOf)/\((items x).map intOf).length=n:=by
 obtain⟨h1,h2⟩:=nO h;unfold bH at h1;rw[zAc,zAc,z08,z08]at h1;obtain⟨ht,bX,cx⟩:=h1
 cases x with
 |tuple ds=>
  have bX:(n:Int)<=ds.length:=bX;have cx:(ds.length:Int)<=n:=cx;refine⟨?_,by show(ds.map intOf).length=n;rw[zA1];lia⟩;exact congrArg PyData.tuple (Ef h2)
 |_=>cases ht
theorem oZ{ds:List PyData}{n:Nat}(h:∀x∈ds,bF x n=true):ds=(ds.map λx=>(items x).map intOf).map rowD:=by
 induction ds with
 |nil=>rfl
 |cons d ds ih=>
  rw[zAk,zAk,<-ih λx hx=>h x (Zai _ hx),<-(ig (h d Zap)).1]
theorem iW{f m:Int}(h:bH d f m=true):∃ds,d=.tuple ds/\f<=ds.length/\(ds.length:Int)<=m:=by
 unfold bH at h;rw[zAc,zAc,z08,z08]at h
 cases d with
 |tuple ds=>exact⟨ds,rfl,h.2⟩
 |_=>cases h.1
theorem jV(r:UV)(i:Nat)(h:i<r.length):at_ (rowD r) i=fl r i:=by
 show intOf ((r.map PyData.int).getD i .none)=r.getD i 0;rw[zA7,zA7,zAb,zA0 h];rfl
theorem kZ(h:eG d=true):d=fG (rowsOf d)/\(rowsOf d).length<=10/\∀r∈rowsOf d,okP r:=by
 unfold eG at h;rw[zAc]at h;obtain⟨ds,rfl,_,hl⟩:=iW h.1;have h2:∀x∈ds,jk x=true:=Zae.mp h.2
 have h3:∀x∈ds,bF x 6=true:=λx hx=>by
  have:=h2 x hx;unfold jk at this;rw[zAc]at this;exact this.1
 refine⟨congrArg PyData.tuple (oZ (n:=6) h3),by show(ds.map _).length<=10;rw[zA1];lia,λr hr=>?_⟩;obtain⟨x,hx,rfl⟩:=zA5.mp hr;obtain⟨e,K0⟩:=ig (n:=6) (h3 x hx);have:=h2 x hx;unfold jk at this;rw[zAc]at this;have p:=this.2;rw[e]at p;rw[jV _ 0 z00,jV _ 1 z00,jV _ 2 z00,jV _ 3 z00,jV _ 4 z00,jV _ 5 z00]at p;unfold qu at p;simp only[Bool.and_eq_true,z08]at p;obtain⟨⟨a1,a2⟩,⟨b1,b2⟩,⟨c1,c2,c3⟩,⟨d1,d2⟩,e1,e2⟩:=p;exact⟨K0,⟨a1,a2⟩,⟨b1,b2⟩,⟨c1,c2,c3⟩,⟨d1,d2⟩,e1,e2⟩
theorem lq(h:fJ d=true):d=fG (rowsOf d)/\(rowsOf d).length<=12/\∀r∈rowsOf d,r.length=5:=by
 unfold fJ at h;rw[zAc]at h;obtain⟨ds,rfl,_,hl⟩:=iW h.1;have h3:∀x∈ds,bF x 5=true:=Zae.mp h.2;refine⟨congrArg PyData.tuple (oZ (n:=5) h3),by show(ds.map _).length<=12;rw[zA1];lia,λr hr=>?_⟩;obtain⟨x,hx,rfl⟩:=zA5.mp hr;exact(ig (n:=5) (h3 x hx)).2
structure RowsAt(H:Hp)(a:Addr)(xs:List V)(rs:PK):Prop where
 e:H a=some (.tup xs)
 l:xs.length=rs.length
 g:∀(i:Nat) (r:UV),rs[i]?=some r->∃t,xs[i]?=some (V.ref t)/\H t=some (.tup (r.map V.int))
theorem RowsAt.keep(h:RowsAt H a xs rs)(k:∀b l,H b=some (.tup l)->H' b=some (.tup l)):RowsAt H' a xs rs:=
 ⟨k _ _ h.e,h.l,λi r e=>by
  obtain⟨t,e1,e2⟩:=h.g i r e
  exact⟨t,e1,k _ _ e2⟩⟩
theorem RowsAt.same(h:RowsAt H a xs rs)(s:Same H H'):RowsAt H' a xs rs:=h.keep λ_ _ e=>s _ _ e
theorem wy:∀{r:UV} {xs:List V},IsThs S H xs (r.map .int)->xs=r.map V.int
 |[],_,.nil=>rfl
 |i::r,_,.cons h t=>by
  cases h;rw[wy (r:=r) t];rfl
theorem Kh(h:IsTh S H v (rowD r)):∃t,v=V.ref t/\H t=some (.tup (r.map V.int)):=by
 generalize hd:rowD r=d at h
 cases h with
 |@tup a xs ds e t=>
  injection hd with hd;subst hd;rw[wy t]at e;exact⟨a,rfl,e⟩
 |_=>cases hd
theorem th_rows(h:IsTh S H v (fG rs)):∃a xs,v=.ref a/\RowsAt H a xs rs:=by
 generalize hd:fG rs=d at h
 cases h with
 |@tup a xs ds e t=>
  injection hd with hd;subst hd;refine⟨a,xs,rfl,e,by rw[t.length,zA1],λi r hr=>?_⟩;have hi:i<rs.length:=(zAa.mp hr).1;have hx:xs[i]?=some (xs[i]'(by rw[t.length,zA1];exact hi)):=zA0 _;obtain⟨d,h1,h2⟩:=t.get hx;rw[zAb,hr]at h1;injection h1 with h1;subst h1;obtain⟨t',e1,e2⟩:=Kh h2;exact⟨t',by rw[hx,e1],e2⟩
 |_=>cases hd
def iY(L:UV)(i:Int)(v:Int):UV:=L.set i.toNat (L.getD i.toNat 0+v)
def hstep(n y:Int)(L:UV)(s:UV):UV:=if fl s 0=n/\fl s 4<=y then iY (iY L (fl s 1) (-(fl s 3))) (fl s 2) (fl s 3)else L
def base0(p:UV):UV:=(List.replicate 8 0).set (fl p 0).toNat (fl p 4)
def cP(p:UV)(ss:PK)(n y:Int):UV:=if fl p 2<=y/\y<=fl p 3 then ss.foldl (hstep n y) (base0 p)else List.replicate 8 0
def uA(ps:PK)(s:UV):UV:=ps.getD (fl s 0).toNat []
def wz(ps:PK)(s:UV):Bool:=(decide (0<=fl s 0)&&decide (fl s 0<ps.length))&&((decide (0<=fl s 1)&&decide (fl s 1<8))&&((decide (0<=fl s 2)&&decide (fl s 2<8))&&((!decide (fl s 1=fl s 2))&&((decide (1<=fl s 3)&&decide (fl s 3<=99))&&(decide (fl (uA ps s) 2<=fl s 4)&&decide (fl s 4<=fl (uA ps s) 3))))))
def years(a b:Int):UV:=(List.range (b+1-a).toNat).map λ(i:Nat)=>a+i
def cM(ps ss:PK)(s:UV):Bool:=wz ps s&&(years (fl s 4) (fl (uA ps s) 3)).all λy=>decide (fl s 3<=(cP (uA ps s) ss (fl s 0) y).getD (fl s 1).toNat 0)
def un(ps ss:PK):Option Nat:=(List.range ss.length).find? λi=>!cM ps (ss.take i) (ss.getD i [])
theorem jA(L:UV)(i v:Int):(iY L i v).length=L.length:=by unfold iY;rw[Zao]
theorem Bw(n y:Int)(L s:UV):(hstep n y L s).length=L.length:=by
 unfold hstep;split
 .rw[jA,jA]
 .rfl
theorem gO(p:UV)(ss:PK)(n y:Int):(cP p ss n y).length=8:=by
 unfold cP;split
 .have:∀(ss:PK) (L:UV),L.length=8->(ss.foldl (hstep n y) L).length=8:=by
   intro ss
   induction ss with
   |nil=>exact λL h=>h
   |cons s ss ih=>exact λL h=>ih _ (by rw[Bw];exact h)
  exact this ss _ (by unfold base0;rw[Zao,Zax])
 .rw[Zax]
end K33
open K33P (fX)
namespace K33
open PySem L2
theorem six_row(h:p.length=6):p=[fl p 0,fl p 1,fl p 2,fl p 3,fl p 4,fl p 5]:=by
 obtain⟨a,b,c,d,e,f,rfl⟩:=Kf h;rfl
theorem mF(h:p.length=5):p=[fl p 0,fl p 1,fl p 2,fl p 3,fl p 4]:=by
 obtain⟨a,b,c,d,e,rfl⟩:=MK h;rfl
theorem jM(L:UV)(i:Nat)(v:Int):(L.map V.int).set i (.int v)=(L.set i v).map V.int:=by rw[List.map_set]
theorem jN{L:UV}(h:i<L.length):(L.map V.int)[i]?=some (.int (L.getD i 0)):=by simp_all
theorem qz{n:Nat}{i:Int}(h0:0<=i)(h1:i<n):ixN n i=some i.toNat:=by
 unfold ixN;rw[zAz h0,zAz h1]
def okS(s:UV):Prop:=s.length=5/\(0<=fl s 1/\fl s 1<8)/\(0<=fl s 2/\fl s 2<8)
inductive SpHeldI(vs:List V)(H:Hp)(Q:VK):Prop
 |mk:∀ap xp ps af xs ss n y,(vs=[.ref ap,.ref af,.int n,.int y])->(RowsAt H ap xp ps)->(RowsAt H af xs ss)->(0<=n)->(n<ps.length)->(okP (ps.getD n.toNat []))->(ss.length<=12)->((∀s∈ss,okS s))->(∀l H',Same H H'->H' l=some (.lst ((cP (ps.getD n.toNat []) ss n y).map V.int))->Q (.ref l) H')->SpHeldI  vs H Q
def yf:Sp:=λvs H Q _=>SpHeldI  vs H Q
structure MS(mg:Str->Option Value):Prop where
 sales:∃t,mg "MOST_SALES"=some (.int 12 t)
theorem MN:FnScope ["thing"] ["thing"] (az (top 38)):=fQS
theorem uB(F:Fun K "are_sales" "are_sales" (top 38) f fd)(T:Mg mg)(N:MS mg)(c1:Cal P w K mg base 2 "are_wholes" ["thing","many"] (Ho bF))(c2:Cal P w K mg base 1 "is_tuple_of" ["thing","fewest","most"] (jP bH)):
  FnOk P w K mg base CX0 3 f fd ["thing"] (spT fJ):=by
 refine F.oq MN λcdv A outer s H vs Q E hr h=>?_;obtain⟨S,v,d,rfl,th,hz,q⟩:=h;obtain⟨t3,e3⟩:=N.sales
 refine⟨_,aF (aN (cF (aG c2 hr (aq (pv 0) (aq au (aq (bO (v:=.int 12) rfl e3 ⟨_,rfl⟩) aj))))
  (eV (aK (gj rfl) rfl T.all boot_all (aq (bW ["part"] [none] rfl (gF (pv 0))
   (λC fp z06 s₂ H₂=>⟨bw (i:=0) (nd1 _) rfl (Or.inl rfl),bV,aG c1 hr (aq (pv 0) (aq au aj))⟩) (λC=>trivial) ⟨rfl,rfl,rfl,rfl⟩) aj))))),?_⟩
 refine⟨_,rfl,S,v,d,0,12,rfl,th,hz,λH1 s1=>⟨_,rfl,?_⟩⟩;have fq:=th.same s1;have fin:=λH' (s:Same H H')=>q H' s;unfold fJ at fin
 cases e:bH d 0 12 with
 |false=>
  rw[e]at fin;exact aX (fin _ s1)
 |true=>
  rw[e]at fin;refine bh ?_
  cases fq with
  |@tup a xs ds ea r=>exact eF (λx=>bF x 5) rfl ea r (gn r hz) (λv d H2 Q2 hm s2 t2 q2=>⟨_,rfl,S,v,d,5,rfl,t2,iy hm hz,q2⟩) λH2 s2=>fin _ (s1.trans s2)
  |_=>cases e
theorem sc23s:FnScope ["promises","sales","number","year","holder","sort","first","last","sacks","price","held","promise","seller","buyer","sold","since"] ["promises","sales","number","year"] (az (top 39)):=fQS
theorem Hr(F:Fun K "held_in" "held_in" (top 39) f fd)(N:Nums mg):FnOk P w K mg base CX0 1 f fd ["promises","sales","number","year"] yf:=by
 refine F.oq sc23s λcdv A outer s H vs Q E hr h=>?_;obtain⟨ap,xp,ps,af,xs,ss,n,y,rfl,rp,rs,n0,n1,okp,hl,ej,q⟩:=h;obtain⟨t1,e1⟩:=N.holders
 refine⟨_,aB (cN (pX bj (pv 0) (pv 2)) (bQ rfl (ao (pgn 4 sc23s.nd) (ao (pgn 5 sc23s.nd) (ao (pgn 6 sc23s.nd)
   (ao (pgn 7 sc23s.nd) (ao (pgn 8 sc23s.nd) (ao (pgn 9 sc23s.nd) aV))))))))
  (aB (pss 10 sc23s.nd (aO oY (dJ (aq au aj)) (bO (v:=.int 8) rfl e1 ⟨_,rfl⟩)))
  (aB (bR (cg (pF cD cD (pv 6) (pv 3) (pv 7))) (aF (aN (pv 10))) aY)
  (aB (cN (pv 8) (mR (pv 10) (pv 4) set_list))
  (aB (cG zB7 rfl (gF (pv 1)) (bQ rfl (ao (pgn 11 sc23s.nd) (ao (pgn 12 sc23s.nd) (ao (pgn 13 sc23s.nd)
    (ao (pgn 14 sc23s.nd) (ao (pgn 15 sc23s.nd) aV))))))
   (aF (bR (PW.pt (iB (aW iH (pv 11) (pv 2) (aU _)) (jE (aW cD (pv 15) (pv 3) (aU _)))))
    (aB (jF (pv 10) (pv 12) fX (pv 14) Cq set_list) (aF (jF (pv 10) (pv 13) fX (pv 14) pA set_list))) aY)))
  (aF (aN (pv 10))))))),?_⟩
 obtain⟨p,hp⟩:∃p,ps[n.toNat]?=some p:=⟨_,zA0 z00⟩
 have ep:ps.getD n.toNat []=p:=by rw[zA7,hp];rfl
 rw[ep]at okp q;obtain⟨t,ex,et⟩:=rp.g _ _ hp;have p6:=six_row okp.1;obtain⟨l6,⟨a1,a2⟩,b,⟨c1,c2,c3⟩,⟨d1,d2⟩,ee⟩:=id okp
 have hJ:atI xp n=some (.ref t):=by
  have:=dD ex;rw[show((n.toNat:Nat):Int)=n by lia]at this;exact this
 rw[p6]at et;refine aC ?_;refine⟨_,rfl,_,rfl,ap,xp,n,.ref t,rfl,rfl,SqT.of rp.e,hJ,?_⟩;refine⟨t,_,rfl,SqT.of et,rfl,_,_,rfl,_,_,rfl,_,_,rfl,_,_,rfl,_,_,rfl,_,_,rfl,rfl,?_⟩;dsimp only;refine aC (aP ?_);refine⟨zL,λl0 nr=>⟨l0,8,_,rfl,rfl,aa,by decide,by decide,zL,λl1 bX _=>?_⟩⟩;have s1:Same H (upd (upd H l0 (.lst [V.int 0])) l1 (.lst (List.replicate (8:Int).toNat [V.int 0]).flatten)):=(Same.upd nr).updR bX;have el1:upd (upd H l0 (.lst [V.int 0])) l1 (.lst (List.replicate (8:Int).toNat [V.int 0]).flatten) l1=some (.lst ((List.replicate 8 (0:Int)).map V.int)):=aa;have sQ:H l1=none:=(Same.upd nr).free bX;refine aJ ?_;dsimp only;refine aC ?_;refine cO (p:=λi j=>decide (i<=j)) (q:=λi j=>decide (i<=j)) (i:=fl p 2) (j:=y) (k:=fl p 3) (fO rfl) (fO rfl) (fO rfl) _ ⟨_,rfl,?_⟩;by_cases pe:fl p 2<=y/\y<=fl p 3
 .rw[zAu pe.1,zAu pe.2];refine aX (bN ?_);dsimp only;refine aC ?_;refine⟨_,rfl,_,rfl,_,rfl,l1,_,fl p 0,(fl p 0).toNat,rfl,rfl,el1,qz a1 (by show fl p 0<8;exact a2),?_⟩;rw[jM];dsimp only;refine aC ?_;have S9:af≠l1:=aD rs.e sQ;refine⟨_,rfl,af,rfl,⟨xs,SqT.of (by rw[aA S9];exact s1 _ _ rs.e)⟩,?_⟩
  have Lc:∀{Hc:Hp} {o:HO},Same H Hc->Same H (upd Hc l1 o):=λ{Hc o} sm b u e=>by
   rw[aA (aD e sQ)];exact sm _ _ e
  refine tG (xs:=xs) (λi σ Hc=>∃fv fw fx fy fE,σ=[some (.ref ap),some (.ref af),some (.int n),some (.int y),some (.int (fl p 0)),some (.int (fl p 1)),some (.int (fl p 2)),some (.int (fl p 3)),some (.int (fl p 4)),some (.int (fl p 5)),some (.ref l1),fv,fw,fx,fy,fE]/\Same H Hc/\Hc l1=some (.lst (((ss.take i).foldl (hstep n y) (base0 p)).map V.int))) ?_ ?_ ?_ ?_
  .exact⟨none,none,none,none,none,rfl,Lc s1,aa⟩
  .rintro i σ Hc hi ⟨fv,fw,fx,fy,fE,rfl,sm,el⟩;exact SqT.of (sm _ _ rs.e)
  .rintro i x σ Hc hx ⟨fv,fw,fx,fy,fE,rfl,sm,el⟩
   have hi:i<ss.length:=by
    have:=(zAa.mp hx).1;rw[rs.l]at this;exact this
   obtain⟨tr,eW,bq⟩:=rs.g i ss[i] (zA0 hi)
   have:x=.ref tr:=by
    rw[hx]at eW;exact zAl eW
   subst this;obtain⟨o1,⟨o2,o3⟩,o4,o5⟩:=ej ss[i] (zAh hi);have s5:=mF o1;have fh:ss.take (i+1)=ss.take i++[ss[i]]:=by rw[zAj,zA0 hi];rfl
   have DH:(ss.take (i+1)).foldl (hstep n y) (base0 p)=hstep n y ((ss.take i).foldl (hstep n y) (base0 p)) ss[i]:=by rw[fh,List.foldl_append];rfl
   rw[DH];generalize hL:(ss.take i).foldl (hstep n y) (base0 p)=L at el⊢
   have lL:L.length=8:=by
    have:=gO p (ss.take i) n y;unfold cP at this;rw[zAz pe,hL]at this;exact this
   generalize ss[i]=r at bq s5 o2 o3 o4 o5⊢;rw[s5]at bq;refine⟨tr,_,rfl,SqT.of (sm _ _ bq),rfl,_,_,rfl,_,_,rfl,_,_,rfl,_,_,rfl,_,_,rfl,rfl,?_⟩;refine⟨_,rfl,_,rfl,rfl,_,rfl,?_⟩;by_cases hn:fl r 0=n
   .rw[zAu (show V.int (fl r 0)=V.int n by rw[hn])];refine bh ?_;refine⟨_,rfl,_,rfl,_,_,rfl,rfl,_,rfl,?_⟩;by_cases hy:fl r 4<=y
    .rw[zAu hy];refine bh ?_;have e1:hstep n y L r=iY (iY L (fl r 1) (-(fl r 3))) (fl r 2) (fl r 3):=zAz ⟨hn,hy⟩;rw[e1];refine aC ?_;refine⟨_,rfl,_,rfl,l1,_,fl r 1,_,rfl,rfl,SqL.of el,o2,jN z00,_,rfl,_,_,rfl,rfl,l1,_,fl r 1,(fl r 1).toNat,rfl,rfl,el,qz o2 (by rw[zA1];lia),?_⟩;rw[jM]
     have e2:L.set (fl r 1).toNat (L.getD (fl r 1).toNat 0-fl r 3)=iY L (fl r 1) (-(fl r 3)):=by
      unfold iY;rw[Int.sub_eq_add_neg]
     rw[e2];generalize mS:iY L (fl r 1) (-(fl r 3))=L1;have YG:L1.length=8:=by rw[<-mS,jA];exact lL
     refine⟨_,rfl,_,rfl,l1,_,fl r 2,_,rfl,rfl,SqL.of aa,o4,jN z00,_,rfl,_,_,rfl,rfl,l1,_,fl r 2,(fl r 2).toNat,rfl,rfl,aa,qz o4 (by rw[zA1];lia),?_⟩;rw[jM];exact⟨_,_,_,_,_,rfl,Lc (Lc sm),aa⟩
    .rw[zB2 hy];refine aX ?_;have e1:hstep n y L r=L:=zAy λz=>hy z.2;rw[e1];exact⟨_,_,_,_,_,rfl,sm,el⟩
   .rw[zB2 (λz:V.int (fl r 0)=V.int n=>hn (by injection z))];refine aX (aX ?_);have e1:hstep n y L r=L:=zAy λz=>hn z.1;rw[e1];exact⟨_,_,_,_,_,rfl,sm,el⟩
  .rintro σ Hc ⟨fv,fw,fx,fy,fE,rfl,sm,el⟩;rw[rs.l,zAm]at el;refine⟨_,rfl,q _ _ sm ?_⟩;unfold cP;rw[zAz pe];exact el
 .have hb:(decide (fl p 2<=y)&&decide (y<=fl p 3))=false:=by
   cases e:(decide (fl p 2<=y)&&decide (y<=fl p 3))with
   |false=>rfl
   |true=>
    rw[zAc,z08,z08]at e;exact absurd e pe
  rw[hb];refine bh ⟨_,rfl,q _ _ s1 ?_⟩;unfold cP;rw[zAy pe];exact el1
theorem Eg{Fin:List V->Hp->Prop}(Pv:List V->Hp->Prop)(h0:Pv [] H0)(hz:n<sizeLine)
  (step:∀i ys H Q,i<n->ys.length=i->Pv ys H->(∀y H',Pv (ys++[y]) H'->Q y H')->te (dQ.set j (some (.int (lo+i)))) H Q)
  (fin:∀ys H,ys.length=n->Pv ys H->Fin ys H):oh (Itr lo n) (bG j) tU te Fin dQ H0:=by
 refine⟨λi m ys σ H=>m=n-i/\i<=n/\ys.length=i/\(∀o,σ.set j o=dQ.set j o)/\Pv ys H,⟨_,rfl,zAp _,rfl,λ_=>rfl,h0⟩,?_⟩;rintro i m ys σ H ⟨rfl,hi,hy,fR,p⟩;refine⟨z00,?_⟩;by_cases ay:i<n
 .refine .inr ⟨ay,λx H' y=>?_⟩;obtain⟨e,e2⟩:=y;subst e;subst e2;show te (σ.set j (some (.int (lo+i)))) H' _;rw[fR]
  exact step i ys H' _ ay hy p λy H2 p2=>⟨n-(i+1),z00,rfl,ay,by rw[zA2,hy];rfl,λo=>by rw[List.set_set],p2⟩
 .have e:i=n:=z00
  subst e;exact .inl ⟨zA3 _,fin ys H hy p⟩
theorem MP(a:Ev σ H ta (.int i))(b:Ev σ H tb (.int j)):Ev σ H (tOp rNe ta tb) (.bl (!decide (i=j))):=λQ q=>a _ (b _ ⟨rfl,by simp_all⟩)
theorem Bx(a b:Int):(years a b).length=(b+1-a).toNat:=by unfold years;rw[zA1,List.length_range]
theorem By{i:Nat}(h:i<(b+1-a).toNat):(years a b)[i]?=some (a+i):=by
 unfold years;rw[zAb,List.getElem?_range h];rfl
theorem BJ{α β:Type}{l:List α}{f:α->β}{ys:List β}{x:α}(ey:ys=(l.take ys.length).map f)(hx:l[ys.length]?=some x):ys++[f x]=(l.take (ys++[f x]).length).map f:=by
 rw[zA2,List.length_singleton,zAj,hx,zA4,<-ey];rfl
inductive SpBetwI(vs:List V)(H:Hp)(Q:VK):Prop
 |mk:∀ap xp ps t s,(vs=[.ref ap,.ref t])->(RowsAt H ap xp ps)->((∀r∈ps,okP r))->(H t=some (.tup (s.map V.int)))->(s.length=5)->(Q (.bl (wz ps s)) H)->SpBetwI  vs H Q
def Eh:Sp:=λvs H Q _=>SpBetwI  vs H Q
inductive SpHoldsI(vs:List V)(H:Hp)(Q:VK):Prop
 |mk:∀ap xp ps af xs ss t s,(vs=[.ref ap,.ref af,.ref t])->(RowsAt H ap xp ps)->((∀r∈ps,okP r))->(RowsAt H af xs ss)->(ss.length<=12)->((∀s∈ss,okS s))->(H t=some (.tup (s.map V.int)))->(s.length=5)->(∀H',Same H H'->Q (.bl (cM ps ss s)) H')->SpHoldsI  vs H Q
def zg:Sp:=λvs H Q _=>SpHoldsI  vs H Q
def unV:Option Nat->V
 |none=>.non
 |some i=>.int i
inductive SpFirstI(vs:List V)(H:Hp)(Q:VK):Prop
 |mk:∀S v d S' u e,(vs=[v,u])->(IsTh S H v d)->(IsTh S' H u e)->(eG d=true)->(fJ e=true)->(sz d<=4000)->(sz e<=4000)->(∀H',Same H H'->Q (unV (un (rowsOf d) (rowsOf e))) H')->SpFirstI  vs H Q
def zj:Sp:=λvs H Q _=>SpFirstI  vs H Q
theorem prom_ok{ps:PK}{n:Int}(h:∀r∈ps,okP r)(h0:0<=n)(h1:n<ps.length):∃p,ps[n.toNat]?=some p/\ps.getD n.toNat []=p/\okP p:=by simp_all
theorem rows_at{n:Int}{r:UV}(h:RowsAt H a xs rs)(h0:0<=n)(e:rs[n.toNat]?=some r):∃t,atI xs n=some (.ref t)/\H t=some (.tup (r.map V.int)):=by
 obtain⟨t,e1,e2⟩:=h.g _ _ e;refine⟨t,?_,e2⟩;have:=dD e1;rw[show((n.toNat:Nat):Int)=n by lia]at this;exact this
theorem sc24s:FnScope ["promises","sale","number","seller","buyer","sacks","year","holder","sort","first","last","due","price"] ["promises","sale"] (az (top 40)):=fQS
theorem Hs(F:Fun K "is_sale_between" "is_sale_between" (top 40) f fd)(T:Mg mg)(N:Nums mg):FnOk P w K mg base CX0 1 f fd ["promises","sale"] Eh:=by
 refine F.oq sc24s λcdv A outer s H vs Q E hr h=>?_;obtain⟨ap,xp,ps,t,r,rfl,rp,okp,et,h5,q⟩:=h;obtain⟨t1,e1⟩:=N.holders;obtain⟨t4,e4⟩:=N.sacks
 refine⟨_,aB (cN (pv 1) (bQ rfl (ao (pgn 2 sc24s.nd) (ao (pgn 3 sc24s.nd) (ao (pgn 4 sc24s.nd) (ao (pgn 5 sc24s.nd) (ao (pgn 6 sc24s.nd) aV)))))))
  (aB (bR (cg (pF cD o7 au (pv 2) (aK aZ rfl T.len PySem.boot_len (aq (pv 0) aj)))) (aF (aN iD)) aY)
  (aB (cN (pX bj (pv 0) (pv 2)) (bQ rfl (ao (pgn 7 sc24s.nd) (ao (pgn 8 sc24s.nd) (ao (pgn 9 sc24s.nd)
   (ao (pgn 10 sc24s.nd) (ao (pgn 11 sc24s.nd) (ao (pgn 12 sc24s.nd) aV))))))))
  (aF (aN (cF (cW cD o7 au (pv 3) (bO (v:=.int 8) rfl e1 ⟨_,rfl⟩)) (cF (cW cD o7 au (pv 4) (bO (v:=.int 8) rfl e1 ⟨_,rfl⟩)) (cF (fZ lB (pv 3) (pv 4) (aU _))
   (cF (cW cD cD au (pv 5) (bO (v:=.int 99) rfl e4 ⟨_,rfl⟩)) (eV (cW cD cD (pv 9) (pv 6) (pv 10))))))))))),?_⟩
 rw[mF h5]at et;refine aC ?_;refine⟨_,rfl,t,_,rfl,SqT.of et,rfl,_,_,rfl,_,_,rfl,_,_,rfl,_,_,rfl,_,_,rfl,rfl,?_⟩;dsimp only;refine aC ?_;refine cO (p:=λi j=>decide (i<=j)) (q:=λi j=>decide (i<j)) (i:=0) (j:=fl r 0) (k:=(xp.length:Int)) eZ (fO rfl) (λQ h=>⟨_,rfl,ap,xp,rfl,.inr (SqT.of rp.e),h⟩) _ ⟨_,rfl,?_⟩;have fin:=q;unfold wz at fin;rw[rp.l]
 cases e:(decide (0<=fl r 0)&&decide (fl r 0<ps.length))with
 |false=>
  rw[e]at fin;exact bh fin
 |true=>
  rw[e]at fin;rw[zAc,z08,z08]at e;obtain⟨p,hp,ep,op⟩:=prom_ok okp e.1 e.2;obtain⟨tp,hJ,ja⟩:=rows_at rp e.1 hp;rw[six_row op.1]at ja;refine aX ?_;dsimp only;refine aC ?_;refine⟨_,rfl,_,rfl,ap,xp,_,.ref tp,rfl,rfl,SqT.of rp.e,hJ,?_⟩;refine⟨tp,_,rfl,SqT.of ja,rfl,_,_,rfl,_,_,rfl,_,_,rfl,_,_,rfl,_,_,rfl,_,_,rfl,rfl,?_⟩;have Ll:uA ps r=p:=ep;rw[Ll]at fin;exact jt (cO eZ (fO rfl) eZ) (λ_=>jt (cO eZ (fO rfl) eZ) λ_=>jt (MP (fO rfl) (fO rfl)) λ_=>jt (cO eZ (fO rfl) eZ) λ_=>cO (fO rfl) (fO rfl) (fO rfl)) _ fin
theorem sc25s:FnScope ["promises","ahead","sale","number","seller","buyer","sacks","year","last"] ["promises","ahead","sale"] (az (top 41)):=fQS
theorem O6:(["at","promises","ahead","number","seller","sacks"]:List Str).Nodup:=by decide +kernel
theorem Ei(F:Fun K "sale_holds" "sale_holds" (top 41) f fd)(T:Mg mg)(Tr:mg "range"=none)(c1:Cal P w K mg base 1 "is_sale_between" ["promises","sale"] Eh)(c2:Cal P w K mg base 1 "held_in" ["promises","sales","number","year"] yf):
  FnOk P w K mg base CX0 2 f fd ["promises","ahead","sale"] zg:=by
 refine F.oq sc25s λcdv A outer s H vs Q E hr h=>?_;obtain⟨ap,xp,ps,af,xs,ss,t,r,rfl,rp,okp,rs,hl,ej,et,h5,q⟩:=h
 refine⟨_,aB (bR (cg (bL (aG c1 hr (aq (pv 0) (aq (pv 2) aj))))) (aF (aN iD)) aY)
  (aB (cN (pv 2) (bQ rfl (ao (bw (i:=3) sc25s.nd rfl (Or.inr rfl)) (ao (bw (i:=4) sc25s.nd rfl (Or.inr rfl)) (ao (pgn 5 sc25s.nd) (ao (bw (i:=6) sc25s.nd rfl (Or.inr rfl)) (ao (pgn 7 sc25s.nd) aV)))))))
  (aB (pss 8 sc25s.nd (pX bj (pX bj (pv 0) (pv 3)) au))
  (aF (aN (aK (gj rfl) rfl T.all boot_all (aq (bW ["at","promises","ahead","number","seller","sacks"] [none,some 0,some 1,some 3,some 4,some 6] rfl (rC rfl Tr (aq (pv 7) (aq (aO bT (pv 8) au) aj)))
   (λC fp z06 s₂ H₂=>⟨pgn 0 O6,bV,fZ IW (pX (ww (K:=K) rfl) (aG c2 hr (aq (pv 1) (aq (pv 2) (aq (pv 3) (aq (pv 0) aj))))) (pv 4)) (pv 5) (aU _)⟩)
   (λC=>cI (cI (cI (cI (cI trivial))))) ⟨rfl,rfl,rfl,rfl⟩) aj)))))),?_⟩
 have fin:=q;unfold cM at fin;refine aC ?_;refine⟨_,rfl,_,rfl,ap,xp,ps,t,r,rfl,rp,okp,et,h5,_,rfl,?_⟩
 cases e:wz ps r with
 |false=>
  rw[e]at fin;exact bh (fin _ (Same.refl _))
 |true=>
  rw[e]at fin;refine aX (bN ?_);dsimp only;refine aC ?_;unfold wz at e;simp only[Bool.and_eq_true,z08]at e;obtain⟨⟨n0,n1⟩,⟨b0,b1⟩,_,_,⟨k0,k1⟩,y0,y1⟩:=e;obtain⟨p,hp,ep,op⟩:=prom_ok okp n0 n1;have Ll:uA ps r=p:=ep;rw[Ll]at fin y0 y1;obtain⟨tp,hJ,ja⟩:=rows_at rp n0 hp;rw[mF h5]at et;rw[six_row op.1]at ja;obtain⟨_,_,_,⟨g1,g2,g3⟩,_⟩:=id op;refine⟨_,rfl,t,_,rfl,SqT.of et,rfl,_,_,rfl,_,_,rfl,_,_,rfl,_,_,rfl,_,_,rfl,rfl,?_⟩;dsimp only;refine aC (aP ?_);refine⟨_,rfl,_,rfl,ap,xp,_,.ref tp,rfl,rfl,SqT.of rp.e,hJ,tp,_,3,.int (fl p 3),rfl,rfl,SqT.of ja,rfl,?_⟩;refine aJ ?_;dsimp only;refine⟨_,rfl,_,rfl,_,_,rfl,rfl,fl r 4,fl p 3+1,rfl,⟨z00,z00,z00,z00⟩,?_⟩;refine Eg (λys Hc=>Same H Hc/\ys=((years (fl r 4) (fl p 3)).take ys.length).map λy=>V.bl (decide (fl r 3<=(cP p ss (fl r 0) y).getD (fl r 1).toNat 0))) ⟨Same.refl _,rfl⟩ z05 ?_ ?_
  .rintro i ys Hc Qc hi hy ⟨sc,ey⟩ qc;refine⟨_,rfl,_,rfl,_,rfl,_,rfl,ap,xp,ps,af,xs,ss,fl r 0,fl r 4+i,rfl,rp.same sc,rs.same sc,n0,n1,by rw[ep];exact op,hl,ej,λl H' s' el=>?_⟩;rw[ep]at el;refine⟨_,rfl,l,_,fl r 1,.int ((cP p ss (fl r 0) (fl r 4+i)).getD (fl r 1).toNat 0),rfl,rfl,SqL.of el,?_,_,rfl,_,_,rfl,rfl,qc _ _ ⟨sc.trans s',?_⟩⟩
   .unfold atI;rw[qz b0 (by rw[zA1,gO];lia)];exact jN (by rw[gO];lia)
   .have hx:(years (fl r 4) (fl p 3))[ys.length]?=some (fl r 4+(i:Int)):=by
     rw[hy];exact By hi
    exact BJ ey hx
  .rintro ys Hc hy ⟨sc,ey⟩ D hD;rw[Zal (by rw[Bx,hy];exact zA3 _)]at ey;refine⟨D,(years (fl r 4) (fl p 3)).map λy=>decide (fl r 3<=(cP p ss (fl r 0) y).getD (fl r 1).toNat 0),rfl,SqL.of (by rw[zAr];rw[ey];exact aa),?_⟩;rw[List.all_map];exact fin _ (sc.updR hD)
end K33
open K33P (iR)
namespace K33
open PySem L2
theorem RowsAt.cut(h:RowsAt H a xs rs)(i:Nat)(hp:H p=none):RowsAt (upd H p (.tup (xs.take i))) p (xs.take i) (rs.take i):=by
 refine⟨aa,by rw[zAd,zAd,h.l],λj r e=>?_⟩
 have hj:j<i:=by
  rw[List.getElem?_take]at e;split at e
  .assumption
  .cases e
 rw[List.getElem?_take_of_lt hj]at e;obtain⟨t,e1,e2⟩:=h.g j r e;exact⟨t,by rw[List.getElem?_take_of_lt hj];exact e1,Same.upd hp _ _ e2⟩
theorem zm(h:∀j,j<i->cM ps (ss.take j) (ss.getD j [])=true)(hi:i<ss.length)(hn:cM ps (ss.take i) (ss.getD i [])=false):un ps ss=some i:=by
 unfold un;rw[List.find?_range_eq_some];exact⟨by rw[hn];rfl,Zan.mpr hi,λj hj=>by rw[h j hj];rfl⟩
theorem zq(h:∀j,j<ss.length->cM ps (ss.take j) (ss.getD j [])=true):un ps ss=none:=by
 unfold un;rw[List.find?_range_eq_none]
 exact λj hj=>by rw[h j hj];rfl
theorem qC(h5:s.length=5)(h:cM ps ss s=true):okS s:=by
 unfold cM wz at h;simp only[Bool.and_eq_true,z08]at h;exact⟨h5,h.1.2.1,h.1.2.2.1⟩
theorem getD_get{ss:PK}(h:i<ss.length):ss.getD i []=ss[i]:=by
 rw[zA7,zA0 h];rfl
def part(d:PyData)(i:Nat):PyData:=(items d).getD i .none
def cQ(d:PyData):Bool:=bH d 3 3&&(gG (part d 0)&&(eG (part d 1)&&(fJ (part d 2)&&(un (rowsOf (part d 1)) (rowsOf (part d 2))).isNone)))
theorem sc26s:FnScope ["promises","sales","at","sale"] ["promises","sales"] (az (top 42)):=fQS
theorem Ej(F:Fun K "first_unheld" "first_unheld" (top 42) f fd)(Te:mg "enumerate"=none)(c1:Cal P w K mg base 4 "are_promises" ["thing"] (spT eG))(c2:Cal P w K mg base 3 "are_sales" ["thing"] (spT fJ))(c3:Cal P w K mg base 2 "sale_holds" ["promises","ahead","sale"] zg):
  FnOk P w K mg base CX0 5 f fd ["promises","sales"] zj:=by
 refine F.oq sc26s λcdv A outer s H vs Q E hr h=>?_;obtain⟨S,v,d,S',u,e,rfl,OA,ths,hp,hs,zp,zs,q⟩:=h
 refine⟨_,aB (bR (cg (bL (aG c1 hr (aq (pv 0) aj)))) gK aY)
  (aB (bR (cg (bL (aG c2 hr (aq (pv 1) aj)))) gK aY)
  (aB (cG zB7 rfl (ZT.pi_enum true rfl Te (aq (pv 1) aj)) (bQ rfl (ao (pgn 2 sc26s.nd) (ao (pgn 3 sc26s.nd) aV)))
   (aF (bR (cg (bL (aG c3 hr (aq (pv 0) (aq (cu yL (pv 1) cR (cU (pv 2))) (aq (pv 3) aj)))))) (aF (aN (pv 2))) aY)))
  (aF (aN jW)))),?_⟩
 refine aC ?_;refine⟨_,rfl,S,v,d,rfl,OA,zp,λH1 s1=>⟨_,rfl,?_⟩⟩;rw[hp];refine aX (bN ?_);dsimp only;refine aC ?_;refine⟨_,rfl,S',u,e,rfl,ths.same s1,zs,λH2 s2=>⟨_,rfl,?_⟩⟩;rw[hs];refine aX (bN ?_);dsimp only;have xh:=s1.trans s2;obtain⟨ep,lp,okp⟩:=kZ hp;obtain⟨es,ls,ej⟩:=lq hs;have fq:=OA.same xh;have ip:=ths.same xh;rw[ep]at fq;rw[es]at ip;generalize rowsOf d=ps at q lp okp fq;generalize rowsOf e=ss at q ls ej ip;obtain⟨ap,xp,rfl,rp⟩:=th_rows fq;obtain⟨af,xs,rfl,rs⟩:=th_rows ip;refine aC ?_;refine⟨_,rfl,af,xs,rfl,SqT.of rs.e,?_⟩;refine ZT.for_enum true (xs:=xs) (λi σ Hc=>∃x2 x3,σ=[some (.ref ap),some (.ref af),x2,x3]/\Same H2 Hc/\∀j,j<i->cM ps (ss.take j) (ss.getD j [])=true) ?_ ?_ ?_ ?_
 .exact⟨none,none,rfl,Same.refl _,λj hj=>absurd hj (Nat.not_lt_zero _)⟩
 .rintro i σ Hc hi ⟨x2,x3,rfl,sm,hh⟩;exact SqT.of (sm _ _ rs.e)
 .rintro i x σ Hc T0 hx ⟨x2,x3,rfl,sm,hh⟩ nT
  have hi:i<ss.length:=by
   have:=(zAa.mp hx).1;rw[rs.l]at this;exact this
  have AD:i<xs.length:=by rw[rs.l];exact hi
  obtain⟨tr,eW,bq⟩:=rs.g i ss[i] (zA0 hi)
  have:x=.ref tr:=by
   rw[hx]at eW;exact zAl eW
  subst this;have h5:=ej ss[i] (zAh hi);have sT:=sm.updR (o:=.tup [V.int i,V.ref tr]) nT;refine⟨T0,_,rfl,SqT.of aa,rfl,_,_,rfl,_,_,rfl,rfl,?_⟩;refine⟨_,rfl,_,rfl,_,rfl,i,rfl,af,xs,rfl,SqT.of (sT _ _ rs.e),λhw=>?_,λ_ p OB=>?_⟩
  .have:=hw.2;rw[HT.sIx_nat]at this;exact absurd this z00
  rw[iR (Za4 AD)];have sp:=sT.updR (o:=.tup (xs.take i)) OB;refine⟨_,rfl,ap,xp,ps,p,xs.take i,ss.take i,tr,ss[i],rfl,rp.same sp,okp,(rs.same sT).cut i OB,?_,?_,sp _ _ bq,h5,λH' s'=>⟨_,rfl,?_⟩⟩
  .rw[zAd];lia
  .intro s Ta;obtain⟨j,hj,e'⟩:=Zaq Ta;rw[zAd]at hj;have Tb:j<i:=z00
   have OC:j<ss.length:=z00
   have e2:ss[j]=s:=by rw[<-e',List.getElem_take]
   rw[<-e2];have:=hh j Tb;rw[getD_get OC]at this;exact qC (ej _ (zAh OC)) this
  .cases eh:cM ps (ss.take i) ss[i]with
   |false=>
    refine bh ⟨_,rfl,?_⟩;have:=q H' (xh.trans (sp.trans s'));rw[zm hh hi (by rw[getD_get hi];exact eh)]at this;exact this
   |true=>
    refine aX ⟨_,_,rfl,sp.trans s',λj hj=>?_⟩;rcases Nat.lt_succ_iff_lt_or_eq.mp hj with z|z
    .exact hh j z
    .rw[z,getD_get hi];exact eh
 .rintro σ Hc ⟨x2,x3,rfl,sm,hh⟩;have:=q Hc (xh.trans sm);rw[zq λj hj=>hh j (by rw[rs.l];exact hj)]at this;exact this
theorem sc27s:FnScope ["thing","clips","promises","sales"] ["thing"] (az (top 43)):=fQS
theorem ok_book(F:Fun K "is_book" "is_book" (top 43) f fd)(c0:Cal P w K mg base 1 "is_tuple_of" ["thing","fewest","most"] (jP bH))(c1:Cal P w K mg base 4 "are_clips" ["thing"] (spT gG))(c2:Cal P w K mg base 4 "are_promises" ["thing"] (spT eG))(c3:Cal P w K mg base 3 "are_sales" ["thing"] (spT fJ))(c4:Cal P w K mg base 5 "first_unheld" ["promises","sales"] zj):
  FnOk P w K mg base CX0 6 f fd ["thing"] (spT cQ):=by
 refine F.oq sc27s λcdv A outer s H vs Q E hr h=>?_;obtain⟨S,v,d,rfl,th,hz,q⟩:=h
 refine⟨_,aB (bR (cg (bL (aG c0 hr (aq (pv 0) (aq au (aq au aj)))))) (aF (aN iD)) aY)
  (aB (cN (pv 0) (bQ rfl (ao (pgn 1 sc27s.nd) (ao (pgn 2 sc27s.nd) (ao (pgn 3 sc27s.nd) aV)))))
  (aF (aN (cF (aG c1 hr (aq (pv 1) aj)) (cF (aG c2 hr (aq (pv 2) aj)) (cF (aG c3 hr (aq (pv 3) aj)) (eV (fZ xm (aG c4 hr (aq (pv 2) (aq (pv 3) aj))) jW (aU _))))))))),?_⟩
 have fin:=q;unfold cQ at fin;refine aC ?_;refine⟨_,rfl,S,v,d,3,3,rfl,th,hz,λH1 s1=>⟨_,rfl,?_⟩⟩
 cases e:bH d 3 3 with
 |false=>
  rw[e]at fin;exact bh (fin _ s1)
 |true=>
  rw[e]at fin;refine aX (bN ?_);dsimp only;obtain⟨ds,rfl,l1,l2⟩:=iW e;have fq:=th.same s1
  cases fq with
  |@tup a xs _ ea r=>
   obtain⟨v0,v1,v2,d0,d1,d2,rfl,rfl,h0,h1,h2⟩:=nR r (show ds.length=3 by lia);have z0:=iy (d:=d0) z01 hz;have z1:=iy (d:=d1) z01 hz;have z2:=iy (d:=d2) z01 hz;refine aC ?_;refine⟨_,rfl,a,_,rfl,SqT.of ea,rfl,_,_,rfl,_,_,rfl,_,_,rfl,rfl,?_⟩;dsimp only;have fin:∀H',Same H H'->Q (.bl (true&&(gG d0&&(eG d1&&(fJ d2&&(un (rowsOf d1) (rowsOf d2)).isNone))))) H':=fin;refine⟨_,rfl,S,_,d0,rfl,h0,z0,λH2 s2=>⟨_,rfl,?_⟩⟩
   cases e0:gG d0 with
   |false=>
    rw[e0]at fin;exact aX (fin _ (s1.trans s2))
   |true=>
    rw[e0]at fin;refine bh ?_;refine⟨_,rfl,S,_,d1,rfl,h1.same s2,z1,λH3 s3=>⟨_,rfl,?_⟩⟩
    cases e1:eG d1 with
    |false=>
     rw[e1]at fin;exact aX (fin _ ((s1.trans s2).trans s3))
    |true=>
     rw[e1]at fin;refine bh ?_;refine⟨_,rfl,S,_,d2,rfl,h2.same (s2.trans s3),z2,λH4 s4=>⟨_,rfl,?_⟩⟩
     cases e2:fJ d2 with
     |false=>
      rw[e2]at fin;exact aX (fin _ (((s1.trans s2).trans s3).trans s4))
     |true=>
      rw[e2]at fin;refine bh ?_;have Lm:=(s2.trans s3).trans s4;refine⟨_,rfl,_,rfl,S,_,d1,S,_,d2,rfl,h1.same Lm,h2.same Lm,e1,e2,z1,z2,λH5 s5=>⟨rfl,?_⟩⟩;have:=fin H5 (s1.trans (Lm.trans s5))
      cases eu:un (rowsOf d1) (rowsOf d2)with
      |none=>
       rw[eu]at this;exact this
      |some i=>
       rw[eu]at this;exact this
end K33
open K33P (cX boot_sum)
namespace K33
open PySem L2
def Els(H:Hp)(xs:List V)(rs:PK):Prop:=xs.length=rs.length/\∀(i:Nat) (r:UV),rs[i]?=some r->∃t,xs[i]?=some (V.ref t)/\H t=some (.tup (r.map V.int))
theorem Els.keep(h:Els H xs rs)(k:∀b l,H b=some (.tup l)->H' b=some (.tup l)):Els H' xs rs:=
 ⟨h.1,λi r e=>by
  obtain⟨t,e1,e2⟩:=h.2 i r e
  exact⟨t,e1,k _ _ e2⟩⟩
theorem Els.same(h:Els H xs rs)(s:Same H H'):Els H' xs rs:=h.keep λ_ _ e=>s _ _ e
theorem Els.nil:Els H [] []:=⟨rfl,λi r e=>by simp at e⟩
theorem Els.app(h:Els H xs rs)(g:Els H ys qs):Els H (xs++ys) (rs++qs):=by
 refine⟨by rw[zA2,zA2,h.1,g.1],λi r e=>?_⟩;by_cases hi:i<rs.length
 .rw[zBa hi]at e;obtain⟨t,e1,e2⟩:=h.2 i r e;exact⟨t,by rw[zBa (by rw[h.1];exact hi)];exact e1,e2⟩
 .rw[zB9 z00]at e;obtain⟨t,e1,e2⟩:=g.2 _ r e;exact⟨t,by rw[zB9 (by rw[h.1];lia),h.1];exact e1,e2⟩
theorem Els.one{r:UV}(e:H t=some (.tup (r.map V.int))):Els H [.ref t] [r]:=⟨rfl,λi q e'=>by
 cases i with
 |zero=>
  rw[List.getElem?_cons_zero]at e';cases e';exact⟨t,rfl,e⟩
 |succ i=>simp at e'⟩
theorem gA(h:r.length=4):r=[fl r 0,fl r 1,fl r 2,fl r 3]:=by
 match r,h with
 |[a,b,c,d],_=>rfl
theorem rd_E{t:TS}{D:Ends}(h:∀D',(∀σ H,N σ H->D'.nx σ H)->t D' σ H):t {D with nx:=N,ct:=N,bk:=D.nx} σ H:=h _ λ_ _ z=>z
def wts(rs:PK):UV:=rs.map λr=>fl r 3
def bf(rs:PK):Int:=(wts rs).sum
inductive SpSacksI(vs:List V)(H:Hp)(Q:VK):Prop
 |mk:∀l xs rs,(vs=[.ref l])->(H l=some (.lst xs))->(Els H xs rs)->((∀r∈rs,r.length=4))->(rs.length<=8000000)->(∀H',Same H H'->Q (.int (bf rs)) H')->SpSacksI  vs H Q
def zr:Sp:=λvs H Q _=>SpSacksI  vs H Q
theorem nd4:(["due","number","holder","sacks"]:List Str).Nodup:=by decide +kernel
theorem O7:FnScope ["rows"] ["rows"] (az (top 54)):=fQS
theorem Ek(F:Fun K "sacks_of" "sacks_of" (top 54) f fd)(Ts:mg "sum"=none):FnOk P w K mg base CX0 1 f fd ["rows"] zr:=by
 refine F.oq O7 λcdv A outer s H vs Q E hr h=>?_;obtain⟨l,xs,rs,rfl,el,cq,h4,hz,q⟩:=h
 refine⟨_,aF (aN (aK (gM rfl) rfl Ts boot_sum (aq (bW (g:=lA K 4 (bY (bG 0) (bY (bG 1) (bY (bG 2) (bY (bG 3) mQ))))) ["due","number","holder","sacks"] [none,none,none,none] rfl (dC (pv 0))
  (λC fp z06 s₂ H₂=>⟨dW rfl rfl (ao (pgn 0 nd4) (ao (pgn 1 nd4) (ao (pgn 2 nd4) (ao (pgn 3 nd4) aV)))),bV,pv 3⟩) (λC=>trivial) ⟨rfl,rfl,rfl,rfl⟩) aj))),?_⟩
 refine⟨_,rfl,l,rfl,⟨_,SqL.of el⟩,cX rs.length (λi ys σ Hc=>Same H Hc/\(∃o1 o2 o3 o4,σ=[o1,o2,o3,o4])/\ys=(wts (rs.take i)).map V.int) ⟨Same.refl H,⟨_,_,_,_,rfl⟩,rfl⟩ z05 ?_ ?_⟩
 .rintro i ys σ Hc hi hy ⟨s1,⟨o1,o2,o3,o4,rfl⟩,rfl⟩;obtain⟨t,ex,et⟩:=cq.2 i rs[i] (zA0 hi);rw[gA (h4 _ (zAh hi))]at et;refine⟨⟨_,_,SqL.of (s1 _ _ el),ex⟩,λv H' y R hR=>?_⟩;obtain⟨rfl,y⟩:=y;have hv:=y _ (SqL.of (s1 _ _ el));rw[ex]at hv;cases hv;refine⟨t,_,rfl,SqT.of (s1 _ _ et),rfl,_,_,rfl,_,_,rfl,_,_,rfl,_,_,rfl,rfl,_,rfl,hR _ _ _ ⟨s1,⟨_,_,_,_,rfl⟩,?_⟩⟩;unfold wts;rw[zAj,zA0 hi,zA4,zA4];rfl
 .rintro ys σ Hc hy ⟨s1,_,rfl⟩;refine⟨⟨_,SqL.of (s1 _ _ el),by rw[cq.1];exact zA3 _⟩,λD hD=>?_⟩;rw[zAm];exact⟨D,wts rs,rfl,.inl (SqL.of aa),q _ (s1.updR hD)⟩
def fK:Int->PK->UV
 |_,[]=>[]
 |w,r::rs=>(if w<fl r 3 then w else fl r 3)::fK (w-(if w<fl r 3 then w else fl r 3)) rs
theorem lu:∀w rs r,fK w (rs++[r])=fK w rs++[if w-(fK w rs).sum<fl r 3 then w-(fK w rs).sum else fl r 3]
 |w,[],r=>by
  show[_]=[_];rw[show(fK w []).sum=0 from rfl,Int.sub_zero]
 |w,q::rs,r=>by
  rw[List.cons_append];unfold fK;rw[lu _ rs r,List.cons_append,Zaf,show ∀a b c:Int,a-b-c=a-(b+c)from λa b c=>by lia]
theorem nU:∀w rs,(fK w rs).length=rs.length
 |_,[]=>rfl
 |w,r::rs=>by
  unfold fK;rw[zAe,zAe,nU]
theorem mG:∀{rs:PK},(∀r∈rs,0<=fl r 3)->0<=bf rs
 |[],_=>Za3 _
 |r::rs,h=>Int.add_nonneg (h r (.head _)) (mG λq hq=>h q (.tail _ hq))
structure ShOk(w:Int)(rs:PK)(sh:UV):Prop where
 len:sh.length=rs.length
 sum:sh.sum=min w (bf rs)
 bd:∀p∈rs.zip sh,0<=p.2/\p.2<=fl p.1 3
theorem J9:∀{w:Int} {rs:PK},0<=w->(∀r∈rs,0<=fl r 3)->ShOk w rs (fK w rs)
 |w,[],h,_=>⟨rfl,by show 0=min w 0;lia,λp hp=>nomatch hp⟩
 |w,r::rs,h,hr=>by
  have h3:=hr r (.head _);have hn:=mG λq hq=>hr q (.tail _ hq)
  obtain⟨x,hx⟩:∃x,x=if w<fl r 3 then w else fl r 3:=⟨_,rfl⟩
  have hb:0<=x/\x<=fl r 3/\x<=w/\(x=w\/x=fl r 3):=by split at hx<;>lia
  obtain⟨a,b,c⟩:=J9 (w:=w-x) (rs:=rs) z00 λq hq=>hr q (.tail _ hq);have e:fK w (r::rs)=x::fK (w-x) rs:=by rw[hx];rfl
  have es:bf (r::rs)=fl r 3+bf rs:=rfl;rw[e];refine⟨by rw[zAe,zAe,a],by rw[Zaf,b,es];lia,λp hp=>?_⟩;rcases zAo.mp hp with z|z
  .rw[z];exact⟨hb.1,hb.2.1⟩
  .exact c p z
theorem Kl{w:Int}{rs:PK}(h:∀r∈rs,0<=fl r 3)(hs:(wts rs).sum<=w):ShOk w rs (wts rs):=by
 refine⟨zA1 _,by show(wts rs).sum=min w (wts rs).sum;lia,λp hp=>?_⟩;obtain⟨i,hi,rfl⟩:=Zaq hp;rw[List.getElem_zip];have:(wts rs)[i]'(by rw[zAs]at hi;lia)=fl (rs[i]'(by rw[zAs]at hi;lia)) 3:=List.getElem_map _;show 0<=(wts rs)[i]'_/\(wts rs)[i]'_<=_;rw[this];exact⟨h _ (zAh _),Za3 _⟩
theorem MT{w:Int}(h:K33P.PtOk w (wts rs) ps)(hs:w<=(wts rs).sum):ShOk w rs ps:=by
 have hl:ps.length=rs.length:=h.len.trans (zA1 _);refine⟨hl,by rw[h.sum];show w=min w (wts rs).sum;lia,λp hp=>?_⟩;obtain⟨i,hi,rfl⟩:=Zaq hp;rw[zAs]at hi;rw[List.getElem_zip];exact h.bd (zA0 _) (by unfold wts;rw[zAb,zA0 z00];rfl)
inductive SpMadeI(vs:List V)(H:Hp)(Q:VK):Prop
 |mk:∀w l xs rs,(vs=[.int w,.ref l])->(H l=some (.lst xs))->(Els H xs rs)->((∀r∈rs,r.length=4))->(rs.length<=8000000)->(∀m H',Same H H'->H m=none->H' m=some (.lst ((fK w rs).map V.int))->Q (.ref m) H')->SpMadeI  vs H Q
def El:Sp:=λvs H Q _=>SpMadeI  vs H Q
inductive SpSharesI(vs:List V)(H:Hp)(Q:VK):Prop
 |mk:∀w l xs rs,(vs=[.int w,.ref l])->(H l=some (.lst xs))->(Els H xs rs)->((∀r∈rs,r.length=4/\1<=fl r 3/\fl r 3<=99))->(rs.length<=80)->(0<=w)->(∀t sh H',Same H H'->ShOk w rs sh->H' t=some (.tup (sh.map V.int))->Q (.ref t) H')->SpSharesI  vs H Q
def wA:Sp:=λvs H Q _=>SpSharesI  vs H Q
theorem scT1:FnScope ["wool","owed","shares","left","due","number","holder","sacks","share"] ["wool","owed"] (az (top 57)):=fQS
theorem Ht(F:Fun K "made_good" "made_good" (top 57) f fd)(Tn:mg "min"=none):FnOk P w K mg base CX0 1 f fd ["wool","owed"] El:=by
 refine F.oq scT1 λcdv A outer s H vs Q E hr h=>?_;obtain⟨w0,l,xs,rs,rfl,el,cq,h4,hz,q⟩:=h
 refine⟨_,aB (pss 2 scT1.nd (dJ aj))
  (aB (pss 3 scT1.nd (pv 0))
  (aB (cG zB7 rfl (dC (pv 1)) (bQ rfl (ao (pgn 4 scT1.nd) (ao (pgn 5 scT1.nd) (ao (pgn 6 scT1.nd) (ao (pgn 7 scT1.nd) aV)))))
   (aB (pss 8 scT1.nd (aK (iI rfl) rfl Tn boot_min (aq (pv 7) (aq (pv 3) aj))))
   (aB (cA (pI zBb zBd zBc iM (pv 2) (aq (pv 8) aj)))
   (aF (jX (i:=3) scT1.nd rfl (Or.inl rfl) (pv 8) Cq)))))
  (aF (aN (pv 2))))),?_⟩
 refine aC (aP ?_);refine⟨zL,λm hm=>?_⟩;refine aJ ?_;dsimp only;refine aC (aP ?_);refine⟨_,rfl,?_⟩;refine aJ ?_;dsimp only;refine aC ?_;have s1:=Same.upd (o:=.lst []) hm;have nl:l≠m:=aD el hm;refine⟨_,rfl,l,rfl,⟨_,SqL.of (s1 _ _ el)⟩,?_⟩;refine gQ (xs:=xs) (λi σ Hc=>∃x4 x5 x6 x7 x8,σ=[some (.int w0),some (.ref l),some (.ref m),some (.int (w0-(fK w0 (rs.take i)).sum)),x4,x5,x6,x7,x8]/\(∀b o,H b=some o->Hc b=some o)/\Hc m=some (.lst ((fK w0 (rs.take i)).map V.int))) ?_ ?_ ?_ ?_
 .refine⟨none,none,none,none,none,?_,λb o e=>s1 _ _ e,aa⟩;rw[List.take_zero,show(fK w0 []).sum=0 from rfl,Int.sub_zero];rfl
 .rintro i σ Hc hi ⟨x4,x5,x6,x7,x8,rfl,k,em⟩;exact SqL.of (k _ _ el)
 .rintro i x σ Hc hx ⟨x4,x5,x6,x7,x8,rfl,k,em⟩
  have hi:i<rs.length:=by
   have:=(zAa.mp hx).1;rw[cq.1]at this;exact this
  obtain⟨t,ex,et⟩:=cq.2 i rs[i] (zA0 hi);rw[ex]at hx;cases hx;rw[gA (h4 _ (zAh hi))]at et;refine⟨t,_,rfl,SqT.of (k _ _ et),rfl,_,_,rfl,_,_,rfl,_,_,rfl,_,_,rfl,rfl,?_⟩;refine aC (aP ?_);refine⟨_,rfl,_,rfl,_,_,rfl,?_⟩;refine aJ ?_;dsimp only;refine aC ?_;refine⟨_,rfl,.inl ⟨rfl,_,SqL.of em⟩,_,rfl,m,_,_,rfl,rfl,em,?_,?_⟩
  .rw[zA1,nU,zAd,sizeLine_eq];lia
  have fh:rs.take (i+1)=rs.take i++[rs[i]]:=by rw[zAj,zA0 hi];rfl
  dsimp only;refine⟨_,rfl,_,rfl,_,_,rfl,rfl,some (.int (fl rs[i] 0)),some (.int (fl rs[i] 1)),some (.int (fl rs[i] 2)),some (.int (fl rs[i] 3)),some (.int (if w0-(fK w0 (rs.take i)).sum<fl rs[i] 3 then w0-(fK w0 (rs.take i)).sum else fl rs[i] 3)),?_,λb o e=>?_,?_⟩
  .rw[fh,lu,List.sum_append,Zaf,List.sum_nil,Int.add_zero,show ∀a b c:Int,a-(b+c)=a-b-c from λa b c=>by lia];rfl
  .rw[aA (aD e hm)];exact k _ _ e
  .rw[aa,fh,lu,zA4];rfl
 .rintro σ Hc ⟨x4,x5,x6,x7,x8,rfl,k,em⟩;rw[show xs.length=rs.length from cq.1,zAm]at em;exact⟨_,rfl,q m Hc (λb o e=>k b o e) hm em⟩
theorem scT2:FnScope ["wool","claims","weights"] ["wool","claims"] (az (top 56)):=fQS
theorem BK(F:Fun K "shares_of" "shares_of" (top 56) f fd)(T:Mg mg)(Ts:mg "sum"=none)(c1:Cal P w K mg base 6 "parted" ["sacks","weights"] K33P.spParts):FnOk P w K mg base CX0 7 f fd ["wool","claims"] wA:=by
 refine F.oq scT2 λcdv A outer s H vs Q E hr h=>?_;obtain⟨w0,l,xs,rs,rfl,el,cq,h4,hz,hw,q⟩:=h
 refine⟨_,aB (pss 2 scT2.nd (cH cZ rfl T.tuple boot_tuple (aq (bW (g:=lA K 4 (bY (bG 0) (bY (bG 1) (bY (bG 2) (bY (bG 3) mQ))))) ["due","number","holder","sacks"] [none,none,none,none] rfl (dC (pv 1))
   (λC fp z06 s₂ H₂=>⟨dW rfl rfl (ao (pgn 0 nd4) (ao (pgn 1 nd4) (ao (pgn 2 nd4) (ao (pgn 3 nd4) aV)))),bV,pv 3⟩) (λC=>trivial) ⟨rfl,rfl,rfl,rfl⟩) aj)))
  (aF (aN (uV (aW cD (aK (gM rfl) rfl Ts boot_sum (aq (pv 2) aj)) (pv 0) (aU _)) (pv 2) (aG c1 hr (aq (pv 0) (aq (pv 2) aj)))))),?_⟩
 refine aC (aP ?_);refine⟨_,rfl,l,rfl,⟨_,SqL.of el⟩,cX rs.length (λi ys σ Hc=>Same H Hc/\(∃o1 o2 o3 o4,σ=[o1,o2,o3,o4])/\ys=(wts (rs.take i)).map V.int) ⟨Same.refl H,⟨_,_,_,_,rfl⟩,rfl⟩ z05 ?_ ?_⟩
 .rintro i ys σ Hc hi hy ⟨s1,⟨o1,o2,o3,o4,rfl⟩,rfl⟩;obtain⟨t,ex,et⟩:=cq.2 i rs[i] (zA0 hi);rw[gA (h4 _ (zAh hi)).1]at et;refine⟨⟨_,_,SqL.of (s1 _ _ el),ex⟩,λv H' y R hR=>?_⟩;obtain⟨rfl,y⟩:=y;have hv:=y _ (SqL.of (s1 _ _ el));rw[ex]at hv;cases hv;refine⟨t,_,rfl,SqT.of (s1 _ _ et),rfl,_,_,rfl,_,_,rfl,_,_,rfl,_,_,rfl,rfl,_,rfl,hR _ _ _ ⟨s1,⟨_,_,_,_,rfl⟩,?_⟩⟩;unfold wts;rw[zAj,zA0 hi,zA4,zA4];rfl
 .rintro ys σ Hc hy ⟨s1,_,rfl⟩;refine⟨⟨_,SqL.of (s1 _ _ el),by rw[cq.1];exact zA3 _⟩,λD hD=>?_⟩;rw[zAm];refine⟨D,_,rfl,.inl ⟨SqL.of aa,λt ht=>?_⟩⟩;have s2:=(s1.updR (o:=.lst ((wts rs).map V.int)) hD).updR (o:=.tup ((wts rs).map V.int)) ht;have et:=aa (H:=upd Hc D (.lst ((wts rs).map V.int))) (a:=t) (o:=.tup ((wts rs).map V.int));generalize upd (upd Hc D (.lst ((wts rs).map V.int))) t (.tup ((wts rs).map V.int))=H2 at s2 et⊢;refine aJ ?_;dsimp only;refine⟨_,rfl,t,wts rs,rfl,.inr (SqT.of et),_,rfl,_,_,rfl,rfl,_,rfl,?_⟩;by_cases hs:(wts rs).sum<=w0
  .rw[zAu hs];exact bh ⟨_,rfl,q t _ H2 s2 (Kl (λr hr=>by have:=(h4 r hr).2.1;lia) hs) et⟩
  .rw[zB2 hs];refine aX ⟨_,rfl,_,rfl,w0,t,wts rs,rfl,et,⟨?_,by unfold wts;rw[zA1];exact hz,λx hx=>?_⟩,hw,z00,λH3 t3 ps pk s3 e3=>q t3 ps H3 (s2.trans s3) (MT pk z00) e3⟩
   .cases iq:rs with
    |nil=>
     rw[iq]at hs;exact absurd hw hs
    |cons r rs'=>
     unfold wts;rw[zA1,zAe];lia
   .obtain⟨r,iq,rfl⟩:=zA5.mp hx;exact(h4 r iq).2
theorem iZ{Fin:List V->Hp->Prop}(n:Nat)(Pv:Nat->List V->St->Hp->Prop)(h0:Pv 0 [] dQ H0)(hz:n<sizeLine)
  (step:∀i ys σ H,i<n->ys.length<=i->Pv i ys σ H->J.go i H/\∀x H',J.yld i H x H'->∀R:List V->St->Hp->Prop,(∀gg aw H4,gg.length<=i+1->Pv (i+1) gg aw H4->R gg aw H4)->g x σ H' λaw H2=>tt aw H2 λb H3=>if b=true then te aw H3 λy H4=>R (ys++[y]) aw H4 else R ys aw H3)
  (fin:∀ys σ H,ys.length<=n->Pv n ys σ H->J.stop n H/\Fin ys H):oh J g tt te Fin dQ H0:=by
 refine⟨λi m ys σ H=>m=n-i/\i<=n/\ys.length<=i/\Pv i ys σ H,⟨_,rfl,zAp _,zA3 _,h0⟩,?_⟩;rintro i m ys σ H ⟨rfl,hi,hy,p⟩;refine⟨z00,?_⟩;by_cases ay:i<n
 .obtain⟨go,st⟩:=step i ys σ H ay hy p;exact .inr ⟨go,λx H' y=>st x H' y (λgg aw H4=>∃m',m'<n-i/\m'=n-(i+1)/\i+1<=n/\gg.length<=i+1/\Pv (i+1) gg aw H4) λgg aw H4 l2 p2=>⟨n-(i+1),z00,rfl,ay,l2,p2⟩⟩
 .have e:i=n:=z00
  subst e;exact .inl (fin ys σ H hy p)
def oO(f:UV×Int->Int)(P:List (UV×Int)):PK:=(P.filter λp=>decide (0<f p)).map λp=>[fl p.1 0,fl p.1 1,fl p.1 2,f p]
def qD(p:UV×Int):Int:=fl p.1 3-p.2
theorem mH(f:UV×Int->Int)(P:List (UV×Int))(p:UV×Int):oO f (P++[p])=oO f P++(if 0<f p then[[fl p.1 0,fl p.1 1,fl p.1 2,f p]]else[]):=by
 unfold oO;rw[Za7,zA4];congr 1;by_cases h:0<f p
 .rw[zAz h,zBf (p:=λp=>decide (0<f p)) (zAu h)];rfl
 .rw[zAy h,zBe (p:=λp=>decide (0<f p)) (by rw[z08];exact h)];rfl
theorem uC{f:UV×Int->Int}:∀{P:List (UV×Int)},(∀p∈P,0<=f p)->bf (oO f P)=(P.map f).sum
 |[],_=>rfl
 |p::P,h=>by
  have ih:=uC λq hq=>h q (.tail _ hq);have h0:=h p (.head _);rw[zAk,Zaf,<-ih];unfold oO;by_cases hp:0<f p
  .rw[zBf (p:=λp=>decide (0<f p)) (zAu hp)];rfl
  .rw[zBe (p:=λp=>decide (0<f p)) (by rw[z08];exact hp)];lia
theorem zu:∀{rs:PK} {sh:UV},sh.length=rs.length->((rs.zip sh).map (·.2)).sum=sh.sum/\((rs.zip sh).map qD).sum=bf rs-sh.sum
 |[],[],_=>⟨rfl,rfl⟩
 |[],_::_,h=>nomatch h
 |_::_,[],h=>nomatch h
 |r::rs,x::sh,h=>by
  obtain⟨a,b⟩:=zu (rs:=rs) (sh:=sh) (Nat.succ.inj h);have es:bf (r::rs)=fl r 3+bf rs:=rfl;rw[List.zip_cons_cons,zAk,zAk,Zaf,Zaf,Zaf,a,b,es];refine⟨rfl,?_⟩;show fl r 3-x+_=_;lia
def uD(q r:UV):Prop:=r=[fl q 0,fl q 1,fl q 2,fl r 3]/\1<=fl r 3/\fl r 3<=fl q 3
structure GvOk(w:Int)(rs G K:PK):Prop where
 gp:∀r∈G,∃q∈rs,uD q r
 kp:∀r∈K,∃q∈rs,uD q r
 gs:bf G=min w (bf rs)
 ks:bf K=bf rs-min w (bf rs)
 gl:G.length<=rs.length
 kl:K.length<=rs.length
theorem wB{f:UV×Int->Int}{rs:PK}{sh:UV}(h:∀p∈rs.zip sh,f p<=fl p.1 3):(∀r∈oO f (rs.zip sh),∃q∈rs,uD q r)/\(oO f (rs.zip sh)).length<=rs.length:=by
 refine⟨λr hr=>?_,?_⟩
 .obtain⟨p,hp,rfl⟩:=zA5.mp hr;obtain⟨m,hm⟩:=zAq.mp hp;exact⟨p.1,(List.of_mem_zip (show(p.1,p.2)∈_ from m)).1,rfl,zB8 hm,h p m⟩
 .have:=List.length_filter_le (λp=>decide (0<f p)) (rs.zip sh);unfold oO;rw[zA1];rw[zAs]at this;lia
theorem N5{w:Int}(h:ShOk w rs sh):GvOk w rs (oO (·.2) (rs.zip sh)) (oO qD (rs.zip sh)):=by
 obtain⟨a,b⟩:=zu h.len;obtain⟨g1,g2⟩:=wB (f:=(·.2)) (rs:=rs) (sh:=sh) λp hp=>(h.bd p hp).2
 obtain⟨k1,k2⟩:=wB (f:=qD) (rs:=rs) (sh:=sh) λp hp=>by have:=(h.bd p hp).1;show fl p.1 3-p.2<=_;lia
 exact⟨g1,k1,by rw[uC λp hp=>(h.bd p hp).1,a,h.sum],by rw[uC λp hp=>by have:=(h.bd p hp).2;show 0<=fl p.1 3-p.2;lia,b,h.sum],g2,k2⟩
theorem jO:∀a b,bf (a++b)=bf a+bf b:=λa b=>by
 unfold bf wts;rw[zA4,List.sum_append]
theorem Km{w:Int}{cl ow:PK}{sh mg:UV}(hc:∀r∈cl,0<=fl r 3)(ho:∀r∈ow,0<=fl r 3)(a:ShOk w cl sh)(b:ShOk (w-sh.sum) ow mg):ShOk w (cl++ow) (sh++mg):=by
 have e:=a.sum;have h1:=mG hc;have h2:=mG ho;refine⟨by rw[zA2,zA2,a.len,b.len],by rw[List.sum_append,b.sum,jO];lia,λp hp=>?_⟩;rw[List.zip_append a.len.symm]at hp;exact(zA6.mp hp).elim (a.bd p) (b.bd p)
inductive SpSortI(vs:List V)(H:Hp)(Q:VK):Prop
 |mk:∀w lc xc cl lo xo ow,(vs=[.int w,.ref lc,.ref lo])->(H lc=some (.lst xc))->(Els H xc cl)->((∀r∈cl,r.length=4/\1<=fl r 3/\fl r 3<=99))->(cl.length<=80)->(0<=w)->(H lo=some (.lst xo))->(Els H xo ow)->((∀r∈ow,r.length=4/\0<=fl r 3))->(ow.length<=4000000)->(∀t g k xg xk G K H',Same H H'->GvOk w (cl++ow) G K->H' t=some (.tup [.ref g,.ref k])->H g=none->H k=none->H' g=some (.lst xg)->Els H' xg G->H' k=some (.lst xk)->Els H' xk K->Q (.ref t) H')->SpSortI  vs H Q
def Em:Sp:=λvs H Q _=>SpSortI  vs H Q
theorem wC:bootBuiltins "list"=some (.type "list"):=by decide +kernel
theorem nd5:(["due","number","holder","sacks","share"]:List Str).Nodup:=by decide +kernel
theorem scU1:FnScope ["wool","claims","owed","shares","rows","gifts","lacking"] ["wool","claims","owed"] (az (top 58)):=fQS
theorem En(F:Fun K "sort_given" "sort_given" (top 58) f fd)(Ts:mg "sum"=none)(Tl:mg "list"=none)(Tz:mg "zip"=none)(c1:Cal P w K mg base 7 "shares_of" ["wool","claims"] wA)(c2:Cal P w K mg base 1 "made_good" ["wool","owed"] El):FnOk P w K mg base CX0 8 f fd ["wool","claims","owed"] Em:=by
 refine F.oq scU1 λcdv A outer s H vs Q E hr h=>?_;obtain⟨w0,lc,xc,cl,lo,xo,ow,rfl,ec,DI,Lo,Tc,hw,eo,rg,FK,Tf,q⟩:=h
 refine⟨_,aB (pss 3 scU1.nd (cH tR rfl Tl wC (aq (aG c1 hr (aq (pv 0) (aq (pv 1) aj))) aj)))
  (aB (pss 4 scU1.nd (aO j9 (pv 1) (pv 2)))
  (aB (jX (i:=3) scU1.nd rfl (Or.inl rfl) (aG c2 hr (aq (aO dY (pv 0) (aK (gM rfl) rfl Ts boot_sum (aq (pv 3) aj))) (aq (pv 2) aj))) nu)
  (aB (jJ (g:=lA K 2 (bY (lA K 4 (bY (bG 0) (bY (bG 1) (bY (bG 2) (bY (bG 3) mQ))))) (bY (bG 4) mQ))) (i:=5) ["due","number","holder","sacks","share"] [none,none,none,none,none] rfl scU1.nd rfl (Or.inl rfl) (ZT.pi_zip false false rfl Tz (aq (pv 4) (aq (pv 3) aj))) (λC fp z06 s₂ H₂=>⟨dW rfl rfl (ao (dW rfl rfl (ao (pgn 0 nd5) (ao (pgn 1 nd5) (ao (pgn 2 nd5) (ao (pgn 3 nd5) aV))))) (ao (pgn 4 nd5) aV)),jH (aW jm (pv 4) au (aU _)),bA (aq (pv 0) (aq (pv 1) (aq (pv 2) (aq (pv 4) aj))))⟩) (λC=>trivial) ⟨rfl,rfl,rfl,rfl⟩)
  (aB (jJ (g:=lA K 2 (bY (lA K 4 (bY (bG 0) (bY (bG 1) (bY (bG 2) (bY (bG 3) mQ))))) (bY (bG 4) mQ))) (i:=6) ["due","number","holder","sacks","share"] [none,none,none,none,none] rfl scU1.nd rfl (Or.inl rfl) (ZT.pi_zip false false rfl Tz (aq (pv 4) (aq (pv 3) aj))) (λC fp z06 s₂ H₂=>⟨dW rfl rfl (ao (dW rfl rfl (ao (pgn 0 nd5) (ao (pgn 1 nd5) (ao (pgn 2 nd5) (ao (pgn 3 nd5) aV))))) (ao (pgn 4 nd5) aV)),jH (aW jm (pv 3) (pv 4) (aU _)),bA (aq (pv 0) (aq (pv 1) (aq (pv 2) (aq (aO dY (pv 3) (pv 4)) aj))))⟩) (λC=>trivial) ⟨rfl,rfl,rfl,rfl⟩)
  (aF (aN (bA (aq (pv 5) (aq (pv 6) aj))))))))),?_⟩
 refine ir λc_ fS=>?_;refine aP ?_;refine⟨_,rfl,_,rfl,w0,lc,xc,cl,rfl,ec,DI,Lo,Tc,hw,λt sh H1 s1 okS et=>⟨t,_,rfl,.inr (SqT.of et),λls DJ=>?_⟩⟩;have s2:=s1.updR (o:=.lst (sh.map V.int)) DJ;have Tg:H ls=none:=s1.free DJ;have cq:=aa (H:=H1) (a:=ls) (o:=.lst (sh.map V.int));generalize upd H1 ls (.lst (sh.map V.int))=H2 at s2 cq⊢;refine aJ ?_;refine fS _ _ ?_;clear fS c_
 try dsimp only
 refine ir λc_ fS=>?_;refine aP ?_;refine⟨_,rfl,_,rfl,lc,lo,xc,xo,rfl,rfl,s2 _ _ ec,s2 _ _ eo,by rw[DI.1,rg.1,sizeLine_eq];lia,λlr kP=>?_⟩;have s3:=s2.updR (o:=.lst (xc++xo)) kP;have YH:H lr=none:=s2.free kP;have rh:=Same.upd (o:=.lst (xc++xo)) kP _ _ cq;have Lu:=aa (H:=H2) (a:=lr) (o:=.lst (xc++xo))
 have Th:lr≠ls:=λz=>by rw[z,cq]at kP;cases kP
 generalize upd H2 lr (.lst (xc++xo))=H3 at s3 rh Lu⊢;refine aJ ?_;refine fS _ _ ?_;clear fS c_
 try dsimp only
 refine ir λc_ fS=>?_;refine⟨_,rfl,_,rfl,_,rfl,ls,sh,rfl,.inl (SqL.of rh),_,_,rfl,rfl,_,rfl,_,lo,xo,ow,rfl,s3 _ _ eo,rg.same s3,λr hr=>(FK r hr).1,z00,λm H4 s4 nm em=>?_⟩;refine⟨ls,m,_,_,rfl,rfl,s4 _ _ rh,em,by rw[zA1,zA1,okS.len,nU,sizeLine_eq];lia,?_⟩
 have c0:∀r∈cl,0<=fl r 3:=λr hr=>by have:=(Lo r hr).2.1;lia
 have FO:=Km c0 (λr hr=>(FK r hr).2) okS (J9 (by have:=okS.sum;lia) λr hr=>(FK r hr).2);rw[<-zA4];generalize sh++fK (w0-sh.sum) ow=SH at FO;have DL:=FO.len;refine fS _ _ ?_;clear fS c_ okS
 try dsimp only
 have k5:Same H (upd H4 ls (.lst (SH.map V.int))):=λb o e=>by
  rw[aA (aD e Tg)];exact s4 _ _ (s3 _ _ e)
 have nv:=aa (H:=H4) (a:=ls) (o:=.lst (SH.map V.int));have iA:upd H4 ls (.lst (SH.map V.int)) lr=some (.lst (xc++xo)):=by rw[aA Th];exact s4 _ _ Lu
 generalize upd H4 ls (.lst (SH.map V.int))=H5 at k5 nv iA⊢;have AE:Els H (xc++xo) (cl++ow):=DI.app rg;have OD:∀r∈cl++ow,r.length=4:=λr hr=>(zA6.mp hr).elim (λz=>(Lo r z).1) λz=>(FK r z).1;have Ti:(cl++ow).length<=5000000:=by rw[zA2];lia
 generalize xc++xo=xr at iA AE;generalize cl++ow=rr at q DL FO AE OD Ti;clear cq rh Lu s1 s2 s3 s4 em et
 obtain⟨ZP,FR⟩:∃ZP,ZP=rr.zip SH:=⟨_,rfl⟩
 have gv:=N5 FO;rw[<-FR]at gv;have rj:ZP.length=rr.length:=by rw[FR,zAs,DL,Nat.min_self]
 have xi:∀i (h:i<ZP.length),rr[i]?=some ZP[i].1:=λi h=>by
  have hi:i<rr.length:=z00
  rw[zA0 hi];congr 1;simp only[FR,List.getElem_zip]
 have DM:∀i (h:i<ZP.length),SH[i]?=some ZP[i].2:=λi h=>by
  have hi:i<SH.length:=z00
  rw[zA0 hi];congr 1;simp only[FR,List.getElem_zip]
 have DO:∀i (h:i<ZP.length),(ZP[i].1).length=4:=λi h=>OD _ (zB6 (xi i h));refine ir λc_ fS=>?_;refine⟨_,rfl,_,rfl,lr,ls,xr,_,rfl,SqL.of iA,SqL.of nv,iZ rr.length (λi ys σ Hc=>Same H5 Hc/\(∃o1 o2 o3 o4 o5,σ=[o1,o2,o3,o4,o5])/\Els Hc ys (oO (·.2) (ZP.take i))) ⟨Same.refl _,⟨_,_,_,_,_,rfl⟩,Els.nil⟩ z05 ?_ ?_⟩
 .rintro i ys σ Hc hi hy ⟨sc,⟨o1,o2,o3,o4,o5,rfl⟩,ht⟩;have hP:i<ZP.length:=by rw[rj];exact hi
  obtain⟨tr,ex,et⟩:=AE.2 i ZP[i].1 (xi i hP);have er:SqL K Hc lr xr:=SqL.of (sc _ _ iA);have es:SqL K Hc ls (SH.map V.int):=SqL.of (sc _ _ nv);have sP:(SH.map V.int)[i]?=some (.int ZP[i].2):=by rw[zAb,DM i hP];rfl
  have fh:ZP.take (i+1)=ZP.take i++[ZP[i]]:=by rw[zAj,zA0 hP];rfl
  have DS:=sc _ _ (k5 _ _ et);rw[gA (DO i hP)]at DS;refine⟨⟨_,_,_,_,er,es,ex,sP⟩,λx H' yv R hR=>?_⟩;obtain⟨T0,nT,rfl,yv⟩:=yv;obtain⟨x',y',wx,xt,rfl⟩:=yv _ _ er es;rw[ex]at wx;cases wx;rw[sP]at xt;cases xt;have tj:=sc.updR (o:=.tup [.ref tr,.int ZP[i].2]) nT;refine⟨T0,_,rfl,SqT.of aa,rfl,_,_,rfl,?_⟩;refine⟨tr,_,rfl,SqT.of (Same.upd nT _ _ DS),rfl,_,_,rfl,_,_,rfl,_,_,rfl,_,_,rfl,rfl,?_⟩;refine⟨_,_,rfl,rfl,?_⟩;refine⟨_,rfl,_,_,rfl,rfl,_,rfl,?_⟩;by_cases aE:0<ZP[i].2
  .rw[zAu aE];refine bh ⟨_,rfl,_,rfl,_,rfl,_,rfl,zL,λt kC=>hR _ _ _ (by rw[zA2];show ys.length+1<=i+1;lia) ⟨tj.updR kC,⟨_,_,_,_,_,rfl⟩,?_⟩⟩;rw[fh,mH,zAz aE];exact(((ht.same (Same.upd nT)).same (Same.upd kC))).app (Els.one aa)
  .rw[zB2 aE];refine aX (hR _ _ _ z00 ⟨tj,⟨_,_,_,_,_,rfl⟩,?_⟩);rw[fh,mH,zAy aE,zAn];exact ht.same (Same.upd nT)
 rintro ys σ Hc hy ⟨sc,_,ht⟩;rw[<-rj,zAm]at ht;refine⟨⟨_,SqL.of (sc _ _ iA),by rw[AE.1];exact zA3 _⟩,λg hg=>?_⟩;have k6:=(k5.trans sc).updR (o:=.lst ys) hg;have ng:H g=none:=(k5.trans sc).free hg;have eg:=aa (H:=Hc) (a:=g) (o:=.lst ys);have rk:=ht.same (Same.upd (o:=.lst ys) hg);have rl:=Same.upd (o:=.lst ys) hg _ _ (sc _ _ iA);have xw:=Same.upd (o:=.lst ys) hg _ _ (sc _ _ nv);generalize upd Hc g (.lst ys)=H6 at k6 eg rk rl xw⊢;clear sc ht hy nv iA k5;refine fS _ _ ?_;clear fS c_
 try dsimp only
 refine ir λc_ fS=>?_;refine⟨_,rfl,_,rfl,lr,ls,xr,_,rfl,SqL.of rl,SqL.of xw,iZ rr.length (λi ys σ Hc=>Same H6 Hc/\(∃o1 o2 o3 o4 o5,σ=[o1,o2,o3,o4,o5])/\Els Hc ys (oO qD (ZP.take i))) ⟨Same.refl _,⟨_,_,_,_,_,rfl⟩,Els.nil⟩ z05 ?_ ?_⟩
 .rintro i ys σ Hc hi hy ⟨sc,⟨o1,o2,o3,o4,o5,rfl⟩,ht⟩;have hP:i<ZP.length:=by rw[rj];exact hi
  obtain⟨tr,ex,et⟩:=AE.2 i ZP[i].1 (xi i hP);have er:SqL K Hc lr xr:=SqL.of (sc _ _ rl);have es:SqL K Hc ls (SH.map V.int):=SqL.of (sc _ _ xw);have sP:(SH.map V.int)[i]?=some (.int ZP[i].2):=by rw[zAb,DM i hP];rfl
  have fh:ZP.take (i+1)=ZP.take i++[ZP[i]]:=by rw[zAj,zA0 hP];rfl
  have DS:=sc _ _ (k6 _ _ et);rw[gA (DO i hP)]at DS;refine⟨⟨_,_,_,_,er,es,ex,sP⟩,λx H' yv R hR=>?_⟩;obtain⟨T0,nT,rfl,yv⟩:=yv;obtain⟨x',y',wx,xt,rfl⟩:=yv _ _ er es;rw[ex]at wx;cases wx;rw[sP]at xt;cases xt;have tj:=sc.updR (o:=.tup [.ref tr,.int ZP[i].2]) nT;refine⟨T0,_,rfl,SqT.of aa,rfl,_,_,rfl,?_⟩;refine⟨tr,_,rfl,SqT.of (Same.upd nT _ _ DS),rfl,_,_,rfl,_,_,rfl,_,_,rfl,_,_,rfl,rfl,?_⟩;refine⟨_,_,rfl,rfl,?_⟩;refine⟨_,rfl,_,rfl,_,_,rfl,rfl,_,rfl,?_⟩;by_cases aE:0<qD ZP[i]
  .rw[zAu (show ZP[i].2<fl ZP[i].1 3 by unfold qD at aE;lia)];refine bh ⟨_,rfl,_,rfl,_,rfl,_,rfl,_,rfl,_,_,rfl,rfl,zL,λt kC=>hR _ _ _ (by rw[zA2];show ys.length+1<=i+1;lia) ⟨tj.updR kC,⟨_,_,_,_,_,rfl⟩,?_⟩⟩;rw[fh,mH,zAz aE];exact(((ht.same (Same.upd nT)).same (Same.upd kC))).app (Els.one aa)
  .rw[zB2 (show¬ZP[i].2<fl ZP[i].1 3 by unfold qD at aE;lia)];refine aX (hR _ _ _ z00 ⟨tj,⟨_,_,_,_,_,rfl⟩,?_⟩);rw[fh,mH,zAy aE,zAn];exact ht.same (Same.upd nT)
 rintro Lv σ Hc hy ⟨sc,_,ht⟩;rw[<-rj,zAm]at ht;refine⟨⟨_,SqL.of (sc _ _ rl),by rw[AE.1];exact zA3 _⟩,λk hk=>?_⟩;have k7:=(k6.trans sc).updR (o:=.lst Lv) hk;have nk:H k=none:=(k6.trans sc).free hk;have sk:=Same.upd (o:=.lst Lv) hk;refine fS _ _ ?_;clear fS c_
 try dsimp only
 refine⟨_,rfl,_,rfl,zL,λt kC=>?_⟩;have st:=Same.upd (o:=.tup [.ref g,.ref k]) kC;exact q t g k ys Lv _ _ _ (k7.trans st) gv aa ng nk (st _ _ (sk _ _ (sc _ _ eg))) (((rk.same sc).same sk).same st) (st _ _ aa) ((ht.same sk).same st)
abbrev ky(n y:Int):List Key:=[.inl n,.inl y]
theorem uE(h:ky n y=ky n' y'):n=n'/\y=y':=by
 injection h with h1 h2;injection h2 with h2 _;injection h1 with h1;injection h2 with h2;exact⟨h1,h2⟩
def dom(ps:PK)(n y:Int):Prop:=0<=n/\n<ps.length/\fl (ps.getD n.toNat []) 2<=y/\y<=fl (ps.getD n.toNat []) 3
def hl(ps ss:PK)(n y:Int):UV:=cP (ps.getD n.toNat []) ss n y
structure Lts(fo:Addr)(H0 H:Hp)(dm:Int->Int->Prop)(f:Int->Int->UV)(kvs:List (List Key×V)):Prop where
 sm:Same H0 H
 nf:H0 fo=none
 e:H fo=some (.dT kvs)
 g:∀n y,dm n y->∃d,dM kvs (ky n y)=some (.ref d)/\H d=some (.lst ((f n y).map V.int))
 no:∀n y,¬dm n y->dM kvs (ky n y)=none
 i:∀n y n' y' d,dM kvs (ky n y)=some (.ref d)->dM kvs (ky n' y')=some (.ref d)->n=n'/\y=y'
 fr:∀n y d,dM kvs (ky n y)=some (.ref d)->H0 d=none/\d≠fo
 kd:(kvs.map (·.1)).Nodup
 kk:∀k∈kvs.map (·.1),∃n y,k=ky n y/\dm n y
theorem Hu{k:List Key}(h:dM kvs k=none):¬k∈kvs.map (·.1):=λhk=>by
 obtain⟨p,hp,e⟩:=zA5.mp hk
 have:(dM kvs k).isSome=true:=by
  rw[<-gY,List.any_eq_true];exact⟨p,hp,zAu e⟩
 rw[h]at this;cases this
theorem Eo{k:List Key}(hn:(kvs.map (·.1)).Nodup)(h:dM kvs k=none):((putK kvs k v).map (·.1)).Nodup:=by
 rw[pO _ h,zA4,List.nodup_append];refine⟨hn,z01,λa ha b hb z=>?_⟩;rw[Zad.mp hb]at z;have z':a=k:=z;rw[z']at ha;exact Hu h ha
section
theorem Lts.same(g:Lts fo H0 H dm f kvs)(s:Same H H'):Lts fo H0 H' dm f kvs:=
 ⟨g.sm.trans s,g.nf,s _ _ g.e,λn y h=>by
  obtain⟨d,e1,e2⟩:=g.g n y h
  exact⟨d,e1,s _ _ e2⟩,g.no,g.i,g.fr,g.kd,g.kk⟩
theorem Lts.wr(g:Lts fo H0 H dm f kvs)(hv:dM kvs (ky N Y)=some (.ref d))(h1:f' N Y=L)(h2:∀n y,dm n y->¬(n=N/\y=Y)->f' n y=f n y):Lts fo H0 (upd H d (.lst (L.map V.int))) dm f' kvs:=by
 obtain⟨w1,w2⟩:=g.fr _ _ _ hv;refine⟨λc o e=>by rw[aA (aD e w1)];exact g.sm _ _ e,g.nf,by rw[aA w2.symm];exact g.e,λn y hd=>?_,g.no,g.i,g.fr,g.kd,g.kk⟩;by_cases hk:n=N/\y=Y
 .obtain⟨rfl,rfl⟩:=hk;exact⟨d,hv,by rw[aa,h1]⟩
 .obtain⟨d',q1,q2⟩:=g.g n y hd;have nd:d'≠d:=λz=>hk (g.i _ _ _ _ _ (z▸q1) hv);exact⟨d',q1,by rw[aA nd,h2 n y hd hk];exact q2⟩
theorem Lts.cast(g:Lts fo H0 H dm f kvs)(h:∀n y,dm n y->f' n y=f n y):Lts fo H0 H dm f' kvs:=
 ⟨g.sm,g.nf,g.e,λn y hd=>by
  obtain⟨d,e1,e2⟩:=g.g n y hd
  exact⟨d,e1,by rw[h n y hd];exact e2⟩,g.no,g.i,g.fr,g.kd,g.kk⟩
theorem Lts.put(g:Lts fo H0 H dm f kvs)(sH:Same H H')(DT:H d=none)(ed:H' d=some (.lst (L.map V.int)))(hL:f N Y=L)(hn:¬dm N Y)(DU:∀n y,OE n y↔(dm n y\/(n=N/\y=Y))):Lts fo H0 (upd H' fo (.dT (putK kvs (ky N Y) (.ref d)))) OE f (putK kvs (ky N Y) (.ref d)):=by
 have OF:d≠fo:=λz=>by rw[z,g.e]at DT;cases DT
 have kp:∀b o,b≠fo->H b=some o->upd H' fo (.dT (putK kvs (ky N Y) (.ref d))) b=some o:=λb o n e=>by
  rw[aA n];exact sH _ _ e
 have nn:=g.no N Y hn;refine⟨λb o e=>kp b o (aD e g.nf) (g.sm _ _ e),g.nf,aa,λn y z=>?_,λn y z=>?_,λn y n' y' d' z z'=>?_,λn y d' z=>?_,Eo g.kd nn,λk hk=>?_⟩
 .by_cases hk:ky n y=ky N Y
  .obtain⟨rfl,rfl⟩:=uE hk;exact⟨d,by rw[jq,zAz rfl],by rw[aA OF,hL];exact ed⟩
  .have hd:=((DU n y).mp z).resolve_right λw=>hk (by rw[w.1,w.2]);obtain⟨d',q1,q2⟩:=g.g n y hd;exact⟨d',by rw[jq,zAy hk];exact q1,kp _ _ (g.fr n y d' q1).2 q2⟩
 .have hk:¬ky n y=ky N Y:=λw=>z ((DU n y).mpr (.inr (uE w)));rw[jq,zAy hk];exact g.no n y λw=>z ((DU n y).mpr (.inl w))
 .have key:∀{n y},dM kvs (ky n y)=some (.ref d)->False:=λ{n y} w=>by
   by_cases hd:dm n y
   .obtain⟨YJ,q1,q2⟩:=g.g n y hd;rw[w]at q1;cases q1;rw[q2]at DT;cases DT
   .rw[g.no n y hd]at w;cases w
  rw[jq]at z z';by_cases h1:ky n y=ky N Y<;>by_cases h2:ky n' y'=ky N Y
  .obtain⟨rfl,rfl⟩:=uE h1;obtain⟨rfl,rfl⟩:=uE h2;exact⟨rfl,rfl⟩
  .rw[zAz h1]at z;rw[zAy h2]at z';cases z;exact(key z').elim
  .rw[zAy h1]at z;rw[zAz h2]at z';cases z';exact(key z).elim
  .rw[zAy h1]at z;rw[zAy h2]at z';exact g.i _ _ _ _ _ z z'
 .rw[jq]at z;by_cases h1:ky n y=ky N Y
  .rw[zAz h1]at z;cases z;exact⟨g.sm.free DT,OF⟩
  .rw[zAy h1]at z;exact g.fr n y d' z
 .rw[pO _ nn,zA4]at hk;rcases zA6.mp hk with z|z
  .obtain⟨n,y,a,b⟩:=g.kk k z;exact⟨n,y,a,(DU n y).mpr (.inl b)⟩
  .rw[Zad.mp z];exact⟨N,Y,rfl,(DU N Y).mpr (.inr ⟨rfl,rfl⟩)⟩
end
inductive SpRowsI(vs:List V)(H:Hp)(Q:VK):Prop
 |mk:∀ap xp ps af xs ss,(vs=[.ref ap,.ref af])->(RowsAt H ap xp ps)->(ps.length<=10)->((∀r∈ps,okP r))->(RowsAt H af xs ss)->(ss.length<=100)->((∀s∈ss,s.length=5))->(∀t fo H',Same H H'->H' t=some (.tup [.ref fo,unV (un ps ss)])->(un ps ss=none->∃kvs,Lts fo H H' (dom ps) (hl ps ss) kvs)->Q (.ref t) H')->SpRowsI  vs H Q
def spRows:Sp:=λvs H Q _=>SpRowsI  vs H Q
def Ep(p:UV):UV:=(List.range 8).map λi=>fl p 4*(if((i:Nat):Int)=fl p 0 then 1 else 0)
theorem Hv(op:okP (ps.getD n.toNat []))(hy:fl (ps.getD n.toNat []) 2<=y/\y<=fl (ps.getD n.toNat []) 3):hl ps [] n y=Ep (ps.getD n.toNat []):=by
 unfold hl cP;rw[zAz hy];show base0 (ps.getD n.toNat [])=Ep _;generalize ps.getD n.toNat []=p at op;obtain⟨_,⟨a,b⟩,_⟩:=op;unfold base0 Ep
 obtain⟨h,eh⟩:∃h:Nat,fl p 0=h:=⟨(fl p 0).toNat,z00⟩
 rw[eh];have:h=0\/h=1\/h=2\/h=3\/h=4\/h=5\/h=6\/h=7:=z00
 rcases this with rfl|rfl|rfl|rfl|rfl|rfl|rfl|rfl<;>simp[List.range_succ,List.replicate]
theorem Er(ps ss:PK)(n y:Int):(hl ps ss n y).length=8:=gO _ _ _ _
theorem Hw(hd:dom ps n y):hl ps (ss++[s]) n y=hstep n y (hl ps ss n y) s:=by
 unfold hl cP;rw[zAz hd.2.2,zAz hd.2.2,List.foldl_append];rfl
theorem holds_iff(ea:fl s 0=n)(eb:fl s 1=a)(ec:fl s 2=b)(ed:fl s 3=k)(ee:fl s 4=y):cM ps sa s=true↔(dom ps n y/\(0<=a/\a<8)/\(0<=b/\b<8)/\a≠b/\(1<=k/\k<=99))/\∀z,dom ps n z->y<=z->k<=(hl ps sa n z).getD a.toNat 0:=by
 have em:∀{u v z:Int},z∈years u v↔u<=z/\z<=v:=λ{u v z}=>by
  unfold years;rw[zA5];constructor
  .rintro⟨i,hi,rfl⟩;have:=Zan.mp hi;lia
  .rintro⟨h1,h2⟩;exact⟨(z-u).toNat,Zan.mpr z00,z00⟩
 unfold cM wz uA;rw[ea,eb,ec,ed,ee];simp only[Bool.and_eq_true,z08,Bool.not_eq_true',decide_eq_false_iff_not,List.all_eq_true];unfold dom;constructor
 .rintro⟨⟨h1,h2,h3,h4,h5,h6⟩,h7⟩;exact⟨⟨⟨h1.1,h1.2,h6.1,h6.2⟩,h2,h3,h4,h5⟩,λz hz hy=>h7 z (em.mpr ⟨hy,hz.2.2.2⟩)⟩
 .rintro⟨⟨h1,h2,h3,h4,h5⟩,h7⟩
  exact⟨⟨⟨h1.1,h1.2.1⟩,h2,h3,h4,h5,h1.2.2⟩,λz hz=>by
   obtain⟨q1,q2⟩:=em.mp hz
   exact h7 z ⟨h1.1,h1.2.1,z00,q2⟩ q1⟩
def yk(n y:Int)(p:List Key×V):Option Int:=match p.1 with
 |[.inl n',.inl z]=>if n'=n/\y<=z then some z else none
 |_=>none
theorem sU:bootBuiltins "min"=some (.builtin "min"):=by decide +kernel
theorem BL:bootBuiltins "max"=some (.builtin "max"):=by decide +kernel
theorem O8:([AAk,ABa,"_law_holder"]:List Str).Nodup:=by decide +kernel
theorem N6:(["_law_number_of",AAk,AAw,AAd]:List Str).Nodup:=by decide +kernel
theorem O9:([AAk,"_law_rows_here",AAw,"_law_seller"]:List Str).Nodup:=by decide +kernel
theorem scX:FnScope [AAe,AAu,"_law_rows_here",AAw,"_law_holder","_law_sort","_law_first","_law_last",ABa,"_law_price",AAd,"_law_at","_law_seller","_law_buyer",AAi,"_law_least",AAk] [AAe,AAu] (az (top 79)):=fQS
theorem Hy(F:Fun K "_law_rows" "_law_rows" (top 79) f fd)(T:Mg mg)(Te:mg "enumerate"=none)(Tr:mg "range"=none)(Tn:mg "min"=none)(Tm:mg "max"=none):FnOk P w K mg base CX0 1 f fd [AAe,AAu] spRows:=by
 refine F.oq scX λcdv A outer s H vs Q E hr h=>?_;obtain⟨ap,xp,ps,af,xs,ss,rfl,rp,lp,okp,rs,ls,h5,q⟩:=h
 refine K33P.ok_b (aH (xM (i:=2) scX.nd rfl (Or.inr rfl) ⟨CK⟩)
  (aH ⟨cG zB7 rfl (ZT.pi_enum true rfl Te (aq (pv 0) aj)) (bQ rfl (ao (bw (i:=3) scX.nd rfl (Or.inr rfl)) (ao (bQ rfl (ao (bw (i:=4) scX.nd rfl (Or.inr rfl)) (ao (pgn 5 scX.nd) (ao (pgn 6 scX.nd)
    (ao (pgn 7 scX.nd) (ao (bw (i:=8) scX.nd rfl (Or.inr rfl)) (ao (pgn 9 scX.nd) aV))))))) aV)))
   (jU (bx ⟨cG zB7 rfl (rC rfl Tr (aq (pv 6) (aq (aO bT (pv 7) au) aj))) (bw (i:=10) scX.nd rfl (Or.inr rfl))
    (jU (bx ⟨Gs (pJ hr) (pv 2) (bA (aq (pv 3) (aq (pv 10) aj))) (bW [AAk,ABa,"_law_holder"] [none,some 8,some 4] rfl (cY rfl Tr (aq au aj)) (λC fp z06 s₂ H₂=>⟨pgn 0 O8,bV,aO gR (pv 1) (cH Ad rfl T.int boot_int (aq (fZ iH (pv 0) (pv 2) (aU _)) aj))⟩) (λC=>cI (cI trivial)) ⟨rfl,rfl,rfl,rfl⟩) rfl⟩))⟩))⟩
  (aH ⟨cG zB7 rfl (ZT.pi_enum true rfl Te (aq (pv 1) aj)) (bQ rfl (ao (pgn 11 scX.nd) (ao (bQ rfl (ao (bw (i:=3) scX.nd rfl (Or.inr rfl)) (ao (bw (i:=12) scX.nd rfl (Or.inr rfl)) (ao (pgn 13 scX.nd)
    (ao (bw (i:=8) scX.nd rfl (Or.inr rfl)) (ao (bw (i:=10) scX.nd rfl (Or.inr rfl)) aV)))))) aV)))
   (jU (aH ⟨bR (PW.pt (iG (aW iH (pv 12) (pv 13) (aU _)) (iG (aW o7 (aK (iI rfl) rfl Tn sU (aq (pv 12) (aq (pv 13) aj))) au (aU _)) (iG (aW jm (aK (jG rfl) rfl Tm BL (aq (pv 12) (aq (pv 13) aj))) au (aU _)) (j7 (Jm (Al (pJ hr) (bA (aq (pv 3) (aq (pv 10) aj))) (pv 2)))))))) (aF (aN (bA (aq (pv 2) (aq (pv 11) aj))))) aY⟩
   (aH ⟨JS (jJ (i:=14) (g:=lA K 2 (bY (bG 0) (bY (bG 1) mQ))) ["_law_number_of",AAk,AAw,AAd] [none,none,some 3,some 10] rfl scX.nd rfl (Or.inl rfl) (GX (pv 2)) (λC fp z06 s₂ H₂=>⟨dW rfl rfl (ao (pgn 0 N6) (ao (pgn 1 N6) aV)),jH (PW.pt (iB (aW iH (pv 0) (pv 2) (aU _)) (jE (aW IW (pv 1) (pv 3) (aU _))))),pv 1⟩) (λC=>cI (cI trivial)) ⟨rfl,rfl,rfl,rfl⟩)⟩
   (aH (fU 15 scX.nd ⟨aK (qX rfl) rfl Tn sU (aM (bW [AAk,"_law_rows_here",AAw,"_law_seller"] [none,some 2,some 3,some 12] rfl (dC (pv 14)) (λC fp z06 s₂ H₂=>⟨pgn 0 O9,bV,pX (ww (K:=K) rfl) (lF (pJ hr) (pv 1) (bA (aq (pv 2) (aq (pv 0) aj))) (λ_ _=>rfl)) (pv 3)⟩) (λC=>cI (cI (cI trivial))) ⟨rfl,rfl,rfl,rfl⟩) aj)⟩)
   (aH ⟨bR (PW.pt (iG (cg (pF cD cD au (pv 8) au)) (j7 (aW o7 (pv 15) (pv 8) (aU _))))) (aF (aN (bA (aq (pv 2) (aq (pv 11) aj))))) aY⟩
   (bx ⟨cG zB7 rfl (dC (pv 14)) (pgn 16 scX.nd)
    (jU (aH ⟨cN (aO dY (pX bM (lF (pJ hr) (pv 2) (bA (aq (pv 3) (aq (pv 16) aj))) (λ_ _=>rfl)) (pv 12)) (pv 8)) (mR (lF (pJ hr) (pv 2) (bA (aq (pv 3) (aq (pv 16) aj))) (λ_ _=>rfl)) (pv 12) set_list)⟩
    (bx ⟨cN (aO bT (pX bM (lF (pJ hr) (pv 2) (bA (aq (pv 3) (aq (pv 16) aj))) (λ_ _=>rfl)) (pv 13)) (pv 8)) (mR (lF (pJ hr) (pv 2) (bA (aq (pv 3) (aq (pv 16) aj))) (λ_ _=>rfl)) (pv 13) set_list)⟩)))⟩))))))⟩
  (bx (fQ ⟨bA (aq (pv 2) (aq jW aj))⟩))))) ?_
 refine aC (aP ?_);refine λfo OG=>?_;refine aJ ?_;dsimp only
 have d0:Lts fo H (upd H fo (.dT [])) (λ_ _=>False) (hl ps []) []:=⟨Same.upd OG,OG,aa,λ_ _ z=>z.elim,λ_ _ _=>rfl,λ_ _ _ _ _ z=>(by cases z),λ_ _ _ z=>(by cases z),List.nodup_nil,λk hk=>(by cases hk)⟩
 generalize upd H fo (.dT [])=H1 at d0⊢;refine aC ?_;refine⟨_,rfl,ap,xp,rfl,SqT.of (d0.sm _ _ rp.e),?_⟩;refine ZT.for_enum true (xs:=xp) (λi σ Hc=>∃x3 x4 x5 x6 x7 x8 x9 fe fv fw fx fy fE iE kvs,σ=[some (.ref ap),some (.ref af),some (.ref fo),x3,x4,x5,x6,x7,x8,x9,fe,fv,fw,fx,fy,fE,iE]/\Lts fo H Hc (λn y=>dom ps n y/\n<i) (hl ps []) kvs/\kvs.length<=20*i) ?_ ?_ ?_ ?_
 .exact⟨none,none,none,none,none,none,none,none,none,none,none,none,none,none,[],rfl,⟨d0.sm,d0.nf,d0.e,λn y z=>by
   have:=z.1.1;have:=z.2
   lia,λn y _=>rfl,d0.i,d0.fr,d0.kd,λk hk=>(by cases hk)⟩,zA3 _⟩
 .rintro i σ Hc hi ⟨x3,x4,x5,x6,x7,x8,x9,fe,fv,fw,fx,fy,fE,iE,kvs,rfl,dt,lk⟩;exact SqT.of (dt.sm _ _ rp.e)
 .rintro i x σ Hc T0 hx ⟨x3,x4,x5,x6,x7,x8,x9,fe,fv,fw,fx,fy,fE,iE,kvs,rfl,dt,lk⟩ nT
  have hi:i<ps.length:=by
   have:=(zAa.mp hx).1;rw[rp.l]at this;exact this
  obtain⟨tr,eW,bq⟩:=rp.g i ps[i] (zA0 hi)
  have:x=.ref tr:=by
   rw[hx]at eW;exact zAl eW
  subst this;have op:=okp ps[i] (zAh hi)
  have ep:ps.getD ((i:Int)).toNat []=ps[i]:=by
   rw[zAi];exact getD_get hi
  have dT:=dt.same (Same.upd (o:=.tup [V.int i,V.ref tr]) nT);generalize YK:ps[i]=p at bq op ep;have AF:=dT.sm _ _ bq;rw[six_row op.1]at AF;have Tj:=op;obtain⟨_,⟨a1,a2⟩,_,⟨c1,c2,c3⟩,⟨e1,e2⟩,_⟩:=op;refine⟨T0,_,rfl,SqT.of aa,rfl,_,_,rfl,_,_,rfl,?_⟩;refine⟨tr,_,rfl,SqT.of AF,rfl,_,_,rfl,_,_,rfl,_,_,rfl,_,_,rfl,_,_,rfl,_,_,rfl,rfl,rfl,?_⟩;refine rd_E λDe rq=>?_;refine⟨_,rfl,_,rfl,_,_,rfl,rfl,fl p 2,fl p 3+1,rfl,⟨z00,z00,z00,z00⟩,?_⟩;generalize upd Hc T0 (.tup [V.int i,V.ref tr])=H2 at dT⊢;refine eQ (lo:=fl p 2) (n:=(fl p 3+1-fl p 2).toNat) (λj σ Hj=>∃fe kvs,σ=[some (.ref ap),some (.ref af),some (.ref fo),some (.int i),some (.int (fl p 0)),some (.int (fl p 1)),some (.int (fl p 2)),some (.int (fl p 3)),some (.int (fl p 4)),some (.int (fl p 5)),fe,fv,fw,fx,fy,fE,iE]/\Lts fo H Hj (λn y=>dom ps n y/\(n<i\/(n=i/\y<fl p 2+j))) (hl ps []) kvs/\kvs.length<=20*i+j) ?_ ?_ ?_
  .refine⟨fe,kvs,rfl,⟨dT.sm,dT.nf,dT.e,λn y z=>dT.g n y ⟨z.1,?_⟩,λn y z=>dT.no n y λz'=>z ⟨z'.1,.inl z'.2⟩,dT.i,dT.fr,dT.kd,λk hk=>?_⟩,lk⟩
   .rcases z.2 with z2|⟨z2,z3⟩
    .exact z2
    .obtain⟨_,_,w1,_⟩:=z.1;rw[z2,ep]at w1;lia
   .obtain⟨n,y,a,b⟩:=dT.kk k hk;exact⟨n,y,a,b.1,.inl b.2⟩
  .rintro j σ Hj hj ⟨fe,kvs,rfl,dj,lj⟩;refine aJ ?_;refine rd_E λYL vx=>?_;refine⟨8,rfl,by decide,by decide,cX 8 (λi ys σ Hc=>Hc=Hj/\(∃o1,σ=[o1,some (.int (fl p 4)),some (.int (fl p 0))])/\ys=(((List.range i).map λi=>fl p 4*(if((i:Nat):Int)=fl p 0 then 1 else 0)):UV).map V.int) ⟨rfl,⟨_,rfl⟩,rfl⟩ (by rw[sizeLine_eq];decide) ?_ ?_⟩
   .rintro i' ys σ Hc pb hy ⟨rfl,⟨o1,rfl⟩,rfl⟩;refine⟨pb,λv H' y' R hR=>?_⟩;obtain⟨rfl,rfl⟩:=y';refine aJ ?_;have z0:(0:Int)+(i':Int)=i':=z00
    rw[z0];refine⟨_,rfl,_,rfl,_,rfl,rfl,.inr ⟨_,rfl,_,_,rfl,rfl,.inl ⟨z00,z00⟩,hR _ _ _ ⟨rfl,⟨_,rfl⟩,?_⟩⟩⟩;rw[List.range_succ,zA4,zA4];congr 1;show[V.int _]=[V.int _];congr 2;dsimp only;by_cases hh:(i':Int)=fl p 0
    .rw[zAz hh,zAu (by rw[hh])];rfl
    .rw[zAy hh,zB2 (λz=>hh (by injection z))];rfl
   rintro ys σ Hc hy ⟨rfl,_,rfl⟩;refine⟨zA3 _,λd hd=>?_⟩;have ud:=Same.upd (o:=.lst ((Ep p).map V.int)) hd;have ed:=aa (H:=Hc) (a:=d) (o:=.lst ((Ep p).map V.int));refine⟨_,rfl,_,rfl,_,rfl,zL,λt ht=>⟨fo,_,rfl,DPut.t (k:=ky i (fl p 2+j)) (Same.upd ht _ _ (ud _ _ dj.e)) aa z05,?_⟩⟩;have u2:=ud.updR (o:=.tup [V.int i,V.int (fl p 2+j)]) ht
   refine vx _ _ ⟨_,_,rfl,dj.put u2 hd (Same.upd ht _ _ ed) (Hv (by rw[ep];exact Tj) (by rw[ep];lia) |>.trans (by rw[ep])) (λz=>by
    rcases z.2 with z2|⟨z2,z3⟩<;>lia) (λn y=>⟨λz=>?_,λz=>?_⟩),?_⟩
   .rcases z.2 with z2|⟨z2,z3⟩
    .exact .inl ⟨z.1,.inl z2⟩
    .by_cases sP:y=fl p 2+j
     .exact .inr ⟨z2,sP⟩
     .exact .inl ⟨z.1,.inr ⟨z2,z00⟩⟩
   .rcases z with z|⟨rfl,rfl⟩
    .exact⟨z.1,z.2.imp id λw=>⟨w.1,z00⟩⟩
    .exact⟨⟨z00,z00,by rw[ep];lia,by rw[ep];lia⟩,.inr ⟨rfl,z00⟩⟩
   .rw[pO _ (dj.no _ _ λz=>by rcases z.2 with z2|⟨z2,z3⟩<;>lia),zA2];show kvs.length+1<=20*i+(j+1);lia
  .rintro σ Hj ⟨fe,kvs,rfl,dj,lj⟩;refine rq _ _ ⟨_,_,_,_,_,_,_,_,_,_,_,_,_,_,kvs,rfl,⟨dj.sm,dj.nf,dj.e,λn y z=>dj.g n y ⟨z.1,?_⟩,λn y z=>dj.no n y λz'=>z ⟨z'.1,?_⟩,dj.i,dj.fr,dj.kd,λk hk=>?_⟩,z00⟩
   .by_cases hn:n<i
    .exact .inl hn
    .have we:n=i:=z00
     refine .inr ⟨we,?_⟩;obtain⟨_,_,_,w⟩:=z.1;rw[we,ep]at w;lia
   .rcases z'.2 with w|⟨w,_⟩<;>lia
   .obtain⟨n,y,a,b⟩:=dj.kk k hk;refine⟨n,y,a,b.1,?_⟩;rcases b.2 with w|⟨w,_⟩<;>lia
 rintro σ Hc ⟨x3,x4,x5,x6,x7,x8,x9,fe,fv,fw,fx,fy,fE,iE,kvs0,rfl,dt,lk⟩
 have LA:Lts fo H Hc (dom ps) (hl ps []) kvs0:=⟨dt.sm,dt.nf,dt.e,λn y z=>dt.g n y ⟨z,by rw[rp.l];exact z.2.1⟩,λn y z=>dt.no n y λw=>z w.1,dt.i,dt.fr,dt.kd,λk hk=>by
  obtain⟨n,y,a,b⟩:=dt.kk k hk
  exact⟨n,y,a,b.1⟩⟩
 have YM:kvs0.length<=200:=by
  rw[rp.l]at lk;lia
 clear dt lk d0;dsimp only;refine aC ?_;refine⟨_,rfl,af,xs,rfl,SqT.of (LA.sm _ _ rs.e),?_⟩;refine ZT.for_enum true (xs:=xs) (λi σ Hc=>∃x3 x4 x5 x6 x7 x8 x9 fe fv fw fx fy fE iE,σ=[some (.ref ap),some (.ref af),some (.ref fo),x3,x4,x5,x6,x7,x8,x9,fe,fv,fw,fx,fy,fE,iE]/\Lts fo H Hc (dom ps) (hl ps (ss.take i)) kvs0/\∀j,j<i->cM ps (ss.take j) (ss.getD j [])=true) ?_ ?_ ?_ ?_
 .exact⟨_,_,_,_,_,_,_,_,_,_,_,_,_,_,rfl,by rw[List.take_zero];exact LA,λj hj=>z00⟩
 .rintro i σ Hc hi ⟨x3,x4,x5,x6,x7,x8,x9,fe,fv,fw,fx,fy,fE,iE,rfl,dt,hh⟩;exact SqT.of (dt.sm _ _ rs.e)
 .clear LA;rintro i x σ Hc T0 hx ⟨x3,x4,x5,x6,x7,x8,x9,fe,fv,fw,fx,fy,fE,iE,rfl,dt,hh⟩ nT
  have hi:i<ss.length:=by
   have:=(zAa.mp hx).1;rw[rs.l]at this;exact this
  obtain⟨tr,eW,bq⟩:=rs.g i ss[i] (zA0 hi)
  have:x=.ref tr:=by
   rw[hx]at eW;exact zAl eW
  subst this;have eg:ss.getD i []=ss[i]:=getD_get hi
  have fh:ss.take (i+1)=ss.take i++[ss[i]]:=by
   rw[zAj,zA0 hi];rfl
  have l5:=h5 _ (zAh hi);have dT:=dt.same (Same.upd (o:=.tup [V.int i,V.ref tr]) nT);have AF:=dT.sm _ _ bq;generalize Oi:ss[i]=s at eg fh l5 AF;generalize To:ss.take i=sa at dT fh;have hH:cM ps sa s=cM ps (ss.take i) (ss.getD i []):=by rw[To,eg]
  obtain⟨n,ea⟩:∃n,fl s 0=n:=⟨_,rfl⟩
  obtain⟨a,eb⟩:∃n,fl s 1=n:=⟨_,rfl⟩
  obtain⟨b,ec⟩:∃n,fl s 2=n:=⟨_,rfl⟩
  obtain⟨k,ed⟩:∃n,fl s 3=n:=⟨_,rfl⟩
  obtain⟨y,ee⟩:∃n,fl s 4=n:=⟨_,rfl⟩
  have OH:upd Hc T0 (.tup [V.int i,V.ref tr]) tr=some (.tup [.int n,.int a,.int b,.int k,.int y]):=by
   rw[AF,mF l5,ea,eb,ec,ed,ee];rfl
  refine⟨T0,_,rfl,SqT.of aa,rfl,_,_,rfl,_,_,rfl,?_⟩;refine⟨tr,_,rfl,SqT.of OH,rfl,_,_,rfl,_,_,rfl,_,_,rfl,_,_,rfl,_,_,rfl,rfl,rfl,?_⟩;generalize upd Hc T0 (.tup [V.int i,V.ref tr])=H2 at dT⊢;clear dt nT AF OH bq
  have bad:∀{Hd:Hp},Same H Hd->cM ps sa s=false->∀t,Hd t=none->Q (.ref t) (upd Hd t (.tup [.ref fo,.int i])):=λ{Hd} sd hf t ht=>by
   have eu:un ps ss=some i:=zm hh hi (by rw[<-hH];exact hf);refine q t fo _ (sd.updR ht) (by rw[aa,eu];rfl) λz=>?_;rw[eu]at z;cases z
  have OI:=holds_iff (ps:=ps) (sa:=sa) ea eb ec ed ee
  have iF:¬((dom ps n y/\(0<=a/\a<8)/\(0<=b/\b<8)/\a≠b/\(1<=k/\k<=99))/\∀z,dom ps n z->y<=z->k<=(hl ps sa n z).getD a.toNat 0)->cM ps sa s=false:=λh=>by
   cases z:cM ps sa s with
   |false=>rfl
   |true=>exact absurd (OI.mp z) h
  refine aC ?_;refine⟨_,rfl,_,rfl,rfl,_,rfl,?_⟩;by_cases FU:a=b
  .rw[zAu (by rw[FU])];exact bh (bh ⟨_,rfl,_,rfl,zL,λt ht=>bad dT.sm (iF λh=>h.1.2.2.2.1 FU) t ht⟩)
  rw[zB2 (λz=>FU (by injection z))];refine aX ⟨_,rfl,_,rfl,_,_,rfl,_,_,rfl,rfl,_,rfl,?_⟩;by_cases nB:(if b<a then b else a)<0
  .rw[zAu nB];refine bh (bh ⟨_,rfl,_,rfl,zL,λt ht=>bad dT.sm (iF λh=>?_) t ht⟩);have:=h.1.2.1;have:=h.1.2.2.1;split at nB<;>lia
  rw[zB2 nB];refine aX ⟨_,rfl,_,rfl,_,_,rfl,_,_,rfl,rfl,_,rfl,?_⟩;by_cases nE:(if b>a then b else a)>7
  .rw[zAu nE];refine bh (bh ⟨_,rfl,_,rfl,zL,λt ht=>bad dT.sm (iF λh=>?_) t ht⟩);have:=h.1.2.1;have:=h.1.2.2.1;split at nE<;>lia
  rw[zB2 nE];have ha:0<=a/\a<8:=by split at nB<;>split at nE<;>lia
  have hb:0<=b/\b<8:=by split at nB<;>split at nE<;>lia
  refine aX ⟨_,rfl,_,rfl,zL,λtk sf=>?_⟩;have dK:=dT.same (Same.upd (o:=.tup [V.int n,V.int y]) sf);refine⟨_,rfl,fo,_,rfl,DGet.t (k:=ky n y) dK.e aa,_,rfl,?_⟩;generalize upd H2 tk (.tup [V.int n,V.int y])=H3 at dK⊢;by_cases hd:¬dom ps n y
  .rw[dK.no n y hd];exact bh ⟨_,rfl,_,rfl,zL,λt ht=>bad dK.sm (iF λh=>hd h.1.1) t ht⟩
  have hd:=Classical.not_not.mp hd;obtain⟨d1,v1,_⟩:=dK.g n y hd;rw[v1];refine aX (bN ?_);dsimp only;clear v1 dT sf;refine aC ?_;refine⟨fo,kvs0,dK.e,λob=>?_⟩;have ez:=aa (H:=H3) (a:=fo) (o:=.frz ob (.dT kvs0))
  have kz:∀b u,b≠fo->H3 b=some u->upd H3 fo (.frz ob (.dT kvs0)) b=some u:=λb u n e=>by
   rw[aA n];exact e
  generalize upd H3 fo (.frz ob (.dT kvs0))=Hz at ez kz⊢;refine⟨_,rfl,fo,ob,_,rfl,ez,iZ kvs0.length (λj ys σ Hd=>Same Hz Hd/\(∃o1 o2,σ=[o1,o2,some (.int n),some (.int y)])/\ys=((kvs0.take j).filterMap (yk n y)).map V.int) ⟨Same.refl _,⟨_,_,rfl⟩,rfl⟩ z05 ?_ ?_⟩
  .rintro j ys σ Hd hj hy ⟨sd,⟨o1,o2,rfl⟩,rfl⟩;refine⟨⟨sd _ _ ez,hj⟩,λx H' yv R hR=>?_⟩;obtain⟨rfl,bb,kk,vv,rfl,OJ,LB⟩:=yv;obtain⟨n',z',rfl,xy⟩:=dK.kk kk (zA5.mpr ⟨(kk,vv),zB6 OJ,rfl⟩);have LB:H' bb=some (.tup [.int n',.int z']):=LB
   have LD:(kvs0.take (j+1)).filterMap (yk n y)=(kvs0.take j).filterMap (yk n y)++(if n'=n/\y<=z' then[z']else[]):=by
    rw[zAj,OJ,List.filterMap_append];congr 1;have e0:yk n y (ky n' z',vv)=if n'=n/\y<=z' then some z' else none:=rfl;show[(ky n' z',vv)].filterMap (yk n y)=_;rw[Zaj,e0];by_cases hc:n'=n/\y<=z'
    .rw[zAz hc,zAz hc];rfl
    .rw[zAy hc,zAy hc];rfl
   refine⟨bb,_,rfl,SqT.of LB,rfl,_,_,rfl,_,_,rfl,rfl,?_⟩;refine⟨_,rfl,_,rfl,rfl,_,rfl,?_⟩;by_cases h1:n'=n
   .rw[zAu (by rw[h1])];refine bh ⟨_,rfl,_,rfl,_,_,rfl,rfl,_,rfl,?_⟩;by_cases h2:z'≥y
    .rw[zAu h2];refine bh ⟨_,rfl,hR _ _ _ (by rw[zA2];show _+1<=j+1;lia) ⟨sd,⟨_,_,rfl⟩,?_⟩⟩;rw[LD,zAz ⟨h1,h2⟩,zA4];rfl
    .rw[zB2 h2];refine aX (hR _ _ _ z00 ⟨sd,⟨_,_,rfl⟩,?_⟩);rw[LD,zAy (λw=>h2 w.2),zAn]
   .rw[zB2 (λz=>h1 (by injection z))];refine aX (aX (hR _ _ _ z00 ⟨sd,⟨_,_,rfl⟩,?_⟩));rw[LD,zAy (λw=>h1 w.1),zAn]
  rintro ys σ Hd hy ⟨sd,_,rfl⟩;rw[zAm];refine⟨⟨sd _ _ ez,zA3 _⟩,λLy xA=>⟨Same.upd xA _ _ (sd _ _ ez),?_⟩⟩
  obtain⟨zs,DV⟩:∃zs,zs=kvs0.filterMap (yk n y):=⟨_,rfl⟩
  have xB:∀z,z∈zs↔dom ps n z/\y<=z:=λz=>by
   rw[DV,List.mem_filterMap];constructor
   .rintro⟨⟨kk,vv⟩,hp,e⟩;obtain⟨n',z',rfl,xy⟩:=dK.kk kk (zA5.mpr ⟨_,hp,rfl⟩);have e:(if n'=n/\y<=z' then some z' else none)=some z:=e;by_cases hc:n'=n/\y<=z'
    .rw[zAz hc]at e;cases e;obtain⟨rfl,h2⟩:=hc;exact⟨xy,h2⟩
    .rw[zAy hc]at e;cases e
   .rintro⟨h1,h2⟩;obtain⟨d,v,_⟩:=dK.g n z h1
    have:(ky n z)∈kvs0.map (·.1):=by
     have hs:(dM kvs0 (ky n z)).isSome=true:=by rw[v];rfl
     rw[<-gY,List.any_eq_true]at hs;obtain⟨p,hp,e⟩:=hs;exact zA5.mpr ⟨p,hp,zB8 e⟩
    obtain⟨p,hp,e⟩:=zA5.mp this;refine⟨p,hp,?_⟩;unfold yk;rw[show p.1=ky n z from e];show(if n=n/\y<=z then some z else none)=some z;rw[zAz ⟨rfl,h2⟩]
  have OK:zs.Nodup:=by
   rw[DV]
   have:∀{l:List (List Key×V)},(l.map (·.1)).Nodup->(∀k∈l.map (·.1),∃n y,k=ky n y)->(l.filterMap (yk n y)).Nodup:=λ{l}=>by
    induction l with
    |nil=>exact λ_ _=>List.nodup_nil
    |cons p l ih=>
     intro nd kk;rw[zAk,Za6]at nd
     have i1:=ih nd.2 λk hk=>kk k (zA5.mpr (by
      obtain⟨q,hq,e⟩:=zA5.mp hk
      exact⟨q,.tail _ hq,e⟩))
     rw[Zaj];obtain⟨n',z',e'⟩:=kk p.1 (zA5.mpr ⟨p,.head _,rfl⟩)
     cases e:yk n y p with
     |none=>exact i1
     |some z=>
      refine Za6.mpr ⟨λhm=>?_,i1⟩;obtain⟨q,hq,eq⟩:=List.mem_filterMap.mp hm;obtain⟨n2,z2,e2⟩:=kk q.1 (zA5.mpr ⟨q,.tail _ hq,rfl⟩)
      have key:∀{r:List Key×V} {n3 z3 z:Int},r.1=ky n3 z3->yk n y r=some z->n3=n/\z3=z:=λ{r n3 z3 z} h1 h2=>by
       unfold yk at h2;rw[h1]at h2;have h2:(if n3=n/\y<=z3 then some z3 else none)=some z:=h2;by_cases hc:n3=n/\y<=z3
       .rw[zAz hc]at h2;cases h2;exact⟨hc.1,rfl⟩
       .rw[zAy hc]at h2;cases h2
      obtain⟨w1,w2⟩:=key e' e;obtain⟨w3,w4⟩:=key e2 eq;exact nd.1 (zA5.mpr ⟨q,hq,by show q.1=p.1;rw[e',e2,w1,w2,w3,w4]⟩)
   exact this dK.kd λk hk=>by
    obtain⟨n,y,a,_⟩:=dK.kk k hk;exact⟨n,y,a⟩
  have YN:zs.length<=200:=by
   rw[DV];have:=List.length_filterMap_le (yk n y) kvs0;lia
  rw[<-DV]
  have nD:Ly≠fo:=λz=>by rw[z,sd _ _ ez]at xA;cases xA
  have S6:Same H3 (upd (upd Hd Ly (.lst (zs.map V.int))) fo (.dT kvs0)):=λb u e=>by
   by_cases LF:b=fo
   .subst LF;rw[dK.e]at e;cases e;exact aa
   .rw[aA LF];exact Same.upd xA _ _ (sd _ _ (kz _ _ LF e))
  have xC:upd (upd Hd Ly (.lst (zs.map V.int))) fo (.dT kvs0) Ly=some (.lst (zs.map V.int)):=by rw[aA nD];exact aa
  have d6:=dK.same S6
  have LG:∀m z d,dM kvs0 (ky m z)=some (.ref d)->d≠Ly:=λm z d hv w=>by
   by_cases hm:dom ps m z
   .obtain⟨d',q1,q2⟩:=dK.g m z hm;rw[hv]at q1;cases q1;rw[w]at q2;rw[sd _ _ (kz _ _ nD q2)]at xA;cases xA
   .rw[dK.no m z hm]at hv;cases hv
  generalize upd (upd Hd Ly (.lst (zs.map V.int))) fo (.dT kvs0)=H6 at S6 xC d6⊢;clear S6 dK xA sd ez kz hy DV;dsimp only;refine aC (aP ?_);refine⟨_,rfl,Ly,rfl,⟨_,SqL.of xC⟩,cX zs.length (λj ys σ Hc=>Same H6 Hc/\(∃o1,σ=[o1,some (.ref fo),some (.int n),some (.int a)])/\ys=(((zs.take j).map λz=>(hl ps sa n z).getD a.toNat 0):UV).map V.int) ⟨Same.refl _,⟨_,rfl⟩,rfl⟩ z05 ?_ ?_⟩
  .rintro j ys σ Hc hj hy ⟨sc,⟨o1,rfl⟩,rfl⟩;have ex:(zs.map V.int)[j]?=some (.int zs[j]):=by rw[zAb,zA0 hj];rfl
   refine⟨⟨_,_,SqL.of (sc _ _ xC),ex⟩,λv H' y' R hR=>?_⟩;obtain⟨rfl,y'⟩:=y';have hv:=y' _ (SqL.of (sc _ _ xC));rw[ex]at hv;cases hv;refine aJ ?_;obtain⟨xy,_⟩:=(xB zs[j]).mp (zAh hj);obtain⟨d,v1,v2⟩:=(d6.same sc).g n zs[j] xy;refine⟨_,rfl,_,rfl,_,rfl,zL,λtk sf=>?_⟩;have u:=Same.upd (o:=.tup [V.int n,V.int zs[j]]) sf
   have hJ:atI ((hl ps sa n zs[j]).map V.int) a=some (.int ((hl ps sa n zs[j]).getD a.toNat 0)):=by
    have OL:=Er ps sa n zs[j]
    have:((hl ps sa n zs[j]).map V.int)[a.toNat]?=some (.int ((hl ps sa n zs[j]).getD a.toNat 0)):=by
     rw[zAb,zA7,zA0 z00];rfl
    have:=dD this;rw[show((a.toNat:Nat):Int)=a by lia]at this;exact this
   refine⟨fo,.ref d,rfl,v1▸DGet.t (k:=ky n zs[j]) (u _ _ (sc _ _ d6.e)) aa,_,rfl,d,_,a,_,rfl,rfl,SqL.of (u _ _ v2),hJ,hR _ _ _ ⟨sc.updR sf,⟨_,rfl⟩,?_⟩⟩;rw[zAj,zA0 hj,zA4,zA4];rfl
  rintro ys σ Hc hy ⟨sc,_,rfl⟩;rw[zAm];refine⟨⟨_,SqL.of (sc _ _ xC),by rw[zA1];exact zA3 _⟩,λD hD=>⟨D,_,rfl,SqL.of aa,?_,λM hM Tq=>aJ ?_⟩⟩
  .have:=(xB y).mpr ⟨hd,Za3 _⟩;intro z;rw[List.map_eq_nil_iff]at z;rw[z]at this;cases this
  have d7:=(d6.same sc).same (Same.upd (o:=.lst (((zs.map λz=>(hl ps sa n z).getD a.toNat 0):UV).map V.int)) hD);have xE:=Same.upd (o:=.lst (((zs.map λz=>(hl ps sa n z).getD a.toNat 0):UV).map V.int)) hD _ _ (sc _ _ xC);generalize upd Hc D (.lst (((zs.map λz=>(hl ps sa n z).getD a.toNat 0):UV).map V.int))=H7 at d7 xE⊢;clear d6 sc hD xC hy;dsimp only;refine aC ?_;refine cO (p:=λi j=>decide (i<=j)) (q:=λi j=>decide (i<=j)) (i:=1) (j:=k) (k:=99) eZ (fO rfl) eZ _ ⟨_,rfl,?_⟩;dsimp only
  cases ek:(decide (1<=k)&&decide (k<=99))with
  |false=>
   refine bh (bh ⟨_,rfl,_,rfl,zL,λt ht=>bad d7.sm (iF λh=>?_) t ht⟩);rw[zAu h.1.2.2.2.2.1,zAu h.1.2.2.2.2.2]at ek;cases ek
  |true=>
  obtain⟨k1,k2⟩:=Bool.and_eq_true_iff.mp ek;have k1:=zB8 k1;have k2:=zB8 k2;refine aX ⟨_,rfl,_,rfl,_,_,rfl,rfl,_,rfl,?_⟩;by_cases OM:M<k
  .rw[zAu OM];refine bh ⟨_,rfl,_,rfl,zL,λt ht=>bad d7.sm (iF λh=>?_) t ht⟩;obtain⟨z,hz,rfl⟩:=zA5.mp hM;have:=h.2 z ((xB z).mp hz).1 ((xB z).mp hz).2;lia
  rw[zB2 OM];refine aX (bN ?_);dsimp only
  have good:cM ps sa s=true:=OI.mpr ⟨⟨hd,ha,hb,FU,k1,k2⟩,λz h1 h2=>by
   have:=Tq _ (zA5.mpr ⟨z,(xB z).mpr ⟨h1,h2⟩,rfl⟩)
   lia⟩
  clear bad iF
  have YO:∀(j:Nat),∃fm:Int->Int->UV,fm=λn' z'=>if n'=n/\z'∈zs.take j then hstep n z' (hl ps sa n z') s else hl ps sa n' z':=λj=>⟨_,rfl⟩
  refine⟨_,rfl,Ly,rfl,⟨_,SqL.of xE⟩,?_⟩;refine gQ (xs:=zs.map V.int) (λj σ Hd=>∃iE,σ=[some (.ref ap),some (.ref af),some (.ref fo),some (.int n),x4,x5,x6,x7,some (.int k),x9,some (.int y),some (.int i),some (.int a),some (.int b),some (.ref Ly),some (.int M),iE]/\Lts fo H Hd (dom ps) (λn' z'=>if n'=n/\z'∈zs.take j then hstep n z' (hl ps sa n z') s else hl ps sa n' z') kvs0/\Hd Ly=some (.lst (zs.map V.int))) ?_ ?_ ?_ ?_
  .refine⟨_,rfl,d7.cast λn' z' _=>?_,xE⟩;rw[List.take_zero,zAy (λw=>by cases w.2)]
  .rintro j σ Hd hj ⟨iE,rfl,dj,eL⟩;exact SqL.of eL
  .rintro j v σ Hd hv ⟨iE,rfl,dj,eL⟩
   have hj:j<zs.length:=by
    have:=(zAa.mp hv).1;rw[zA1]at this;exact this
   have ev:v=.int zs[j]:=by
    rw[zAb,zA0 hj]at hv;exact(zAl hv).symm
   subst ev;obtain⟨xy,ON⟩:=(xB zs[j]).mp (zAh hj)
   have Au:¬(zs[j]∈zs.take j):=λhm=>by
    obtain⟨j',FV,e⟩:=Zaq hm;rw[zAd]at FV;rw[List.getElem_take]at e;exact List.pairwise_iff_getElem.mp OK j' j z00 hj z00 e
   generalize hz:zs[j]=z at xy ON Au⊢
   obtain⟨L,LH⟩:∃L,L=hl ps sa n z:=⟨_,rfl⟩
   have l8:L.length=8:=by rw[LH];exact Er _ _ _ _
   obtain⟨d,v1,v2⟩:=dj.g n z xy;rw[zAy (λw=>Au w.2),<-LH]at v2;have OO:=LG n z d v1
   have AD:∀{c:Int} {L:UV},L.length=8->0<=c/\c<8->ixN (L.map V.int).length c=some c.toNat/\atI (L.map V.int) c=some (.int (L.getD c.toNat 0)):=λ{c L} l8 hc=>by
    refine⟨?_,?_⟩
    .unfold ixN;rw[zA1,l8,zAz hc.1,zAz z00]
    .have:(L.map V.int)[c.toNat]?=some (.int (L.getD c.toNat 0)):=by
      rw[zAb,zA7,zA0 z00];rfl
     have:=dD this;rw[show((c.toNat:Nat):Int)=c by lia]at this;exact this
   refine aJ ?_;refine rd_E λDe rq=>?_;refine aC (aP ?_);refine⟨_,rfl,_,rfl,_,rfl,zL,λt1 h1=>?_⟩;have w1:=Same.upd (o:=.tup [V.int n,V.int z]) h1;refine⟨fo,.ref d,rfl,v1▸DGet.t (k:=ky n z) (w1 _ _ dj.e) aa,_,rfl,d,_,a,_,rfl,rfl,SqL.of (w1 _ _ v2),(AD l8 ha).2,_,rfl,_,_,rfl,rfl,?_⟩;have d1:=dj.same w1;have LI:=w1 _ _ v2;have rL:=w1 _ _ eL;generalize upd Hd t1 (.tup [V.int n,V.int z])=Ha at d1 LI rL⊢;refine⟨_,rfl,_,rfl,_,rfl,zL,λt2 h2=>?_⟩;have w2:=Same.upd (o:=.tup [V.int n,V.int z]) h2;refine⟨fo,.ref d,rfl,v1▸DGet.t (k:=ky n z) (w2 _ _ d1.e) aa,_,rfl,d,_,a,_,rfl,rfl,w2 _ _ LI,(AD l8 ha).1,?_⟩;have d2:=d1.same w2;have LJ:=w2 _ _ rL;generalize upd Ha t2 (.tup [V.int n,V.int z])=Hb at d2 LJ⊢;rw[show(L.map V.int).set a.toNat (.int (L.getD a.toNat 0-k))=(iY L a (-k)).map V.int by unfold iY;rw[List.map_set];rfl]
   obtain⟨L1,xI⟩:∃L1,L1=iY L a (-k):=⟨_,rfl⟩
   rw[<-xI];have OP:L1.length=8:=by rw[xI,jA];exact l8
   have d3:=d2.wr (f':=λn' z'=>if n'=n/\z'=z then L1 else if n'=n/\z'∈zs.take j then hstep n z' (hl ps sa n z') s else hl ps sa n' z') (L:=L1) v1 (by rw[zAz ⟨rfl,rfl⟩]) λn' z' _ gu=>by rw[zAy gu]
   have e3:=aa (H:=Hb) (a:=d) (o:=.lst (L1.map V.int));have DZ:upd Hb d (.lst (L1.map V.int)) Ly=some (.lst (zs.map V.int)):=by rw[aA OO.symm];exact LJ
   generalize upd Hb d (.lst (L1.map V.int))=Hc at d3 e3 DZ⊢;clear d1 d2 LI rL LJ w1 w2 h1 h2 dj v2 eL;dsimp only;refine aP ?_;refine⟨_,rfl,_,rfl,_,rfl,zL,λt1 h1=>?_⟩;have w1:=Same.upd (o:=.tup [V.int n,V.int z]) h1;refine⟨fo,.ref d,rfl,v1▸DGet.t (k:=ky n z) (w1 _ _ d3.e) aa,_,rfl,d,_,b,_,rfl,rfl,SqL.of (w1 _ _ e3),(AD OP hb).2,_,rfl,_,_,rfl,rfl,?_⟩;have d4:=d3.same w1;have e4:=w1 _ _ e3;have OQ:=w1 _ _ DZ;generalize upd Hc t1 (.tup [V.int n,V.int z])=Ha at d4 e4 OQ⊢;refine⟨_,rfl,_,rfl,_,rfl,zL,λt2 h2=>?_⟩;have w2:=Same.upd (o:=.tup [V.int n,V.int z]) h2;refine⟨fo,.ref d,rfl,v1▸DGet.t (k:=ky n z) (w2 _ _ d4.e) aa,_,rfl,d,_,b,_,rfl,rfl,w2 _ _ e4,(AD OP hb).1,?_⟩;have d5:=d4.same w2;have D0:=w2 _ _ OQ;generalize upd Ha t2 (.tup [V.int n,V.int z])=Hb at d5 D0⊢;rw[show(L1.map V.int).set b.toNat (.int (L1.getD b.toNat 0+k))=(iY L1 b k).map V.int by unfold iY;rw[List.map_set]]
   have hs:hstep n z L s=iY L1 b k:=by
    unfold hstep;rw[ea,eb,ec,ed,ee,zAz ⟨rfl,ON⟩,xI]
   refine rq _ _ ⟨_,rfl,d5.wr (L:=iY L1 b k) v1 ?_ λn' z' _ gu=>?_,by rw[aA OO.symm];exact D0⟩
   .rw[zAz ⟨rfl,by rw[zAj,zA0 hj,hz];exact zA6.mpr (.inr (.head _))⟩,<-hs,LH]
   .rw[zAy gu]
    have:(n'=n/\z'∈zs.take (j+1))↔(n'=n/\z'∈zs.take j):=by
     rw[zAj,zA0 hj,hz];constructor
     .rintro⟨g1,g2⟩;refine⟨g1,?_⟩;rcases zA6.mp g2 with w|w
      .exact w
      .exact absurd ⟨g1,Zad.mp w⟩ gu
     .rintro⟨g1,g2⟩;exact⟨g1,zA6.mpr (.inl g2)⟩
    by_cases hc:n'=n/\z'∈zs.take j
    .rw[zAz hc,zAz (this.mpr hc)]
    .rw[zAy hc,zAy λw=>hc (this.mp w)]
  .rintro σ Hd ⟨iE,rfl,dj,eL⟩;rw[zA1,zAm]at dj;refine⟨_,_,_,_,_,_,_,_,_,_,_,_,_,_,rfl,dj.cast λn' z' EW=>?_,λj' FV=>?_⟩
   .rw[fh,Hw EW];by_cases hc:n'=n/\z'∈zs
    .obtain⟨rfl,hc⟩:=hc;rw[zAz ⟨rfl,hc⟩]
    .rw[zAy hc];unfold hstep;rw[ea,ee,zAy λw=>hc ⟨w.1.symm,(xB z').mpr ⟨by rw[w.1];exact EW,w.2⟩⟩]
   .by_cases ay:j'<i
    .exact hh j' ay
    .have:j'=i:=z00
     rw[this,<-hH];exact good
 rintro σ Hc ⟨x3,x4,x5,x6,x7,x8,x9,fe,fv,fw,fx,fy,fE,iE,rfl,dt,hh⟩;have hu:un ps ss=none:=zq λj hj=>hh j (by rw[rs.l];exact hj);dsimp only;refine⟨_,rfl,zL,λt ht=>?_⟩
 refine q t fo _ (dt.sm.updR ht) (by rw[aa,hu];rfl) λ_=>⟨kvs0,?_⟩
 have:=dt.same (Same.upd (o:=.tup [V.ref fo,V.non]) ht);rw[rs.l,zAm]at this;exact this
end K33
namespace K33Q
open PySem L2 K33P
def okC(r:UV):Prop:=r.length=3/\∀x∈r,0<=x/\x<1000
def smR(s:UV):Prop:=s.length=5/\∀i∈s,-10<=i/\i<=2000000
inductive SpClipsI(vs:List V)(H:Hp)(Q:VK):Prop
 |mk:∀st n,(vs=[.ref st,.int n])->(iU H st)->(1<=n)->(n<=20)->(∀ac xc cs H',Dr st H H'->K33.RowsAt H' ac xc cs->1<=cs.length->(cs.length:Int)<=n->(∀r∈cs,okC r)->Q (.ref ac) H')->SpClipsI  vs H Q
def zF:Sp:=λvs H Q _=>SpClipsI  vs H Q
inductive SpPromI(vs:List V)(H:Hp)(Q:VK):Prop
 |mk:∀st y,(vs=[.ref st,.int y])->(iU H st)->(0<=y)->(y<=1000)->(∀t r H',Dr st H H'->H' t=some (.tup (r.map V.int))->K33.okP r->Q (.ref t) H')->SpPromI  vs H Q
def Es:Sp:=λvs H Q _=>SpPromI  vs H Q
inductive SpSaleI(vs:List V)(H:Hp)(Q:VK):Prop
 |mk:∀st ap xp ps,(vs=[.ref st,.ref ap])->(iU H st)->(K33.RowsAt H ap xp ps)->(ps.length<=10)->((∀r∈ps,K33.okP r))->(∀t s H',Dr st H H'->H' t=some (.tup (s.map V.int))->smR s->Q (.ref t) H')->SpSaleI  vs H Q
def Et:Sp:=λvs H Q _=>SpSaleI  vs H Q
inductive SpBookI(vs:List V)(H:Hp)(Q:VK):Prop
 |mk:∀(st:Addr) y m,(vs=[.ref st,.int y,.int m])->(iU H st)->(1<=y)->(y<=20)->(0<=m)->(m<=10)->(∀a ac xc cs ap xp ps af xs ss H',Dr st H H'->H' a=some (.tup [.ref ac,.ref ap,.ref af])->K33.RowsAt H' ac xc cs->1<=cs.length->(cs.length:Int)<=y->(∀r∈cs,okC r)->K33.RowsAt H' ap xp ps->(ps.length:Int)<=m->(∀r∈ps,K33.okP r)->K33.RowsAt H' af xs ss->ss.length<=6->(∀s∈ss,smR s)->K33.un ps ss=none->Q (.ref a) H')->SpBookI  vs H Q
def spBook:Sp:=λvs H Q _=>SpBookI  vs H Q
theorem _root_.K33P.Dr.new(g:Dr st H H1)(hp:H1 p=none):Dr st H (upd H1 p o):=g.same (Same.upd hp)
theorem _root_.K33P.Dr.rows{rs:PK}(g:Dr st H H')(h0:iU H st)(r:K33.RowsAt H a xs rs):K33.RowsAt H' a xs rs:=r.keep (g.tups h0)
theorem jB{a b c p q r pos}:BE X (.List [.Constant (.int i) a p,.Constant (.int j) b q,.Constant (.int k) c r] pos) (xq (rW [i,j,k])):=⟨dJ (lJ (.cons (.cons (.cons .nil))))⟩
section
theorem ndC:([AAd,AAa,"_law_wide"]:List Str).Nodup:=by decide +kernel
theorem scC:FnScope [AAa,AAf,"_law_wide",AAh] [AAa,AAf] (az (top 80)):=fQS
theorem ok_clips(F:Fun K "_law_clips" "_law_clips" (top 80) f fd)(T:Mg mg)(Tr:mg "range"=none)(c1:Cal P w K mg base 1 AAg [AAa,AAh] dU):FnOk P w K mg base CX0 2 f fd [AAa,AAf] zF:=by
 refine F.oq scC λcdv A outer s H vs Q E hr h=>?_;obtain⟨st,n,rfl,bE,n0,n1,q⟩:=h
 refine ok_b (aH (xM (i:=2) scC.nd rfl (Or.inr rfl) (lK bM (cz (aQ jB (aQ jB (aQ jB (aQ jB (aQ jB bu)))))) ⟨aG c1 hr (aq (pv 0) (aq au aj))⟩ (λ_ _=>rfl)))
  (aH ⟨pss 3 scC.nd (aO bT au (aG c1 hr (aq (pv 0) (aq (pv 1) aj))))⟩
  (bx ⟨aN (cH cZ rfl T.tuple boot_tuple (aq (bW [AAd,AAa,"_law_wide"] [none,some 0,some 2] rfl (cY rfl Tr (aq (pv 3) aj))
   (λC fp z06 s₂ H₂=>⟨pgn 0 ndC,bV,cH (ql (K:=K) rfl) rfl T.tuple boot_tuple (aq
    (bW [AAk,AAa] [none,some 1] rfl (DR (K:=K) rfl (pv 2)) (λC fp z06 s₂ H₂=>⟨bw (i:=0) (nd2 _ _ z02) rfl (Or.inl rfl),bV,aG c1 hr (aq (pv 1) (aq (pv 0) aj))⟩)
     (λC=>cI trivial) ⟨rfl,rfl,rfl,rfl⟩) aj)⟩)
   (λC=>cI (cI trivial)) ⟨rfl,rfl,rfl,rfl⟩) aj))⟩))) ?_
 refine aC (aP ?_);refine⟨zL,λl1 h1=>⟨zL,λl2 h2=>⟨zL,λl3 h3=>⟨zL,λl4 h4=>⟨zL,λl5 h5=>⟨zL,λL hL=>?_⟩⟩⟩⟩⟩⟩;have m1:=Same.upd (o:=.lst (([3,3,3]:UV).map V.int)) h1;have m2:=Same.upd (o:=.lst (([12,30,30]:UV).map V.int)) h2;have m3:=Same.upd (o:=.lst (([60,3,200]:UV).map V.int)) h3;have m4:=Same.upd (o:=.lst (([1,1,1]:UV).map V.int)) h4;have m5:=Same.upd (o:=.lst (([1000,1000,1000]:UV).map V.int)) h5;have m6:=Same.upd (o:=.lst [V.ref l1,V.ref l2,V.ref l3,V.ref l4,V.ref l5]) hL;have f5:=m6 _ _ (aa (a:=l5) (o:=.lst (([1000,1000,1000]:UV).map V.int)));have f4:=m6 _ _ (m5 _ _ (aa (a:=l4) (o:=.lst (([1,1,1]:UV).map V.int))));have f3:=m6 _ _ (m5 _ _ (m4 _ _ (aa (a:=l3) (o:=.lst (([60,3,200]:UV).map V.int)))));have f2:=m6 _ _ (m5 _ _ (m4 _ _ (m3 _ _ (aa (a:=l2) (o:=.lst (([12,30,30]:UV).map V.int))))));have f1:=m6 _ _ (m5 _ _ (m4 _ _ (m3 _ _ (m2 _ _ (aa (a:=l1) (o:=.lst (([3,3,3]:UV).map V.int)))))));have ms:=m1.trans (m2.trans (m3.trans (m4.trans (m5.trans m6))));have fL:upd (upd (upd (upd (upd (upd H l1 (.lst (([3,3,3]:UV).map V.int))) l2 (.lst (([12,30,30]:UV).map V.int))) l3 (.lst (([60,3,200]:UV).map V.int))) l4 (.lst (([1,1,1]:UV).map V.int))) l5 (.lst (([1000,1000,1000]:UV).map V.int))) L (.lst [V.ref l1,V.ref l2,V.ref l3,V.ref l4,V.ref l5]) L=some (.lst [V.ref l1,V.ref l2,V.ref l3,V.ref l4,V.ref l5]):=aa
 have old:∀b o,H b=some o->b≠l1/\b≠l2/\b≠l3/\b≠l4/\b≠l5/\b≠L:=λb o e=>⟨aD e h1,aD (m1 _ _ e) h2,aD (m2 _ _ (m1 _ _ e)) h3,aD (m3 _ _ (m2 _ _ (m1 _ _ e))) h4,aD (m4 _ _ (m3 _ _ (m2 _ _ (m1 _ _ e)))) h5,aD (m5 _ _ (m4 _ _ (m3 _ _ (m2 _ _ (m1 _ _ e))))) hL⟩
 obtain⟨a0,b0,c0,Tu,_⟩:=id bE;obtain⟨v1,v2,v3,v4,v5,v6⟩:=old _ _ Tu;generalize upd (upd (upd (upd (upd (upd H l1 _) l2 _) l3 _) l4 _) l5 _) L _=H1 at f1 f2 f3 f4 f5 fL ms⊢;clear m1 m2 m3 m4 m5 m6 h1 h2 h3 h4 h5 hL old
 have xS:iU H1 st:=by
  obtain⟨a,b,c,e,h⟩:=bE;exact⟨a,b,c,ms _ _ e,h⟩
 have g1:Dr st H H1:=⟨λb o e _=>ms _ _ e,xS⟩
 refine⟨_,rfl,st,5,rfl,xS,by decide,by decide,λr a b c r0 r1 a0 b0 b1=>?_⟩
 have D1:∃wd ws,([V.ref l1,V.ref l2,V.ref l3,V.ref l4,V.ref l5]:List V)[r.toNat]?=some (.ref wd)/\H1 wd=some (.lst ((ws:UV).map V.int))/\wd≠st/\ws.length=3/\∀x∈ws,1<=x/\x<=1000:=by
  rcases(by lia:r=0\/r=1\/r=2\/r=3\/r=4)with rfl|rfl|rfl|rfl|rfl<;>exact⟨_,_,rfl,by assumption,Ne.symm (by assumption),rfl,by decide⟩
 obtain⟨wd,ws,ei,OR,D2,Tw,bws⟩:=D1;have g2:Dr st H (upd H1 st (.lst [.int a,.int b,.int c])):=g1.draw a0 b0 b1;refine⟨L,_,r,.ref wd,rfl,rfl,SqL.of (by rw[aA v6.symm];exact fL),?_,?_⟩
 .have:=dD ei;rw[show((r.toNat:Nat):Int)=r by lia]at this;exact this
 have yb:upd H1 st (.lst [.int a,.int b,.int c]) wd=some (.lst (ws.map V.int)):=by
  rw[aA D2];exact OR
 generalize upd H1 st (.lst [.int a,.int b,.int c])=H2 at g2 yb⊢;clear f1 f2 f3 f4 f5 fL ms g1 xS OR ei;refine aJ ?_;dsimp only;refine aC ?_;refine⟨_,rfl,_,rfl,st,n,rfl,g2.sa,n0,z00,λm a b c m0 m1 a0 b0 b1=>⟨_,_,rfl,rfl,?_⟩⟩;have g3:=g2.draw (c:=c) a0 b0 b1
 have D3:upd H2 st (.lst [.int a,.int b,.int c]) wd=some (.lst (ws.map V.int)):=by
  rw[aA D2];exact yb
 generalize upd H2 st (.lst [.int a,.int b,.int c])=H3 at g3 D3⊢;clear g2 yb;dsimp only;refine dZ ?_;refine⟨_,rfl,1+m,rfl,z00,z00,?_⟩
 have lz:(1+m).toNat<sizeLine:=by
  rw[sizeLine_eq];lia
 refine cX (1+m).toNat (λi ys σ Hc=>Dr st H3 Hc/\(∃o,σ=[o,some (.ref st),some (.ref wd)])/\∃rows:PK,rows.length=i/\(∀r∈rows,okC r)/\IsThs (λ_=>False) Hc ys (rows.map K33.rowD)) ⟨Dr.refl g3.sa,⟨_,rfl⟩,[],rfl,λ_ h=>(List.not_mem_nil h).elim,.nil⟩ lz ?_ ?_
 .rintro i ys σ Hc hi hy ⟨g4,⟨o,rfl⟩,rows,js,jv,it⟩;refine⟨hi,λv H' y R hR=>?_⟩;obtain⟨eH,rfl⟩:=y;subst H';refine aJ ?_;have yn:=g4.bt _ _ D3 D2;refine⟨_,rfl,wd,rfl,⟨_,SqL.of yn⟩,cX 3 (λj zs σ H5=>Dr st Hc H5/\(∃o,σ=[o,some (.ref st)])/\∃r:UV,r.length=j/\(∀n∈r,0<=n/\n<1000)/\zs=r.map V.int) ⟨Dr.refl g4.sa,⟨_,rfl⟩,[],rfl,λ_ h=>(List.not_mem_nil h).elim,rfl⟩ z02 ?_ ?_⟩
  .rintro j zs σ H5 hj hz ⟨g5,⟨o,rfl⟩,r,lr,br,rfl⟩;have D4:=g5.bt _ _ yn D2;have OS:j<ws.length:=z00
   have ex:(ws.map V.int)[j]?=some (.int ws[j]):=by rw[zAb,zA0 OS];rfl
   refine⟨⟨_,_,SqL.of D4,ex⟩,λv H' y R hR=>?_⟩;obtain⟨eH,y⟩:=y;subst H';have hv:=y _ (SqL.of D4);rw[ex]at hv;cases hv;have hb:=bws _ (zAh OS);refine aJ ?_;refine⟨_,rfl,_,rfl,st,_,rfl,g5.sa,hb.1,z00,λt a b c t0 t1 a0 b0 b1=>hR _ _ _ ⟨g5.draw a0 b0 b1,⟨_,rfl⟩,r++[t],by rw[zA2,lr];rfl,λn hn=>?_,by rw[zA4];rfl⟩⟩;rcases zA6.mp hn with z|z
   .exact br n z
   .rw[Zad.mp z];lia
  .rintro zs σ H5 hz ⟨g5,_,r,lr,br,rfl⟩;refine⟨⟨_,SqL.of (g5.bt _ _ yn D2),by rw[zA1,Tw];exact zA3 _⟩,λD hD=>⟨D,_,rfl,.inl ⟨SqL.of aa,λt ht=>?_⟩⟩⟩;have s6:=(Same.upd (o:=.lst (r.map V.int)) hD).updR (o:=.tup (r.map V.int)) ht;refine hR _ _ _ ⟨(g4.trans g5).same s6,⟨_,rfl⟩,rows++[r],by rw[zA2,js];rfl,λx hx=>?_,?_⟩
   .rcases zA6.mp hx with z|z
    .exact jv x z
    .rw[Zad.mp z];exact⟨lr,br⟩
   .rw[zA4];exact((g5.ths g4.sa it).same s6).append (.cons (.tup aa (IsThs.ints r)) .nil)
 .rintro ys σ Hc hy ⟨g4,_,rows,js,jv,it⟩;refine⟨zA3 _,λD hD=>⟨D,_,rfl,.inl ⟨SqL.of aa,λt ht=>?_⟩⟩⟩;have s6:=(Same.upd (o:=.lst ys) hD).updR (o:=.tup ys) ht;obtain⟨ac,xc,ev,rr⟩:=K33.th_rows (rs:=rows) (.tup aa (it.same s6));cases ev;exact q _ xc rows _ ((g3.trans g4).same s6) rr z00 z00 jv
end
section
theorem scP:FnScope [AAa,AAi,"_law_first","_law_last",ABa,"_law_price"] [AAa,AAi] (az (top 81)):=fQS
theorem ok_prom(F:Fun K "_law_promise" "_law_promise" (top 81) f fd)(Tm:mg "min"=none)(c1:Cal P w K mg base 1 AAg [AAa,AAh] dU):FnOk P w K mg base CX0 2 f fd [AAa,AAi] Es:=by
 refine F.oq scP λcdv A outer s H vs Q E hr h=>?_;obtain⟨st,y,rfl,bE,y0,y1,q⟩:=h
 refine ok_b (aH ⟨pss 2 scP.nd (aK (iI rfl) rfl Tm nG (aq au (aq (aG c1 hr (aq (pv 0) (aq (aO bT (pv 1) au) aj))) aj)))⟩
  (aH ⟨pss 3 scP.nd (aK (iI rfl) rfl Tm nG (aq au (aq (aO bT (pv 2) (pX bM (Gw (Gv au (Gv (aG c1 hr (aq (pv 0) (aq au aj))) (Gv (aG c1 hr (aq (pv 0) (aq au aj))) bu)))) (aG c1 hr (aq (pv 0) (aq au aj))))) aj)))⟩
  (aH ⟨wY (i:=4) (j:=5) rfl scP.nd rfl rfl z02 rfl rfl (aq (aO bT au (aG c1 hr (aq (pv 0) (aq (pX bM (dJ (lJ (by repeat constructor))) (aG c1 hr (aq (pv 0) (aq au aj)))) aj)))) (aq (aG c1 hr (aq (pv 0) (aq au aj))) aj)) rfl⟩
  (bx ⟨aN (vB (gZ (aQ ⟨aG c1 hr (aq (pv 0) (aq au aj))⟩ (aQ ⟨aG c1 hr (aq (pv 0) (aq au aj))⟩ (aQ ⟨pv 2⟩ (aQ ⟨pv 3⟩ (aQ ⟨pv 4⟩ (aQ ⟨pv 5⟩ bu))))))))⟩)))) ?_
 have g0:Dr st H H:=Dr.refl bE;refine aC (aP ?_);refine⟨_,rfl,_,rfl,_,_,rfl,rfl,st,_,rfl,bE,z00,z00,λr1 a1 b1 tq Tx TB k1 k2 k3=>⟨_,_,rfl,?_⟩⟩;have g1:=g0.draw (c:=tq) k1 k2 k3
 obtain⟨fi,TC,TF,YQ⟩:∃fi:Int,fi=(if r1<19 then r1 else 19)/\0<=fi/\fi<=19:=⟨_,rfl,by split<;>lia,by split<;>lia⟩
 rw[<-TC];generalize upd H st (.lst [.int a1,.int b1,.int tq])=H1 at g1⊢;refine aJ ?_;dsimp only;refine aC (aP ?_);refine⟨_,rfl,_,rfl,st,4,rfl,g1.sa,by decide,by decide,λr2 a2 b2 c2 LL LM k4 k5 k6=>⟨_,rfl,st,20,rfl,(g1.draw k4 k5 k6).sa,by decide,by decide,λr3 a3 b3 c3 TH TJ k7 k8 k9=>⟨zL,λp hp=>?_⟩⟩⟩;have g3:=(g1.draw (c:=c2) k4 k5 k6).draw (c:=c3) k7 k8 k9;have np:=g3.ne hp;have g4:=g3.new (o:=.lst [V.int 0,V.int r2,V.int r3]) hp;have ep:upd (upd (upd H1 st (.lst [.int a2,.int b2,.int c2])) st (.lst [.int a3,.int b3,.int c3])) p (.lst [V.int 0,V.int r2,V.int r3]) p=some (.lst [V.int 0,V.int r2,V.int r3]):=aa;generalize upd (upd (upd H1 st (.lst [.int a2,.int b2,.int c2])) st (.lst [.int a3,.int b3,.int c3])) p (.lst [V.int 0,V.int r2,V.int r3])=H2 at g4 ep⊢;refine⟨_,rfl,st,3,rfl,g4.sa,by decide,by decide,λr4 a4 b4 c4 YR YS k1 k2 k3=>?_⟩
 obtain⟨d,hd,d0,d1⟩:∃d:Int,atI [V.int 0,V.int r2,V.int r3] r4=some (.int d)/\0<=d/\d<20:=by
  have:r4=0\/r4=1\/r4=2:=z00
  rcases this with rfl|rfl|rfl
  .exact⟨_,rfl,by decide,by decide⟩
  .exact⟨_,rfl,LL,z00⟩
  .exact⟨_,rfl,TH,TJ⟩
 refine⟨p,_,r4,.int d,rfl,rfl,SqL.of (by rw[aA np];exact ep),hd,_,_,rfl,rfl,_,_,rfl,?_⟩;have g5:=g4.draw (c:=c4) k1 k2 k3
 obtain⟨la,FX,TK,TL⟩:∃la:Int,la=(if fi+d<19 then fi+d else 19)/\fi<=la/\la<=19:=⟨_,rfl,by split<;>lia,by split<;>lia⟩
 rw[<-FX];clear ep np g3;generalize upd H2 st (.lst [.int a4,.int b4,.int c4])=H3 at g5⊢;refine aJ ?_;dsimp only;refine aC ?_;refine⟨_,rfl,zL,λp2 mm=>?_⟩;have TN:=g5.ne mm;have g6:=g5.new (o:=.lst (([4,12,99]:UV).map V.int)) mm;have kF:upd H3 p2 (.lst (([4,12,99]:UV).map V.int)) p2=some (.lst (([4,12,99]:UV).map V.int)):=aa;generalize upd H3 p2 (.lst (([4,12,99]:UV).map V.int))=H4 at g6 kF⊢;refine⟨_,rfl,st,3,rfl,g6.sa,by decide,by decide,λr5 a5 b5 c5 YT YU k4 k5 k6=>?_⟩
 obtain⟨wd,hw,w1,w2⟩:∃wd:Int,atI (([4,12,99]:UV).map V.int) r5=some (.int wd)/\1<=wd/\wd<=99:=by
  have:r5=0\/r5=1\/r5=2:=z00
  rcases this with rfl|rfl|rfl
  .exact⟨4,rfl,by decide,by decide⟩
  .exact⟨12,rfl,by decide,by decide⟩
  .exact⟨99,rfl,by decide,by decide⟩
 have g7:=g6.draw (c:=c5) k4 k5 k6;refine⟨p2,_,r5,.int wd,rfl,rfl,SqL.of (by rw[aA TN];exact kF),hw,st,wd,rfl,g7.sa,w1,z00,λr6 a6 b6 c6 YV YW k7 k8 k9=>⟨_,_,rfl,rfl,?_⟩⟩;have g8:=g7.draw (c:=c6) k7 k8 k9;generalize upd (upd H4 st (.lst [.int a5,.int b5,.int c5])) st (.lst [.int a6,.int b6,.int c6])=H5 at g8⊢;refine⟨_,rfl,st,500,rfl,g8.sa,by decide,by decide,λr7 a7 b7 c7 TQ YX k1 k2 k3=>⟨_,_,rfl,?_⟩⟩;have g9:=g8.draw (c:=c7) k1 k2 k3;dsimp only;refine dZ ?_;refine⟨_,rfl,st,8,rfl,g9.sa,by decide,by decide,λr8 a8 b8 c8 TR TU k4 k5 k6=>⟨_,rfl,st,3,rfl,(g9.draw k4 k5 k6).sa,by decide,by decide,λr9 a9 b9 c9 TV TX k7 k8 k9=>⟨_,rfl,_,rfl,_,rfl,_,rfl,zL,λt ht=>?_⟩⟩⟩;have ga:=((g9.draw (c:=c8) k4 k5 k6).draw (c:=c9) k7 k8 k9).new (o:=.tup [V.int r8,V.int r9,V.int fi,V.int la,V.int (1+r6),V.int r7]) ht;exact q t [r8,r9,fi,la,1+r6,r7] _ ga aa ⟨rfl,⟨TR,TU⟩,⟨TV,TX⟩,⟨TF,TK,TL⟩,⟨by show 1<=1+r6;lia,by show 1+r6<=99;lia⟩,⟨TQ,by show r7<=1000000;lia⟩⟩
theorem scS:FnScope [AAa,AAe,AAw,"_law_holder","_law_sort","_law_first","_law_last",ABa,"_law_price","_law_seller",AAd] [AAa,AAe] (az (top 82)):=fQS
theorem ok_sale(F:Fun K "_law_sale" "_law_sale" (top 82) f fd)(T:K33P.Mg mg)(Tm:mg "max"=none)(c1:Cal P w K mg base 1 AAg [AAa,AAh] dU):FnOk P w K mg base CX0 2 f fd [AAa,AAe] Et:=by
 refine F.oq scS λcdv A outer s H vs Q E hr h=>?_;obtain⟨st,ap,xp,ps,rfl,bE,rp,lp,okp,q⟩:=h
 refine⟨_,aB (pss 2 scS.nd (aG c1 hr (aq (pv 0) (aq (aK (jG rfl) rfl Tm nF (aq au (aq (aK aZ rfl T.len PySem.boot_len (aq (pv 1) aj)) aj))) aj))))
  (aB (bR (aW (rT (K33.room_un hr)) (pv 1) (yK bu) (aU _)) (aF (aN (bA (lJ (by repeat constructor))))) aY)
  (aB (cN (pX bj (pv 1) (pv 2)) (bQ rfl (ao (pgn 3 scS.nd) (ao (pgn 4 scS.nd) (ao (pgn 5 scS.nd)
   (ao (pgn 6 scS.nd) (ao (pgn 7 scS.nd) (ao (pgn 8 scS.nd) aV))))))))
  (aB (pss 9 scS.nd (pX bM (dJ (aq (pv 3) (aq (pv 3) (aq (aG c1 hr (aq (pv 0) (aq au aj))) aj)))) (aG c1 hr (aq (pv 0) (aq au aj)))))
  (aB (pss 10 scS.nd (aO bT (pv 5) (aG c1 hr (aq (pv 0) (aq (aO bT (aO dY (pv 6) (pv 5)) au) aj)))))
  (aF (aN (vB (gZ (aQ ⟨pv 2⟩ (aQ ⟨pv 9⟩ (aQ ⟨aG c1 hr (aq (pv 0) (aq au aj))⟩ (aQ ⟨aO bT au (aG c1 hr (aq (pv 0) (aq (pv 7) aj)))⟩ (aQ ⟨pv 10⟩ bu))))))))))))),?_⟩
 have g0:Dr st H H:=Dr.refl bE;have YY:xp.length<=10:=by rw[rp.l];exact lp
 refine aC (aP ?_);refine⟨_,rfl,_,rfl,ap,xp,rfl,.inr (SqT.of rp.e),_,_,rfl,st,_,rfl,bE,?_,?_,λr1 a1 b1 tq r0 rn k1 k2 k3=>?_⟩
 .split<;>lia
 .split<;>lia
 have g1:=g0.draw (c:=tq) k1 k2 k3;have OT:=g1.rows bE rp;generalize upd H st (.lst [.int a1,.int b1,.int tq])=H1 at g1 OT⊢;refine aJ ?_;dsimp only;refine aC ?_;refine⟨_,rfl,zL,λe0 tw=>?_⟩;have g2:=g1.new (o:=.tup []) tw;have m2:=Same.upd (o:=.tup []) tw;have OU:upd H1 e0 (.tup []) e0=some (.tup []):=aa;have FY:=OT.same m2;generalize upd H1 e0 (.tup [])=H2 at g2 m2 OU FY⊢;refine⟨ap,e0,xp,rfl,rfl,SqT.of FY.e,SqT.of OU,_,rfl,Cy (λhb=>?_) λhb=>?_⟩
 .refine⟨zL,λt ht=>?_⟩;exact q t [0,0,1,1,0] _ (g2.new ht) aa ⟨rfl,by decide⟩
 have px:0<xp.length:=by grind
 have YZ:r1.toNat<xp.length:=by split at rn<;>lia
 dsimp only;refine aC ?_;obtain⟨p,hp,_,op⟩:=K33.prom_ok (n:=r1) okp r0 (by rw[<-rp.l];lia);obtain⟨tp,hJ,ja⟩:=K33.rows_at FY r0 hp;rw[K33.six_row op.1]at ja;obtain⟨_,⟨p1,p2⟩,_,⟨p3,p4,p5⟩,⟨p6,p7⟩,_⟩:=id op;refine⟨_,rfl,_,rfl,ap,_,r1,.ref tp,rfl,rfl,SqT.of FY.e,hJ,?_⟩;refine⟨tp,_,rfl,SqT.of ja,rfl,_,_,rfl,_,_,rfl,_,_,rfl,_,_,rfl,_,_,rfl,_,_,rfl,rfl,?_⟩;dsimp only;refine aC (aP ?_);refine⟨_,rfl,_,rfl,_,rfl,st,8,rfl,g2.sa,by decide,by decide,λr2 a2 b2 c2 i0 i1 k4 k5 k6=>⟨zL,λl1 bX=>?_⟩⟩;have g4:=(g2.draw (c:=c2) k4 k5 k6).new (o:=.lst [V.int (K33.fl p 0),V.int (K33.fl p 0),V.int r2]) bX;have n4:=(g2.draw k4 k5 k6).ne bX;refine⟨_,rfl,st,3,rfl,g4.sa,by decide,by decide,λr3 a3 b3 c3 i2 i3 k7 k8 k9=>?_⟩
 obtain⟨sl,TY,Y0,kr⟩:∃sl:Int,atI [V.int (K33.fl p 0),V.int (K33.fl p 0),V.int r2] r3=some (.int sl)/\0<=sl/\sl<8:=by
  have:r3=0\/r3=1\/r3=2:=z00
  rcases this with rfl|rfl|rfl
  .exact⟨_,rfl,p1,p2⟩
  .exact⟨_,rfl,p1,p2⟩
  .exact⟨_,rfl,i0,i1⟩
 have g5:=g4.draw (c:=c3) k7 k8 k9;refine⟨l1,_,r3,.int sl,rfl,rfl,SqL.of (by rw[aA n4];exact aa),TY,?_⟩;refine aJ ?_;dsimp only;refine aC (aP ?_);refine⟨_,rfl,_,rfl,_,rfl,_,rfl,_,_,rfl,rfl,_,_,rfl,rfl,st,_,rfl,g5.sa,z00,z00,λr5 a5 b5 c5 i6 i7 m4 m5 m6=>⟨_,_,rfl,rfl,?_⟩⟩;have g7:=g5.draw (c:=c5) m4 m5 m6;refine aJ ?_;dsimp only;refine⟨_,rfl,_,rfl,_,rfl,st,8,rfl,g7.sa,by decide,by decide,λr4 a4 b4 c4 i4 i5 m1 OV m3=>⟨_,rfl,_,rfl,st,_,rfl,(g7.draw m1 OV m3).sa,p6,z00,λr6 a6 b6 c6 i8 i9 m7 m8 m9=>⟨_,_,rfl,rfl,_,rfl,zL,λt ht=>?_⟩⟩⟩;have g8:=(g7.draw (c:=c4) m1 OV m3).draw (c:=c6) m7 m8 m9;refine q t [r1,sl,r4,1+r6,K33.fl p 2+r5] _ (g8.new ht) aa ⟨rfl,λi hi=>?_⟩;simp only[List.mem_cons,List.not_mem_nil,or_false]at hi;lia
end
theorem fu:OpR X (binaryOp .Add) (λx y H Q=>∃a b xs ys,x=.ref a/\y=.ref b/\H a=some (.tup xs)/\H b=some (.tup ys)/\ys≠[]/\xs.length+ys.length<=sizeLine/\∀c H',Same H H'->H' c=some (.tup (xs++ys))->Q (.ref c) H'):=by
 intro z06 s σ H x y v u Q I rx ry h;obtain⟨a,b,xs,ys,rfl,rfl,ha,hb,hy,hz,q⟩:=h;refine Df z06 s σ H _ _ v u Q I rx ry ⟨a,b,xs,ys,rfl,rfl,SqT.of ha,SqT.of hb,hy,hz,λe=>q b H (Same.refl H) (by rw[e];exact hb),λ_ p hp=>q p _ (Same.upd hp) aa⟩
theorem sV{rs:PK}{r:UV}(h:K33.RowsAt H a xs rs)(et:H t=some (.tup (r.map V.int)))(eb:H b=some (.tup (xs++[V.ref t]))):K33.RowsAt H b (xs++[V.ref t]) (rs++[r]):=by
 refine⟨eb,by rw[zA2,zA2,h.l];rfl,λi r' e=>?_⟩;by_cases hi:i<rs.length
 .rw[zBa hi]at e;rw[zBa (by rw[h.l];exact hi)];exact h.g i r' e
 .rw[zB9 z00]at e;rw[zB9 (by rw[h.l];lia),h.l]
  cases hj:i-rs.length with
  |zero=>
   rw[hj]at e;injection e with e;subst e;exact⟨t,rfl,et⟩
  |succ k=>
   rw[hj]at e;simp at e
theorem Eu(h:decide (K33.unV u=.non)=true):u=none:=by
 have:=zB8 h
 cases u with
 |none=>rfl
 |some n=>cases this
theorem rz(hK:X.K=K):dH X (.builtin "len") (λxs H Q=>∃p ys,xs=[.ref p]/\(SqL K H p ys\/SqT K H p ys)/\Q (.int ys.length) H):=by
 subst hK;exact aZ
section
theorem ndB:(["_law_turn",AAa,"_law_clips_here"]:List Str).Nodup:=by decide +kernel
theorem scB:FnScope [AAa,AAi,AAf,"_law_clips_here",AAe,AAu,"_law_turn","_law_sale_here"] [AAa,AAi,AAf] (az (top 83)):=fQS
theorem ok_book(F:Fun K "_law_book" "_law_book" (top 83) f fd)(T:Mg mg)(Tr:mg "range"=none)(Tl:mg "len"=none)(c1:Cal P w K mg base 1 AAg [AAa,AAh] dU)(c2:Cal P w K mg base 2 "_law_clips" [AAa,AAf] zF)(c3:Cal P w K mg base 2 "_law_promise" [AAa,AAi] Es)(c4:Cal P w K mg base 2 "_law_sale" [AAa,AAe] Et)(c5:Cal P w K mg base 1 "_law_rows" [AAe,AAu] K33.spRows):
  FnOk P w K mg base CX0 3 f fd [AAa,AAi,AAf] spBook:=by
 refine F.oq scB λcdv A outer s H vs Q E hr h=>?_;obtain⟨st,y,m,rfl,bE,y1,y2,m1,m2,q⟩:=h
 refine⟨_,aB (tE (i:=3) scB.nd rfl (Or.inr rfl) (aG c2 hr (aq (pv 0) (aq (pv 1) aj))))
  (aB (pss 4 scB.nd (cH cZ rfl T.tuple boot_tuple (aq (bW ["_law_turn",AAa,"_law_clips_here"] [none,some 0,some 3] rfl (cY rfl Tr (aq (aG c1 hr (aq (pv 0) (aq (aO bT (pv 2) au) aj))) aj))
   (λC fp z06 s₂ H₂=>⟨pgn 0 ndB,bV,aG c3 hr (aq (pv 1) (aq (aK (rz (K:=K) rfl) rfl Tl PySem.boot_len (aq (pv 2) aj)) aj))⟩)
   (λC=>cI (cI trivial)) ⟨rfl,rfl,rfl,rfl⟩) aj)))
  (aB (pss 5 scB.nd (yK bu))
  (aB (cG zB7 rfl (cY rfl Tr (aq (aG c1 hr (aq (pv 0) (aq au aj))) aj)) (pgn 6 scB.nd)
   (aB (pss 7 scB.nd (aG c4 hr (aq (pv 0) (aq (pv 4) aj))))
   (aF (bR (aW xm (pX bj (aG c5 hr (aq (pv 4) (aq (aO fu (pv 5) (bA (aq (pv 7) aj))) aj))) au) jW (aU _)) (aF (pss 5 scB.nd (aO fu (pv 5) (bA (aq (pv 7) aj))))) aY))))
  (aF (aN (bA (aq (pv 3) (aq (pv 4) (aq (pv 5) aj)))))))))  ,?_⟩
 refine aC (aP ?_);refine⟨_,rfl,_,rfl,st,y,rfl,bE,y1,y2,λac xc cs H1 d1 rc OW OX okc=>?_⟩;refine aJ ?_;dsimp only;refine aC (aP ?_);refine⟨_,rfl,_,rfl,_,_,rfl,rfl,st,m+1,rfl,d1.sa,z00,z00,λr a1 b1 tq k0 kn k1 k2 k3=>⟨r,rfl,z00,z00,?_⟩⟩;have d2:=(Dr.refl d1.sa).draw (c:=tq) k1 k2 k3;have F0:=d2.rows d1.sa rc;have LN:=d1.trans d2;generalize upd H1 st (.lst [.int a1,.int b1,.int tq])=H2 at d2 LN F0⊢
 have lz:r.toNat<sizeLine:=by
  rw[sizeLine_eq];lia
 refine cX r.toNat (λi ys σ Hc=>Dr st H2 Hc/\(∃o,σ=[o,some (.ref st),some (.ref ac)])/\∃rows:PK,rows.length=i/\(∀r∈rows,K33.okP r)/\IsThs (λ_=>False) Hc ys (rows.map K33.rowD)) ⟨Dr.refl d2.sa,⟨_,rfl⟩,[],rfl,λ_ h=>(List.not_mem_nil h).elim,.nil⟩ lz ?_ ?_
 .rintro i ys σ Hc hi hy ⟨g4,⟨o,rfl⟩,rows,js,jv,it⟩;refine⟨hi,λv H' y R hR=>?_⟩;obtain⟨eH,rfl⟩:=y;subst H';refine aJ ?_;have TZ:=g4.rows d2.sa F0;have:=rc.l;refine⟨_,rfl,_,rfl,ac,xc,rfl,.inr (SqT.of TZ.e),st,_,rfl,g4.sa,z00,z00,λt OY H5 d5 et T2=>hR _ _ _ ⟨g4.trans d5,⟨_,rfl⟩,rows++[OY],by rw[zA2,js];rfl,λx hx=>?_,?_⟩⟩
  .rcases zA6.mp hx with z|z
   .exact jv x z
   .rw[Zad.mp z];exact T2
  .rw[zA4];exact(d5.ths g4.sa it).append (.cons (.tup et (IsThs.ints OY)) .nil)
 rintro ys σ Hc hy ⟨g4,_,ps,Y1,okp,it⟩;refine⟨zA3 _,λD hD=>⟨D,_,rfl,.inl ⟨SqL.of aa,λt ht=>?_⟩⟩⟩;have s6:=(Same.upd (o:=.lst ys) hD).updR (o:=.tup ys) ht;obtain⟨ap,xp,ev,rp⟩:=K33.th_rows (rs:=ps) (.tup aa (it.same s6));cases ev;have OZ:=(g4.rows d2.sa F0).same s6;have O0:=(LN.trans g4).same s6;generalize upd (upd Hc D (.lst ys)) t (.tup ys)=H3 at rp OZ O0⊢;clear F0 d2 g4 it s6 ht hD LN rc d1;refine aJ ?_;dsimp only;refine aC (aP ?_);refine⟨zL,λe0 tw=>?_⟩;have d6:=O0.new (o:=.tup []) tw
 have r6:K33.RowsAt (upd H3 e0 (.tup [])) e0 [] []:=⟨aa,rfl,λi r e=>by simp at e⟩
 have Pa:=rp.same (Same.upd (o:=.tup []) tw);have Pb:=OZ.same (Same.upd (o:=.tup []) tw);generalize upd H3 e0 (.tup [])=H4 at d6 r6 Pa Pb⊢;refine aJ ?_;dsimp only;refine aC ?_;refine⟨_,rfl,st,7,rfl,d6.sa,by decide,by decide,λr2 a2 b2 T3 q0 qn q1 q2 q3=>⟨r2,rfl,z00,z00,?_⟩⟩;have d7:=(Dr.refl d6.sa).draw (c:=T3) q1 q2 q3;have tF:=d7.rows d6.sa Pa;have T4:=d7.rows d6.sa Pb;have r7:=d7.rows d6.sa r6;have T5:=d6.trans d7;refine eQ (lo:=0) (n:=r2.toNat) (λi σ Hc=>∃a xs ss x6 x7,σ=[some (.ref st),some (.int y),some (.int m),some (.ref ac),some (.ref t),some (.ref a),x6,x7]/\Dr st H Hc/\K33.RowsAt Hc ac xc cs/\K33.RowsAt Hc t xp ps/\K33.RowsAt Hc a xs ss/\ss.length<=i/\(∀s∈ss,smR s)/\K33.un ps ss=none) ?_ ?_ ?_
 .exact⟨e0,[],[],none,none,rfl,T5,T4,tF,r7,zA3 _,(λ_ h=>nomatch h),rfl⟩
 .rintro i σ Hc hi ⟨a,xs,ss,x6,x7,rfl,g,rcc,F2,LO,ls,ej,yy⟩;refine aJ (aC ?_);refine aP ?_;refine⟨_,rfl,_,rfl,st,t,xp,ps,rfl,g.sa,F2,z00,okp,λt' s' H6 d8 et sm=>?_⟩;have Pc:=d8.rows g.sa rcc;have LP:=d8.rows g.sa F2;have AG:=d8.rows g.sa LO;have gd:=g.trans d8;refine aJ ?_;dsimp only
  have Pd:∀s∈ss++[s'],smR s:=λs hs=>by grind
  have l5:(ss++[s']).length<=i+1:=by rw[zA2];show ss.length+1<=_;lia
  have DJ:=AG.l;refine⟨_,rfl,_,rfl,_,rfl,zL,λt1 T6=>?_⟩;have m4:=Same.upd (o:=.tup [V.ref t']) T6;refine⟨a,t1,xs,_,rfl,rfl,m4 _ _ AG.e,aa,by simp,by rw[DJ,sizeLine_eq];show _+1<=_;lia,λc H7 s7 ec=>?_⟩;have T7:=sV ((AG.same m4).same s7) (s7 _ _ (m4 _ _ et)) ec;refine⟨t,xp,ps,c,_,ss++[s'],rfl,(LP.same m4).same s7,z00,okp,T7,z00,λs hs=>(Pd s hs).1,λtt fo H8 s8 T8 _=>?_⟩;have AH:=(m4.trans s7).trans s8;refine⟨tt,_,1,K33.unV (K33.un ps (ss++[s'])),rfl,rfl,SqT.of T8,rfl,rfl,_,rfl,Cy (λhb=>?_) λ_=>?_⟩
  .refine aP ?_;refine⟨_,rfl,_,rfl,zL,λt2 LS=>?_⟩;have m9:=Same.upd (o:=.tup [V.ref t']) LS;refine⟨a,t2,xs,_,rfl,rfl,m9 _ _ (AH _ _ AG.e),aa,by simp,by rw[DJ,sizeLine_eq];show _+1<=_;lia,λc' H9 s9 T9=>?_⟩;have rS:=(AH.trans m9).trans s9;exact⟨c',_,ss++[s'],_,_,rfl,gd.same rS,Pc.same rS,LP.same rS,sV (AG.same rS) (rS _ _ et) T9,l5,Pd,Eu hb⟩
  .exact⟨a,xs,ss,_,_,rfl,gd.same AH,Pc.same AH,LP.same AH,AG.same AH,z00,ej,yy⟩
 .rintro σ Hc ⟨a,xs,ss,x6,x7,rfl,g,rcc,F2,LO,ls,ej,yy⟩;refine⟨_,rfl,_,rfl,_,rfl,zL,λb hb=>?_⟩;have mb:=Same.upd (o:=.tup [V.ref ac,V.ref t,V.ref a]) hb;exact q b ac xc cs t xp ps a xs ss _ (g.new hb) aa (rcc.same mb) OW OX okc (F2.same mb) z00 okp (LO.same mb) z00 ej yy
end
end K33Q
namespace K33
open PySem L2
def jh(L:UV)(i:Nat):PK:=((List.range i).filter λh=>decide (0<L.getD h 0)).map λ(h:Nat)=>[(h:Int),L.getD h 0]
theorem oG(L:UV)(i:Nat):jh L (i+1)=jh L i++(if 0<L.getD i 0 then[[(i:Int),L.getD i 0]]else[]):=by
 unfold jh;rw[List.range_succ,Za7,zA4];congr 1;by_cases h:0<L.getD i 0
 .rw[zAz h,zBf (p:=λh=>decide (0<L.getD h 0)) (zAu h)];rfl
 .rw[zAy h,zBe (p:=λh=>decide (0<L.getD h 0)) (by rw[z08];exact h)];rfl
theorem yg(L:UV)(i:Nat):(jh L i).length<=i:=by
 unfold jh;rw[zA1];have:=List.length_filter_le (λh=>decide (0<L.getD h 0)) (List.range i);rw[List.length_range]at this;exact this
def uF(ps ss:PK)(sort year:Int)(n:Nat):PK:=if fl (ps.getD n []) 1=sort then(jh (cP (ps.getD n []) ss n year) 8).map (λr=>year::(n:Int)::r)else[]
def rA(ps ss:PK)(sort year:Int):Nat->PK
 |0=>[]
 |k+1=>rA ps ss sort year k++uF ps ss sort year k
def fM(ps ss:PK)(sort year:Int):PK:=rA ps ss sort year ps.length
theorem Ex(ps ss:PK)(sort year:Int)(n:Nat):(uF ps ss sort year n).length<=8:=by
 unfold uF;split
 .rw[zA1];exact yg _ 8
 .exact zAp _
theorem qF(ps ss:PK)(sort year:Int):∀k,(rA ps ss sort year k).length<=8*k
 |0=>zA3 _
 |k+1=>by
  unfold rA;rw[zA2];have:=qF ps ss sort year k;have:=Ex ps ss sort year k;lia
inductive SpClaimsI(vs:List V)(H:Hp)(Q:VK):Prop
 |mk:∀ap xp ps af xs ss sort year,(vs=[.ref ap,.ref af,.int sort,.int year])->(RowsAt H ap xp ps)->(ps.length<=10)->((∀r∈ps,okP r))->(RowsAt H af xs ss)->(ss.length<=12)->((∀s∈ss,okS s))->(∀l xl H',Same H H'->H l=none->H' l=some (.lst xl)->Els H' xl (fM ps ss sort year)->Q (.ref l) H')->SpClaimsI  vs H Q
def qG:Sp:=λvs H Q _=>SpClaimsI  vs H Q
theorem ndV:(["holder","sacks","year","number"]:List Str).Nodup:=by decide +kernel
theorem scV1:FnScope ["promises","sales","sort","year","claims","number","promise","held"] ["promises","sales","sort","year"] (az (top 55)):=fQS
theorem BP(F:Fun K "claims_in" "claims_in" (top 55) f fd)(Te:mg "enumerate"=none)(c1:Cal P w K mg base 1 "held_in" ["promises","sales","number","year"] yf):FnOk P w K mg base CX0 2 f fd ["promises","sales","sort","year"] qG:=by
 refine F.oq scV1 λcdv A outer s H vs Q E hr h=>?_;obtain⟨ap,xp,ps,af,xs,ss,sort,year,rfl,rp,lp,okp,rs,ls,ej,q⟩:=h
 refine⟨_,aB (pss 4 scV1.nd (dJ aj))
  (aB (cG zB7 rfl (ZT.pi_enum true rfl Te (aq (pv 0) aj)) (bQ rfl (ao (bw (i:=5) scV1.nd rfl (Or.inr rfl)) (ao (pgn 6 scV1.nd) aV)))
   (aF (bR (aW iH (pX bj (pv 6) au) (pv 2) (aU _))
    (aB (pss 7 scV1.nd (aG c1 hr (aq (pv 0) (aq (pv 1) (aq (pv 5) (aq (pv 3) aj))))))
    (aF (jX (i:=4) scV1.nd rfl (Or.inl rfl) (bW (g:=lA K 2 (bY (bG 0) (bY (bG 1) mQ))) ["holder","sacks","year","number"] [none,none,some 3,some 5] rfl (ZT.pi_enum false rfl Te (aq (pv 7) aj))
     (λC fp z06 s₂ H₂=>⟨dW rfl rfl (ao (pgn 0 ndV) (ao (pgn 1 ndV) aV)),jH (aW jm (pv 1) au (aU _)),bA (aq (pv 2) (aq (pv 3) (aq (pv 0) (aq (pv 1) aj))))⟩)
     (λC=>cI (cI trivial)) ⟨rfl,rfl,rfl,rfl⟩) nu))) aY)))
  (aF (aN (pv 4)))),?_⟩
 refine aC (aP ?_);refine⟨zL,λl hl=>?_⟩;refine aJ ?_;dsimp only;refine aC ?_;have s0:=Same.upd (o:=.lst []) hl;refine⟨_,rfl,ap,xp,rfl,SqT.of (s0 _ _ rp.e),?_⟩;refine ZT.for_enum true (xs:=xp) (λi σ Hc=>∃x5 x6 x7 xl,σ=[some (.ref ap),some (.ref af),some (.int sort),some (.int year),some (.ref l),x5,x6,x7]/\(∀b o,H b=some o->Hc b=some o)/\Hc l=some (.lst xl)/\Els Hc xl (rA ps ss sort year i)) ?_ ?_ ?_ ?_
 .exact⟨none,none,none,[],rfl,λb o e=>s0 _ _ e,aa,Els.nil⟩
 .rintro i σ Hc hi ⟨x5,x6,x7,xl,rfl,k,el,ht⟩;exact SqT.of (k _ _ rp.e)
 .rintro i x σ Hc T0 hx ⟨x5,x6,x7,xl,rfl,k,el,ht⟩ nT
  have hi:i<ps.length:=by
   have:=(zAa.mp hx).1;rw[rp.l]at this;exact this
  obtain⟨tr,eW,bq⟩:=rp.g i ps[i] (zA0 hi)
  have:x=.ref tr:=by
   rw[hx]at eW;exact zAl eW
  subst this;have op:=okp ps[i] (zAh hi);have ep:ps.getD i []=ps[i]:=getD_get hi;rw[six_row op.1]at bq;have sT:=Same.upd (o:=.tup [V.int i,V.ref tr]) nT;have kT:Same H (upd Hc T0 (.tup [V.int i,V.ref tr])):=λb o e=>sT _ _ (k _ _ e);have LU:=sT _ _ el;have LV:=ht.same sT;have eT:=aa (H:=Hc) (a:=T0) (o:=.tup [V.int i,V.ref tr]);generalize upd Hc T0 (.tup [V.int i,V.ref tr])=H1 at kT LU LV eT⊢;refine⟨T0,_,rfl,SqT.of eT,rfl,_,_,rfl,_,_,rfl,rfl,?_⟩;refine⟨_,rfl,tr,_,1,.int (fl ps[i] 1),rfl,rfl,SqT.of (kT _ _ bq),rfl,_,rfl,rfl,_,rfl,?_⟩;by_cases hs:fl ps[i] 1=sort
  .rw[zAu (by rw[hs])];refine bh (aC ?_);refine aP ?_;refine⟨_,rfl,_,rfl,_,rfl,_,rfl,ap,xp,ps,af,xs,ss,i,year,rfl,rp.same kT,rs.same kT,z00,z00,by rw[zAi,ep];exact op,ls,ej,λhd H2 s2 e2=>?_⟩;rw[zAi,ep]at e2;have OL:=gO ps[i] ss i year
   have Pe:uF ps ss sort year i=(jh (cP ps[i] ss i year) 8).map (λr=>year::(i:Int)::r):=by
    unfold uF;rw[ep,zAz hs]
   generalize cP ps[i] ss i year=L at e2 OL Pe;have k2:=kT.trans s2;have el2:=s2 _ _ LU;have LS:=LV.same s2;refine aJ ?_;dsimp only;refine⟨_,rfl,_,rfl,hd,_,rfl,SqL.of e2,iZ 8 (λj ys σ Hj=>Same H2 Hj/\(∃o1 o2,σ=[o1,o2,some (.int year),some (.int i)])/\Els Hj ys ((jh L j).map (λr=>year::(i:Int)::r))) ⟨Same.refl _,⟨_,_,rfl⟩,Els.nil⟩ (by rw[sizeLine_eq];decide) ?_ ?_⟩
   .rintro j ys σ Hj hj hy ⟨sc,⟨o1,o2,rfl⟩,pE⟩;have mT:SqL K Hj hd (L.map V.int):=SqL.of (sc _ _ e2);have Pf:(L.map V.int)[j]?=some (.int (L.getD j 0)):=by simp_all
    refine⟨⟨_,_,mT,Pf⟩,λx H' yv R hR=>?_⟩;obtain⟨T1,LW,rfl,yv⟩:=yv;obtain⟨x',cS,rfl⟩:=yv _ mT;rw[Pf]at cS;cases cS;have tj:=sc.updR (o:=.tup [.int (j:Int),.int (L.getD j 0)]) LW;refine⟨T1,_,rfl,SqT.of aa,rfl,_,_,rfl,_,_,rfl,rfl,?_⟩;refine⟨_,rfl,_,_,rfl,rfl,_,rfl,?_⟩;by_cases aE:0<L.getD j 0
    .rw[zAu aE];refine bh ⟨_,rfl,_,rfl,_,rfl,_,rfl,zL,λt kC=>hR _ _ _ (by rw[zA2];show ys.length+1<=j+1;lia) ⟨tj.updR kC,⟨_,_,rfl⟩,?_⟩⟩;rw[oG,zAz aE,zA4];exact((pE.same (Same.upd LW)).same (Same.upd kC)).app (Els.one aa)
    .rw[zB2 aE];refine aX (hR _ _ _ z00 ⟨tj,⟨_,_,rfl⟩,?_⟩);rw[oG,zAy aE,zAn];exact pE.same (Same.upd LW)
   .rintro ys σ Hj hy ⟨sc,_,pE⟩;refine⟨⟨_,SqL.of (sc _ _ e2),by rw[zA1];lia⟩,λD hD=>?_⟩;have sD:=sc.updR (o:=.lst ys) hD
    have nD:D≠l:=λz=>by rw[z,sc _ _ el2]at hD;cases hD
    have ll:=qF ps ss sort year i;have:=ht.1;refine⟨l,D,xl,ys,rfl,rfl,sD _ _ el2,aa,by rw[sizeLine_eq];lia,?_⟩;refine⟨_,_,_,xl++ys,rfl,λb o e=>?_,aa,?_⟩
    .rw[aA (aD e hl)];exact sD _ _ (k2 _ _ e)
    .have e3:=(LS.same sD).app (pE.same (Same.upd (o:=.lst ys) hD));rw[<-Pe]at e3;refine e3.keep λb z e=>?_;rw[aA λw=>by rw[w,sD _ _ el2]at e;cases e];exact e
  .rw[zB2 (λz=>hs (by injection z))];refine aX ?_;refine⟨_,_,_,xl,rfl,λb o e=>kT _ _ e,LU,?_⟩
   have:rA ps ss sort year (i+1)=rA ps ss sort year i:=by
    show rA ps ss sort year i++uF ps ss sort year i=_;unfold uF;rw[ep,zAy hs,zAn]
   rw[this];exact LV
 .rintro σ Hc ⟨x5,x6,x7,xl,rfl,k,el,ht⟩;rw[show xp.length=ps.length from rp.l]at ht;exact⟨_,rfl,q l xl Hc (λb o e=>k b o e) hl el ht⟩
theorem sum_set:∀(L:UV) i a,i<L.length->(L.set i a).sum=L.sum-L.getD i 0+a
 |[],i,a,h=>by simp at h
 |x::L,0,a,h=>by
  rw[List.set_cons_zero,Zaf,Zaf,List.getD_cons_zero];lia
 |x::L,i+1,a,h=>by
  rw[List.set_cons_succ,Zaf,Zaf,List.getD_cons_succ,sum_set L i a (by simpa using h)];lia
theorem wF(h:i.toNat<L.length):(iY L i v).sum=L.sum+v:=by
 unfold iY;rw[sum_set _ _ _ h];lia
theorem nJ:∀{L:UV},(∀x∈L,0<=x)->0<=L.sum/\∀x∈L,x<=L.sum
 |[],_=>⟨Za3 _,λx hx=>by cases hx⟩
 |y::L,h=>by
  obtain⟨h1,h2⟩:=nJ (L:=L) λx hx=>h x (.tail _ hx);have hy:=h y (.head _);rw[Zaf];refine⟨z00,λx hx=>?_⟩;rcases zAo.mp hx with z|z
  .lia
  .have:=h2 x z;lia
theorem zG{L:UV}(h:∀x∈L,0<=x)(i:Nat):0<=L.getD i 0:=by
 rw[zA7]
 cases e:L[i]? with
 |none=>exact Za3 _
 |some y=>exact h y (zB6 e)
theorem zH(h:∀x∈L,0<=x)(hv:0<=L.getD i.toNat 0+v):∀x∈iY L i v,0<=x:=by
 intro x hx;unfold iY at hx;rcases List.mem_or_eq_of_mem_set hx with z|z
 .exact h x z
 .rw[z];exact hv
theorem Ey(h:un ps ss=none):∀j,j<ss.length->cM ps (ss.take j) (ss.getD j [])=true:=λj hj=>by
 unfold un at h;have:=List.find?_eq_none.mp h j (Zan.mpr hj);simpa using this
theorem mq(hu:un ps ss=none)(h5:∀s∈ss,s.length=5)(op:okP (ps.getD n [])):
  ∀k,k<=ss.length->(∀x∈cP (ps.getD n []) (ss.take k) n y,0<=x)/\(cP (ps.getD n []) (ss.take k) n y).sum<=99:=by
 intro k;by_cases hy:fl (ps.getD n []) 2<=y/\y<=fl (ps.getD n []) 3
 .obtain⟨_,⟨a1,a2⟩,_,_,⟨e1,e2⟩,_⟩:=id op
  induction k with
  |zero=>
   intro _;rw[List.take_zero];unfold cP;rw[zAz hy];show(∀x∈base0 (ps.getD n []),0<=x)/\(base0 (ps.getD n [])).sum<=99;unfold base0;refine⟨λx hx=>?_,?_⟩
   .rcases List.mem_or_eq_of_mem_set hx with z|z
    .rw[Za5 z];exact Za3 _
    .lia
   .rw[sum_set _ _ _ (by rw[Zax];lia)];have:(List.replicate 8 (0:Int)).sum=0:=rfl
    have e:(List.replicate 8 (0:Int)).getD (fl (ps.getD n []) 0).toNat 0=0:=by
     rw[zA7,List.getElem?_replicate,zAz z00];rfl
    rw[this,e];lia
  |succ k ih=>
   intro hk;have fk:k<ss.length:=z00
   obtain⟨i1,i2⟩:=ih z00;have hB:=Ey hu k fk;rw[getD_get fk]at hB;have fh:ss.take (k+1)=ss.take k++[ss[k]]:=by rw[zAj,zA0 fk];rfl
   have eh:cP (ps.getD n []) (ss.take (k+1)) n y=hstep n y (cP (ps.getD n []) (ss.take k) n y) ss[k]:=by
    unfold cP;rw[zAz hy,zAz hy,fh,List.foldl_append];rfl
   have Ua:=qC (h5 _ (zAh fk)) hB;obtain⟨_,⟨b1,b2⟩,c1,c2⟩:=Ua;have hl:=gO (ps.getD n []) (ss.take k) n y;rw[eh];unfold hstep;by_cases hc:fl ss[k] 0=n/\fl ss[k] 4<=y
   .rw[zAz hc];unfold cM at hB;rw[zAc]at hB;obtain⟨mM,Ct⟩:=hB
    have ep:uA ps ss[k]=ps.getD n []:=by
     unfold uA;rw[hc.1,zAi]
    have kQ:fl ss[k] 3<=(cP (ps.getD n []) (ss.take k) n y).getD (fl ss[k] 1).toNat 0:=by
     have:=Zae.mp Ct y (by
      unfold years;refine zA5.mpr ⟨(y-fl ss[k] 4).toNat,Zan.mpr ?_,?_⟩
      .rw[ep];lia
      .lia)
     have:=zB8 this;rw[ep,hc.1]at this;exact this
    unfold wz at mM;simp only[Bool.and_eq_true,z08,Bool.not_eq_true',decide_eq_false_iff_not]at mM;obtain⟨_,_,_,Y2,⟨v1,v2⟩,_⟩:=mM;generalize cP (ps.getD n []) (ss.take k) n y=L at i1 i2 hl kQ;have n1:=zH (i:=fl ss[k] 1) (v:=-(fl ss[k] 3)) i1 z00;refine⟨zH n1 ?_,?_⟩
    .have:=zG n1 (fl ss[k] 2).toNat;lia
    .rw[wF (by rw[jA];lia),wF z00];lia
   .rw[zAy hc];exact⟨i1,i2⟩
 .intro _;unfold cP;rw[zAy hy];refine⟨λx hx=>by rw[Za5 hx];exact Za3 _,by decide⟩
def cV(ps:PK)(r:UV):Int:=fl (ps.getD (fl r 1).toNat []) 1
structure okO(ps:PK)(r:UV):Prop where
 l:r.length=4
 n0:0<=fl r 1
 n1:fl r 1<ps.length
 s0:1<=fl r 3
 s1:fl r 3<=99
 h0:0<=fl r 2
 h1:fl r 2<8
theorem N7(hu:un ps ss=none)(h5:∀s∈ss,s.length=5)(okp:∀r∈ps,okP r):∀k,k<=ps.length->∀r∈rA ps ss sort year k,okO ps r/\cV ps r=sort:=by
 intro k
 induction k with
 |zero=>intro _ r hr;cases hr
 |succ k ih=>
  intro hk r hr;rcases zA6.mp (show r∈rA ps ss sort year k++uF ps ss sort year k from hr)with z|z
  .exact ih z00 r z
  .unfold uF at z;split at z
   .rename_i hs
    obtain⟨q,hq,rfl⟩:=zA5.mp z;unfold jh at hq;obtain⟨h,hh,rfl⟩:=zA5.mp hq;have hp:=zB8 (zAq.mp hh).2;have h8:=Zan.mp (zAq.mp hh).1;have fk:k<ps.length:=z00
    obtain⟨a,b⟩:=mq (n:=k) (y:=year) hu h5 (by rw[getD_get fk];exact okp _ (zAh fk)) ss.length (zA3 _);rw[zAm]at a b
    have le:(cP (ps.getD k []) ss k year).getD h 0<=99:=by
     rw[zA7]at hp⊢
     cases e:(cP (ps.getD k []) ss k year)[h]? with
     |none=>show(0:Int)<=99;decide
     |some y=>
      have:=(nJ a).2 y (zB6 e);show y<=99;lia
    exact⟨⟨rfl,Int.natCast_nonneg k,Int.ofNat_lt.mpr fk,hp,le,Int.natCast_nonneg h,Int.ofNat_lt.mpr h8⟩,hs⟩
   .cases z
theorem sW(hu:un ps ss=none)(h5:∀s∈ss,s.length=5)(okp:∀r∈ps,okP r):∀r∈fM ps ss sort year,okO ps r/\cV ps r=sort:=N7 hu h5 okp ps.length (zA3 _)
theorem lw(h:ps.length<=10):(fM ps ss sort year).length<=80:=by
 have:=qF ps ss sort year ps.length;unfold fM;lia
def bI(ps ow:PK)(sort:Int):PK:=ow.filter λr=>decide (cV ps r=sort)
theorem Ez{ps ow:PK}(h:∀r∈ow,okO ps r):∀r∈bI ps ow sort,okO ps r/\cV ps r=sort:=λr hr=>⟨h r (zAq.mp hr).1,zB8 (zAq.mp hr).2⟩
theorem BR(ps ow:PK)(sort:Int):(bI ps ow sort).length<=ow.length:=List.length_filter_le _ _
theorem nW(ps a b:PK)(sort:Int):bI ps (a++b) sort=bI ps a sort++bI ps b sort:=Za7 ..
theorem nY{ps K:PK}(h:∀r∈K,cV ps r=s)(t:Int):bI ps K t=if t=s then K else[]:=by
 split
 .rename_i e
  exact List.filter_eq_self.mpr λr hr=>zAu (by rw[e];exact h r hr)
 .rename_i e
  exact List.filter_eq_nil_iff.mpr λr hr z=>e (by rw[<-zB8 z];exact h r hr)
theorem zJ(h:uD q r)(o:okO ps q):okO ps r/\cV ps r=cV ps q:=by
 obtain⟨e,a,b⟩:=h;have e1:fl r 1=fl q 1:=by rw[e];rfl
 have e2:fl r 2=fl q 2:=by rw[e];rfl
 refine⟨⟨by rw[e];rfl,by rw[e1];exact o.n0,by rw[e1];exact o.n1,a,Int.le_trans b o.s1,by rw[e2];exact o.h0,by rw[e2];exact o.h1⟩,?_⟩;unfold cV;rw[e1]
def xD(c:UV)(ps ss:PK)(o:Nat->Int)(y:Int)(s:Nat):Int:=bf (fM ps ss s y)+o s-c.getD s 0
def dn(x:Nat->Int):Nat->Int
 |0=>0
 |n+1=>max 0 (dn x n-x n)
def oS(cs ps ss:PK):Nat->Nat->Int
 |0,_=>0
 |m+1,s=>max 0 (xD (cs.getD m []) ps ss (oS cs ps ss m) m s-dn (xD (cs.getD m []) ps ss (oS cs ps ss m) m) s)
theorem N8(x:Nat->Int):∀n,0<=dn x n
 |0=>Za3 _
 |n+1=>by show 0<=max 0 _;lia
structure OwOk(cs ps ss:PK)(m:Nat)(K:PK):Prop where
 ok:∀r∈K,okO ps r
 sm:∀s:Nat,s<3->bf (bI ps K s)=oS cs ps ss m s
 len:K.length<=240*m
theorem wG:∀{ps K:PK},(∀r∈K,0<=cV ps r/\cV ps r<3)->bf K=bf (bI ps K (0:Nat))+bf (bI ps K (1:Nat))+bf (bI ps K (2:Nat))
 |_,[],_=>rfl
 |ps,r::K,h=>by
  have ih:=wG λq hq=>h q (.tail _ hq);have h0:=h r (.head _)
  have e:∀s:Nat,bf (bI ps (r::K) s)=bf (bI ps K s)+if cV ps r=s then fl r 3 else 0:=λs=>by
   have:r::K=[r]++K:=rfl;rw[this,nW,jO,nY (s:=cV ps r) (λq hq=>by rw[Zad.mp hq])];by_cases z:cV ps r=s
   .rw[zAz z.symm,zAz z];show fl r 3+0+_=_;lia
   .rw[zAy λw=>z w.symm,zAy z];show 0+_=_;lia
  have es:bf (r::K)=fl r 3+bf K:=rfl;rw[e,e,e,es,ih];split<;>split<;>split<;>lia
def cap(ps ow:PK):Nat->Nat
 |0=>0
 |n+1=>cap ps ow n+(80+(bI ps ow n).length)
theorem EY(ps ow:PK)(h:a<=b):cap ps ow a<=cap ps ow b:=by
 induction h with
 |refl=>exact zA3 _
 |step _ ih=>exact Zah ih (Nat.le_add_right ..)
theorem uG(ps:PK):∀ow,cap ps ow 3<=240+ow.length
 |[]=>zA3 _
 |r::ow=>by
  have ih:=uG ps ow
  have e:∀s:Int,(bI ps (r::ow) s).length=(bI ps ow s).length+if cV ps r=s then 1 else 0:=λs=>by
   have:r::ow=[r]++ow:=rfl;rw[this,nW,zA2,nY (s:=cV ps r) (λq hq=>by rw[Zad.mp hq])];by_cases z:cV ps r=s
   .rw[zAz z.symm,zAz z];exact Nat.add_comm ..
   .rw[zAy λw=>z w.symm,zAy z];exact Nat.zero_add _
  have c:∀ow:PK,cap ps ow 3=0+(80+(bI ps ow (0:Nat)).length)+(80+(bI ps ow (1:Nat)).length)+(80+(bI ps ow (2:Nat)).length):=λ_=>rfl;rw[c]at ih⊢;rw[e,e,e,zAe];split<;>split<;>split<;>lia
end K33
open K33P (boot_sorted)
namespace K33
open PySem L2
structure YI(ps:PK)(X:Nat->Int)(N:Nat->Nat)(i:Nat)(G K:PK)(L:UV):Prop where
 g:∀r∈G,okO ps r
 k:∀r∈K,okO ps r
 gl:G.length<=N i
 kl:K.length<=N i
 ll:L.length=i
 sm:∀s:Nat,bf (bI ps K s)=if s<i then max 0 (X s-dn X s)else 0
theorem YI.step(h:YI ps X N i G K L){cl:PK}(jI:∀r∈cl,okO ps r/\cV ps r=i)(hl:N i+cl.length<=N (i+1))(hX:X i=bf cl-(w-dn X i))(v:GvOk w cl G' K')(l:Int):YI ps X N (i+1) (G++G') (K++K') (L++[l])/\w-bf G'=dn X (i+1):=by
 have gk:∀r∈G',okO ps r:=λr hr=>by
  obtain⟨q,hq,p⟩:=v.gp r hr;exact(zJ p (jI q hq).1).1
 have kk:∀r∈K',okO ps r/\cV ps r=i:=λr hr=>by
  obtain⟨q,hq,p⟩:=v.kp r hr;obtain⟨a,b⟩:=zJ p (jI q hq).1;exact⟨a,b.trans (jI q hq).2⟩
 have h1:=v.gl;have h2:=v.kl;have h3:=h.gl;have h4:=h.kl;have es:bf K'=max 0 (X i-dn X i):=by rw[v.ks];lia
 refine⟨⟨λr hr=>(zA6.mp hr).elim (h.g r) (gk r),λr hr=>(zA6.mp hr).elim (h.k r) λz=>(kk r z).1,by rw[zA2];lia,by rw[zA2];lia,by rw[zA2,h.ll];rfl,λs=>?_⟩,?_⟩
 .rw[nW,jO,h.sm s,nY (λr hr=>(kk r hr).2)];by_cases z:s=i
  .rw[zAy z00,zAz z00,zAz z00,es,z];lia
  .rw[zAy (show¬(s:Int)=i by lia)];show _+0=_;rw[Int.add_zero];by_cases y:s<i
   .rw[zAz y,zAz z00]
   .rw[zAy y,zAy z00]
 .show _=max 0 (dn X i-X i);rw[v.gs];lia
theorem Ko{a b:UV}(h:a.Perm b):a.sum=b.sum:=by
 induction h with
 |nil=>rfl
 |cons x _ ih=>rw[Zaf,Zaf,ih]
 |swap x y l=>
  rw[Zaf,Zaf,Zaf,Zaf];lia
 |trans _ _ h1 h2=>exact h1.trans h2
theorem YI.perm(h:YI ps X N i G K L)(pg:G'.Perm G)(pk:K'.Perm K):YI ps X N i G' K' L:=
 ⟨λr hr=>h.g r (pg.mem_iff.mp hr),λr hr=>h.k r (pk.mem_iff.mp hr),by rw[pg.length_eq];exact h.gl,by rw[pk.length_eq];exact h.kl,h.ll,λs=>by rw[<-h.sm s];exact Ko ((pk.filter _).map _)⟩
def vInt:V->Int
 |.int i=>i
 |_=>0
def qH(H:Hp)(a:Addr):UV:=match H a with
 |some (.tup xs)=>xs.map vInt
 |_=>[]
theorem HD(e:H a=some (.tup (r.map V.int))):qH H a=r:=by
 unfold qH;rw[e];show(r.map V.int).map vInt=r;rw[zAr];exact List.map_id _
theorem uH:∀{xs:List V} {rs:PK},Els H xs rs->∃ads:List Addr,xs=ads.map V.ref/\rs=ads.map (qH H)/\∀a∈ads,H a=some (.tup ((qH H a).map V.int))
 |[],[],_=>⟨[],rfl,rfl,λa ha=>(by cases ha)⟩
 |[],_::_,h=>by have:=h.1;simp at this
 |_::_,[],h=>by have:=h.1;simp at this
 |x::xs,r::rs,h=>by
  obtain⟨t,e1,e2⟩:=h.2 0 r rfl;rw[List.getElem?_cons_zero]at e1;cases e1
  obtain⟨ads,f1,f2,f3⟩:=uH (xs:=xs) (rs:=rs) ⟨by have:=h.1;simpa using this,λi q e=>by
   obtain⟨u,g1,g2⟩:=h.2 (i+1) q (by rw[Za9];exact e);rw[Za9]at g1
   exact⟨u,g1,g2⟩⟩
  have er:=HD e2;refine⟨t::ads,by rw[f1];rfl,by rw[f2,zAk,er,<-f2],λa ha=>?_⟩;rcases zAo.mp ha with z|z
  .rw[z,er];exact e2
  .exact f3 a z
theorem Fb{l':List Addr}(h:∀a∈l',H' a=some (.tup ((qH H a).map V.int))):Els H' (l'.map V.ref) (l'.map (qH H)):=by
 refine⟨by rw[zA1,zA1],λi r e=>?_⟩;rw[zAb]at e
 cases z:l'[i]? with
 |none=>rw[z]at e;cases e
 |some a=>
  rw[z]at e;cases e;exact⟨a,by rw[zAb,z];rfl,h a (zB6 z)⟩
inductive SpYearI(vs:List V)(H:Hp)(Q:VK):Prop
 |mk:∀bk y lo ac xc cs ap xp ps af xs ss xo ow,(vs=[.ref bk,.int y,.ref lo])->(H bk=some (.tup [.ref ac,.ref ap,.ref af]))->(RowsAt H ac xc cs)->((∀r∈cs,r.length=3/\∀x∈r,0<=x))->(0<=y)->(y<cs.length)->(RowsAt H ap xp ps)->(ps.length<=10)->((∀r∈ps,okP r))->(RowsAt H af xs ss)->(ss.length<=12)->((∀s∈ss,s.length=5))->(un ps ss=none)->(H lo=some (.lst xo))->(Els H xo ow)->(OwOk cs ps ss y.toNat ow)->(ow.length<=24000)->(∀t g k tl xg xk G K L H',Same H H'->H' t=some (.tup [.ref g,.ref k,.ref tl])->H g=none->H k=none->(g≠sysModules/\k≠sysModules)->H' g=some (.lst xg)->Els H' xg G->(∀r∈G,okO ps r)->G.length<=240*(y.toNat+1)->H' k=some (.lst xk)->Els H' xk K->OwOk cs ps ss (y.toNat+1) K->L.length=3->H' tl=some (.tup ((L:UV).map V.int))->Q (.ref t) H')->SpYearI  vs H Q
def Fd:Sp:=λvs H Q _=>SpYearI  vs H Q
theorem zK(h:un ps ss=none)(h5:∀s∈ss,s.length=5):∀s∈ss,okS s:=λs hs=>by
 obtain⟨j,hj,e⟩:=Zaq hs;have:=Ey h j hj;rw[getD_get hj,e]at this;exact qC (h5 s hs) this
theorem gen_ts{tb:TS}(R:Hp->Prop)(h:R H)(g:∀H,R H->tb D σ H):tb D σ H:=g H h
theorem ndZ:(["row","promises","sort"]:List Str).Nodup:=by decide +kernel
theorem scZ1:FnScope ["book","year","owed","clips","promises","sales","gifts","lacking","left","down","sort","wool","claims","ahead","given","lacked"] ["book","year","owed"] (az (top 59)):=fQS
theorem HF(F:Fun K "year_given" "year_given" (top 59) f fd)(T:Mg mg)(N:Nums mg)(Tr:mg "range"=none)(Ts:mg "sorted"=none)(c1:Cal P w K mg base 2 "claims_in" ["promises","sales","sort","year"] qG)(c2:Cal P w K mg base 8 "sort_given" ["wool","claims","owed"] Em)(c3:Cal P w K mg base 1 "sacks_of" ["rows"] zr):FnOk P w K mg base CX0 9 f fd ["book","year","owed"] Fd:=by
 refine F.oq scZ1 λcdv A outer s H vs Q E hr h=>?_;obtain⟨bk,y,lo,ac,xc,cs,ap,xp,ps,af,xs,ss,xo,ow,rfl,eb,rc,okc,y0,y1,rp,lp,okp,rs,ls,h5,hu,eo,rg,rV,Tf,q⟩:=h;have Pg:=rV.ok;obtain⟨t3,e3⟩:=N.sorts
 refine K33P.ok_b (aH ⟨cN (pv 0) (bQ rfl (ao (pgn 3 scZ1.nd) (ao (bw (i:=4) scZ1.nd rfl (Or.inr rfl)) (ao (pgn 5 scZ1.nd) aV))))⟩
  (aH (fU 6 scZ1.nd (cz bu))
  (aH (fU 7 scZ1.nd (cz bu))
  (aH (fU 8 scZ1.nd (cz bu))
  (aH (fU 9 scZ1.nd fj)
  (aH ⟨cG zB7 rfl (cY rfl Tr (aq (bO (v:=.int 3) rfl e3 ⟨_,rfl⟩) aj)) (bw (i:=10) scZ1.nd rfl (Or.inr rfl))
   (jU (aH (fU 11 scZ1.nd (il bT (lK bj (lK bj ⟨pv 3⟩ ⟨pv 1⟩ (λ_ _=>rfl)) ⟨pv 10⟩ (λ_ _=>rfl)) ⟨pv 9⟩))
   (aH (fU 12 scZ1.nd ⟨aG c1 hr (aq (pv 4) (aq (pv 5) (aq (pv 10) (aq (pv 1) aj))))⟩)
   (aH ⟨jJ (i:=13) ["row","promises","sort"] [none,some 4,some 10] rfl scZ1.nd rfl (Or.inl rfl) (dC (pv 2)) (λC fp z06 s₂ H₂=>⟨pgn 0 ndZ,jH (aW iH (pX (K33P.ix_tupK (K:=K) rfl) (pX (K33P.ix_tupK (K:=K) rfl) (pv 1) (pX (K33P.ix_tupK (K:=K) rfl) (pv 0) au)) au) (pv 2) (aU _)),pv 0⟩) (λC=>cI (cI trivial)) ⟨rfl,rfl,rfl,rfl⟩⟩
   (aH ⟨cN (aG c2 hr (aq (pv 11) (aq (pv 12) (aq (pv 13) aj)))) (bQ rfl (ao (pgn 14 scZ1.nd) (ao (pgn 15 scZ1.nd) aV)))⟩
   (aH (fU 9 scZ1.nd (il dY ⟨pv 11⟩ ⟨aG c3 hr (aq (pv 14) aj)⟩))
   (aH ⟨jX (i:=6) scZ1.nd rfl (Or.inl rfl) (pv 14) nu⟩
   (aH ⟨jX (i:=7) scZ1.nd rfl (Or.inl rfl) (pv 15) nu⟩
   (bx ⟨cA (pI zBb zBd zBc iM (pv 8) (aq (pv 9) aj))⟩)))))))))⟩
  (bx (fQ (gZ (aQ ⟨aK iC rfl Ts boot_sorted (aq (pv 6) aj)⟩ (aQ ⟨aK iC rfl Ts boot_sorted (aq (pv 7) aj)⟩ (aQ ⟨cH cZ rfl T.tuple boot_tuple (aq (pv 8) aj)⟩ bu)))))))))))) ?_
 refine aC ?_;refine⟨_,rfl,bk,_,rfl,SqT.of eb,rfl,_,_,rfl,_,_,rfl,_,_,rfl,rfl,?_⟩;dsimp only;refine aC (aP ?_);refine⟨zL,λlg LX=>?_⟩;refine aJ ?_;dsimp only;refine aC (aP ?_);refine⟨zL,λlk D5=>?_⟩;refine aJ ?_;dsimp only;refine aC (aP ?_);refine⟨zL,λll kR=>?_⟩;refine aJ ?_;dsimp only;refine aC (aP ?_);refine aJ ?_;dsimp only;have s1:=Same.upd (o:=.lst []) LX;have s2:=Same.upd (o:=.lst []) D5;have s3:=Same.upd (o:=.lst []) kR;have Ub:H lg=none:=LX;have Uc:H lk=none:=s1.free D5;have LY:H ll=none:=(s1.trans s2).free kR
 have Ph:lg≠lk:=λz=>by rw[<-z,aa]at D5;cases D5
 have Pj:lk≠ll:=λz=>by rw[<-z,aa]at kR;cases kR
 have Pk:lg≠ll:=λz=>by rw[<-z,s2 _ _ aa]at kR;cases kR
 refine gen_ts (λH1=>Same H H1/\H1 lg=some (.lst [])/\H1 lk=some (.lst [])/\H1 ll=some (.lst [])) ⟨(s1.trans s2).trans s3,s3 _ _ (s2 _ _ aa),s3 _ _ aa,aa⟩ λH1=>?_;rintro⟨k1,sF,Ud,el1⟩;clear s1 s2 s3 LX D5 kR
 obtain⟨m,rfl⟩:∃m:Nat,y=m:=⟨y.toNat,z00⟩
 rw[zAi]at rV q;have LZ:m<cs.length:=z00
 obtain⟨tc,D6,Pl⟩:=rows_at rc y0 (show cs[m]?=some cs[m]from zA0 LZ);have Ue:cs.getD m []=cs[m]:=getD_get LZ;have D7:=okc _ (zAh LZ)
 have q:∀t g k tl xg xk G K L H',Same H H'->H' t=some (.tup [.ref g,.ref k,.ref tl])->H g=none->H k=none->(g≠sysModules/\k≠sysModules)->H' g=some (.lst xg)->Els H' xg G->H' k=some (.lst xk)->Els H' xk K->YI ps (xD cs[m] ps ss (oS cs ps ss m) m) (cap ps ow) 3 G K L->H' tl=some (.tup ((L:UV).map V.int))->Q (.ref t) H':=λt g k tl xg xk G K L H' a b c d e f u v w z x=>q t g k tl xg xk G K L H' a b c d e f u z.g (by have:=z.gl;have:=uG ps ow;have:=rV.len;lia) v w ⟨z.k,λs hs=>by
  rw[z.sm s,zAz hs];show _=max 0 (xD (cs.getD m []) ps ss (oS cs ps ss m) m s-_)
  rw[Ue],by have:=z.kl;have:=uG ps ow;have:=rV.len;lia⟩ z.ll x
 have hX:∀s:Nat,s<3->xD cs[m] ps ss (oS cs ps ss m) m s=bf (fM ps ss s m++bI ps ow s)-cs[m].getD s 0:=λs hs=>by
  rw[jO,rV.sm s hs];rfl
 generalize xD cs[m] ps ss (oS cs ps ss m) m=X at q hX;generalize cs[m]=c at q Pl D7 hX;have ej:=zK hu h5;refine aC ?_;refine⟨3,rfl,by decide,by decide,?_⟩;refine eQ (lo:=0) (λi σ Hc=>∃fe fv fw fx fy fE xg xk G K L,σ=[some (.ref bk),some (.int m),some (.ref lo),some (.ref ac),some (.ref ap),some (.ref af),some (.ref lg),some (.ref lk),some (.ref ll),some (.int (dn X i)),fe,fv,fw,fx,fy,fE]/\Same H Hc/\Hc lg=some (.lst xg)/\Els Hc xg G/\Hc lk=some (.lst xk)/\Els Hc xk K/\Hc ll=some (.lst (L.map V.int))/\YI ps X (cap ps ow) i G K L) ?_ ?_ ?_
 .exact⟨none,none,none,none,none,none,[],[],[],[],[],rfl,k1,sF,Els.nil,Ud,Els.nil,el1,⟨λ_ h=>(nomatch h),λ_ h=>(nomatch h),zAp _,zAp _,rfl,λs=>rfl⟩⟩
 .rintro i σ Hc hi ⟨fe,fv,fw,fx,fy,fE,xg,xk,G,KK,L,rfl,k,eg,rk,ek,gy,el,yi⟩;have hi:i<3:=hi;refine aJ ?_;have z0:(0:Int)+(i:Int)=i:=z00
  rw[z0];refine rd_E λDe Pm=>?_
  have Ug:(c.map V.int)[i]?=some (.int (c.getD i 0)):=by
   have fk:i<c.length:=z00
   rw[zAb,zA7,zA0 fk];rfl
  refine aC (aP ?_);refine⟨_,rfl,_,rfl,ac,xc,m,.ref tc,rfl,rfl,SqT.of (k _ _ rc.e),D6,_,rfl,tc,_,i,.int (c.getD i 0),rfl,rfl,SqT.of (k _ _ Pl),dD Ug,_,rfl,_,_,rfl,rfl,?_⟩;refine aJ ?_;dsimp only;have Y3:=N8 X i;have cn:=zG D7.2 i;refine aC (aP ?_);refine⟨_,rfl,_,rfl,_,rfl,_,rfl,ap,xp,ps,af,xs,ss,i,m,rfl,rp.same k,lp,okp,rs.same k,ls,ej,λlc Uh H2 s2 Y4 DI L6=>?_⟩;refine aJ ?_;dsimp only;have k2:=k.trans s2;refine aC ?_;refine⟨_,rfl,lo,rfl,⟨_,SqL.of (k2 _ _ eo)⟩,iZ ow.length (λj ys σ Hj=>Same H2 Hj/\(∃o1,σ=[o1,some (.ref ap),some (.int i)])/\Els Hj ys (bI ps (ow.take j) i)) ⟨Same.refl _,⟨_,rfl⟩,Els.nil⟩ z05 ?_ ?_⟩
  .rintro j ys σ Hj hj hy ⟨sc,⟨o1,rfl⟩,pE⟩;have kj:=k2.trans sc;have mT:SqL K Hj lo xo:=SqL.of (kj _ _ eo);obtain⟨tr,ex,bq⟩:=rg.2 j ow[j] (zA0 hj);have oj:=Pg _ (zAh hj);have o4:=oj.l;have o5:=oj.n0;have yA:=bq;rw[gA o4]at bq;obtain⟨p,hp,ep,op⟩:=prom_ok okp o5 oj.n1;obtain⟨tp,hJ,ja⟩:=rows_at rp o5 hp;rw[six_row op.1]at ja
   have fh:bI ps (ow.take (j+1)) i=bI ps (ow.take j) i++(if fl p 1=i then[ow[j]]else[]):=by
    rw[zAj,zA0 hj];unfold bI cV;rw[show(some ow[j]).toList=[ow[j]]from rfl,Za7];congr 1;by_cases h:fl p 1=i
    .rw[zAz h,zBf (by rw[ep];exact zAu h)];rfl
    .rw[zAy h,zBe (by rw[ep,z08];exact h)];rfl
   refine⟨⟨_,_,mT,ex⟩,λx H' yv R hR=>?_⟩;obtain⟨rfl,yv⟩:=yv;have yv:=yv _ mT;rw[ex]at yv;cases yv;refine aJ ?_;refine⟨_,rfl,_,rfl,tr,_,1,.int (fl ow[j] 1),rfl,rfl,SqT.of (kj _ _ bq),rfl,ap,xp,_,.ref tp,rfl,rfl,SqT.of (kj _ _ rp.e),hJ,tp,_,1,.int (fl p 1),rfl,rfl,SqT.of (kj _ _ ja),rfl,_,rfl,rfl,_,rfl,?_⟩;by_cases h:fl p 1=i
   .rw[zAu (by rw[h])];refine bh ⟨_,rfl,hR _ _ _ (by rw[zA2];show ys.length+1<=j+1;lia) ⟨sc,⟨_,rfl⟩,?_⟩⟩;rw[fh,zAz h];exact pE.app (Els.one (kj _ _ yA))
   .rw[zB2 (λz=>h (by injection z))];refine aX (hR _ _ _ z00 ⟨sc,⟨_,rfl⟩,?_⟩);rw[fh,zAy h,zAn];exact pE
  rintro ya σ Hj hy ⟨sc,_,kX⟩;rw[zAm]at kX;refine⟨⟨_,SqL.of (sc _ _ (k2 _ _ eo)),by rw[rg.1];exact zA3 _⟩,λla xb=>?_⟩;have sa:=sc.updR (o:=.lst ya) xb;have FX:=aa (H:=Hj) (a:=la) (o:=.lst ya);have kX:=kX.same (Same.upd (o:=.lst ya) xb);generalize upd Hj la (.lst ya)=H3 at sa FX kX⊢;have k3:=k2.trans sa;have sH:=s2.trans sa;dsimp only;have jI:=sW (sort:=i) (year:=m) hu h5 okp;have DE:=lw (ss:=ss) (sort:=i) (year:=m) lp;have F3:=Ez (sort:=i) Pg;have wt:=BR ps ow i;refine aC ?_;refine⟨_,rfl,_,rfl,_,rfl,c.getD i 0+dn X i,lc,Uh,fM ps ss i m,la,ya,bI ps ow i,rfl,sa _ _ DI,L6.same sa,λr hr=>⟨(jI r hr).1.l,(jI r hr).1.s0,(jI r hr).1.s1⟩,DE,z00,FX,kX,λr hr=>⟨(F3 r hr).1.l,Int.le_trans z02 (F3 r hr).1.s0⟩,z00,λt g kk nI rX GG K' H4 s4 gv et ng nk Pn yB Ui D8=>⟨t,_,rfl,SqT.of et,rfl,_,_,rfl,_,_,rfl,rfl,?_⟩⟩;have k4:=k3.trans s4;have Uj:=sH.trans s4;obtain⟨F4,ed⟩:=yi.step (λr hr=>(zA6.mp hr).elim (jI r) (F3 r)) (by show _<=cap ps ow i+(80+_);rw[zA2];lia) (by rw[hX i hi];lia) gv (c.getD i 0+dn X i-bf GG);have l3:=Zah (EY ps ow (show i+1<=3 from hi)) (uG ps ow);have gl:=Zah F4.gl l3;have kl:=Zah F4.kl l3;have g4:∀r∈GG,r.length=4:=λr hr=>(F4.g r (zB3 _ hr)).l;rw[zA2]at gl kl;rw[<-ed]at Pm;have yl:=yi.ll;clear gv yi F3 jI;dsimp only;refine aC (aP ?_);refine⟨_,rfl,_,rfl,g,nI,GG,rfl,Pn,yB,g4,z00,λH5 s5=>⟨_,_,rfl,rfl,?_⟩⟩;refine aJ ?_;dsimp only;have k5:=k4.trans s5;have D9:=Uj.trans s5;have Y5:g≠lg:=(aD (sH _ _ eg) ng).symm;have Uk:kk≠lg:=(aD (sH _ _ eg) nk).symm;have Po:=D9 _ _ eg;have Ul:=D9 _ _ ek;have el5:=D9 _ _ el;refine aC ?_;refine⟨_,rfl,_,rfl,lg,g,xg,nI,rfl,rfl,Po,s5 _ _ Pn,by rw[rk.1,yB.1,sizeLine_eq];lia,?_⟩;dsimp only
  have L7:∀b z,H5 b=some (.tup z)->upd H5 lg (.lst (xg++nI)) b=some (.tup z):=λb z e=>by
   rw[aA λw=>by rw[w,Po]at e;cases e];exact e
  have k6:Same H (upd H5 lg (.lst (xg++nI))):=λb o e=>by
   rw[aA (aD e Ub)];exact k5 _ _ e
  have Pp:=aa (H:=H5) (a:=lg) (o:=.lst (xg++nI));have Ee:=((rk.same D9).app (yB.same s5)).keep L7;have L8:upd H5 lg (.lst (xg++nI)) lk=some (.lst xk):=by rw[aA Ph.symm];exact Ul
  have EA:upd H5 lg (.lst (xg++nI)) kk=some (.lst rX):=by rw[aA Uk];exact s5 _ _ Ui
  have Pq:upd H5 lg (.lst (xg++nI)) ll=some (.lst (L.map V.int)):=by rw[aA Pk.symm];exact el5
  have EB:=(gy.same D9).keep L7;have tI:=(D8.same s5).keep L7;generalize upd H5 lg (.lst (xg++nI))=H6 at k6 Pp Ee L8 EA Pq EB tI⊢;refine aC ?_;refine⟨_,rfl,_,rfl,lk,kk,xk,rX,rfl,rfl,L8,EA,by rw[gy.1,D8.1,sizeLine_eq];lia,?_⟩;dsimp only
  have Pr:∀b z,H6 b=some (.tup z)->upd H6 lk (.lst (xk++rX)) b=some (.tup z):=λb z e=>by
   rw[aA λw=>by rw[w,L8]at e;cases e];exact e
  have k7:Same H (upd H6 lk (.lst (xk++rX))):=λb o e=>by
   rw[aA (aD e Uc)];exact k6 _ _ e
  have Pt:upd H6 lk (.lst (xk++rX)) lg=some (.lst (xg++nI)):=by rw[aA Ph];exact Pp
  have EC:=Ee.keep Pr;have Pu:=aa (H:=H6) (a:=lk) (o:=.lst (xk++rX));have ED:=(EB.app tI).keep Pr;have AI:upd H6 lk (.lst (xk++rX)) ll=some (.lst (L.map V.int)):=by rw[aA Pj.symm];exact Pq
  generalize upd H6 lk (.lst (xk++rX))=H7 at k7 Pt EC Pu ED AI⊢;refine⟨_,rfl,.inl ⟨rfl,_,SqL.of AI⟩,_,rfl,ll,_,_,rfl,rfl,AI,by rw[zA1,yl,sizeLine_eq];lia,?_⟩
  have Pw:∀{o:HO} b z,H7 b=some (.tup z)->upd H7 ll o b=some (.tup z):=λb z e=>by
   rw[aA λw=>by rw[w,AI]at e;cases e];exact e
  refine Pm _ _ ⟨_,_,_,_,_,_,xg++nI,xk++rX,_,_,_,rfl,λb o e=>?_,?_,EC.keep Pw,?_,ED.keep Pw,?_,F4⟩
  .rw[aA (aD e LY)];exact k7 _ _ e
  .rw[aA Pk];exact Pt
  .rw[aA Pj];exact Pu
  .rw[aa,zA4];rfl
 .rintro σ Hc ⟨fe,fv,fw,fx,fy,fE,xg,xk,G,KK,L,rfl,k,eg,rk,ek,gy,el,yi⟩;obtain⟨ag,Um,Px,Py⟩:=uH rk;obtain⟨ak,Uo,IS,Pz⟩:=uH gy;subst Um Uo;dsimp only
  have nn:∀{rs:PK} {ads:List Addr},rs=ads.map (qH Hc)->(∀r∈rs,okO ps r)->∀a∈ads,qH Hc a≠[]:=λ{rs ads} h h4 a ha z=>by
   have:=(h4 (qH Hc a) (by rw[h];exact List.mem_map_of_mem ha)).l;rw[z]at this;cases this
  refine⟨_,rfl,lg,ag,qH Hc,rfl,SqL.of eg,λa ha=>⟨SqT.of (Py a ha),nn Px yi.g a ha⟩,λg l1 hg L9 Mb=>?_⟩;have sg:=Same.upd (o:=.lst (l1.map V.ref)) hg;refine⟨_,rfl,lk,ak,qH Hc,rfl,SqL.of (sg _ _ ek),λa ha=>⟨SqT.of (sg _ _ (Pz a ha)),nn IS yi.k a ha⟩,λkk l2 hk PB Mc=>?_⟩;have sk:=sg.updR (o:=.lst (l2.map V.ref)) hk;refine⟨_,rfl,ll,_,rfl,.inl ⟨SqL.of (sk _ _ el),λtl PD=>?_⟩⟩;have sl:=sk.updR (o:=.tup (L.map V.int)) PD;refine⟨zL,λt ht=>?_⟩;have st:=sl.updR (o:=.tup [.ref g,.ref kk,.ref tl]) ht;have u1:=Same.upd (o:=.lst (l2.map V.ref)) hk;have u2:=Same.upd (o:=.tup (L.map V.int)) PD;have u3:=Same.upd (o:=.tup [.ref g,.ref kk,.ref tl]) ht;refine q t g kk tl _ _ _ _ _ _ (k.trans st) aa (k.free hg) (k.free (sg.free hk)) ⟨L9,PB⟩ (u3 _ _ (u2 _ _ (u1 _ _ aa))) (Fb λa ha=>st _ _ (Py a (Mb.mem_iff.mp ha))) (u3 _ _ (u2 _ _ aa)) (Fb λa ha=>st _ _ (Pz a (Mc.mem_iff.mp ha))) (yi.perm ?_ ?_) (u3 _ _ aa)
  .rw[Px];exact Mb.map _
  .rw[IS];exact Mc.map _
def YAt(H0:Hp)(l:Addr)(cs ps ss:PK)(H:Hp)(a:Addr)(j:Nat):Prop:=∃g k tl xg xk G K L,H a=some (.tup [.ref g,.ref k,.ref tl])/\H0 g=none/\H0 k=none/\g≠l/\k≠l/\H g=some (.lst xg)/\Els H xg G/\H k=some (.lst xk)/\Els H xk K/\H tl=some (.tup ((L:UV).map V.int))/\(g≠sysModules/\k≠sysModules)/\(∀r∈G,okO ps r)/\G.length<=240*(j+1)/\OwOk cs ps ss (j+1) K/\L.length=3
theorem YAt.keep(h:YAt H0 l cs ps ss H a j)(k:∀b o,b≠l->H b=some o->H' b=some o)(hl:∃xs,H l=some (.lst xs)):YAt H0 l cs ps ss H' a j:=by
 obtain⟨xs,hl⟩:=hl;obtain⟨g,kk,tl,xg,xk,G,K,L,e1,n1,n2,d1,d2,e2,e3,e4,e5,e6,e7⟩:=h
 have nt:∀b z,H b=some (.tup z)->b≠l:=λb z e w=>by rw[w,hl]at e;cases e
 exact⟨g,kk,tl,xg,xk,G,K,L,k _ _ (nt _ _ e1) e1,n1,n2,d1,d2,k _ _ d1 e2,e3.keep λb z e=>k _ _ (nt _ _ e) e,k _ _ d2 e4,e5.keep λb z e=>k _ _ (nt _ _ e) e,k _ _ (nt _ _ e6) e6,e7⟩
inductive SpYearsI(vs:List V)(H:Hp)(Q:VK):Prop
 |mk:∀bk y ac xc cs ap xp ps af xs ss,(vs=[.ref bk,.int y])->(H bk=some (.tup [.ref ac,.ref ap,.ref af]))->(RowsAt H ac xc cs)->((∀r∈cs,r.length=3/\∀x∈r,0<=x))->(cs.length<=20)->(0<=y)->(y<cs.length)->(RowsAt H ap xp ps)->(ps.length<=10)->((∀r∈ps,okP r))->(RowsAt H af xs ss)->(ss.length<=12)->((∀s∈ss,s.length=5))->(un ps ss=none)->(∀l (ts:List Addr) H',Same H H'->H l=none->H' l=some (.lst (ts.map V.ref))->(ts.length:Int)=y+1->(∀j a,ts[j]?=some a->YAt H l cs ps ss H' a j)->Q (.ref l) H')->SpYearsI  vs H Q
def uI:Sp:=λvs H Q _=>SpYearsI  vs H Q
theorem scYB:FnScope ["book","year","years","owed","at","gifts","left"] ["book","year"] (az (top 60)):=fQS
theorem Fe(F:Fun K "years_given" "years_given" (top 60) f fd)(Tr:mg "range"=none)(c1:Cal P w K mg base 9 "year_given" ["book","year","owed"] Fd):FnOk P w K mg base CX0 10 f fd ["book","year"] uI:=by
 refine F.oq scYB λcdv A outer s H vs Q E hr h=>?_;obtain⟨bk,y,ac,xc,cs,ap,xp,ps,af,xs,ss,rfl,eb,rc,okc,lc,y0,y1,rp,lp,okp,rs,ls,h5,hu,q⟩:=h
 refine⟨_,aB (pss 2 scYB.nd (dJ aj))
  (aB (pss 3 scYB.nd (dJ aj))
  (aB (cG zB7 rfl (cY rfl Tr (aq (aO bT (pv 1) au) aj)) (pgn 4 scYB.nd)
   (aB (cN (aG c1 hr (aq (pv 0) (aq (pv 4) (aq (pv 3) aj)))) (bQ rfl (ao (pgn 5 scYB.nd) (ao (pgn 3 scYB.nd) (ao (pgn 6 scYB.nd) aV)))))
   (aF (cA (pI zBb zBd zBc iM (pv 2) (aq (bA (aq (pv 5) (aq (pv 3) (aq (pv 6) aj)))) aj))))))
  (aF (aN (pv 2))))),?_⟩
 refine aC (aP ?_);refine⟨zL,λl hl=>?_⟩;refine aJ ?_;dsimp only;refine aC (aP ?_);refine⟨zL,λMd mf=>?_⟩;refine aJ ?_;dsimp only;have s1:=Same.upd (o:=.lst []) hl;have s2:=Same.upd (o:=.lst []) mf
 have Up:Md≠l:=λz=>by rw[z,aa]at mf;cases mf
 refine gen_ts (λH1=>Same H H1/\H1 l=some (.lst [])/\H1 Md=some (.lst [])) ⟨s1.trans s2,s2 _ _ aa,aa⟩ λH1=>?_;rintro⟨k1,el1,Uq⟩;refine aC ?_;refine⟨_,rfl,_,_,rfl,rfl,y+1,rfl,z00,z00,?_⟩;refine eQ (lo:=0) (λi σ Hc=>∃x4 x5 x6 lo xo ow,∃ts:List Addr,σ=[some (.ref bk),some (.int y),some (.ref l),some (.ref lo),x4,x5,x6]/\Same H Hc/\Hc l=some (.lst (ts.map V.ref))/\ts.length=i/\(∀j a,ts[j]?=some a->YAt H l cs ps ss Hc a j)/\lo≠l/\Hc lo=some (.lst xo)/\Els Hc xo ow/\OwOk cs ps ss i ow) ?_ ?_ ?_
 .exact⟨none,none,none,Md,[],[],[],rfl,k1,el1,rfl,λj a e=>(by simp at e),Up,Uq,Els.nil,⟨λ_ h=>(nomatch h),λ_ _=>rfl,zA3 _⟩⟩
 .rintro i σ Hc hi ⟨x4,x5,x6,lo,xo,ow,ts,rfl,k,el,lt,hy,dl,eo,rg,rV⟩;have Y6:=rV.len;refine aJ ?_;have z0:(0:Int)+(i:Int)=i:=z00
  rw[z0];refine aC ?_;refine⟨_,rfl,_,rfl,_,rfl,bk,i,lo,ac,xc,cs,ap,xp,ps,af,xs,ss,xo,ow,rfl,k _ _ eb,rc.same k,okc,z00,z00,rp.same k,lp,okp,rs.same k,ls,h5,hu,eo,rg,rV,z00,λt g kk tl xg xk G KK L H2 s2 et ng nk L9 eg rk gk gl ek gy vt l3 Ur=>?_⟩;rw[zAi]at vt gl;refine⟨t,_,rfl,SqT.of et,rfl,_,_,rfl,_,_,rfl,_,_,rfl,rfl,?_⟩;dsimp only;have k2:=k.trans s2;have el2:=s2 _ _ el;have dg:g≠l:=(aD el ng).symm;have dk:kk≠l:=(aD el nk).symm;refine⟨_,rfl,.inl ⟨rfl,_,SqL.of el2⟩,_,rfl,_,rfl,_,rfl,zL,λtt F5=>⟨l,_,_,rfl,rfl,Same.upd F5 _ _ el2,by rw[zA1,lt,sizeLine_eq];lia,?_⟩⟩;have s3:=Same.upd (o:=.tup [.ref g,.ref kk,.ref tl]) F5
  have nt:tt≠l:=λz=>by rw[z,el2]at F5;cases F5
  have kp:∀{o:HO} b u,b≠l->H2 b=some u->upd (upd H2 tt (.tup [.ref g,.ref kk,.ref tl])) l o b=some u:=λb u n e=>by
   rw[aA n];exact s3 _ _ e
  have ke:∀{o:HO} b z,H2 b=some (.tup z)->upd (upd H2 tt (.tup [.ref g,.ref kk,.ref tl])) l o b=some (.tup z):=λb z e=>kp b _ (λw=>by rw[w,el2]at e;cases e) e;refine⟨_,_,_,kk,xk,_,ts++[tt],rfl,λb o e=>?_,?_,by rw[zA2,lt];rfl,λj a e=>?_,dk,kp _ _ dk ek,gy.keep ke,vt⟩
  .exact kp _ _ (aD e hl) (k2 _ _ e)
  .rw[aa,zA4];rfl
  .by_cases hj:j<ts.length
   .rw[zBa hj]at e;exact(hy j a e).keep (λb o n z=>kp _ _ n (s2 _ _ z)) ⟨_,el⟩
   .have FV:j=i:=by
     have:=(zAa.mp e).1;rw[zA2]at this;simp at this;lia
    subst FV;rw[zB9 z00,lt,Nat.sub_self]at e;cases e;exact⟨g,kk,tl,xg,xk,_,_,_,by rw[aA nt];exact aa,k.free ng,k.free nk,dg,dk,kp _ _ dg eg,rk.keep ke,kp _ _ dk ek,gy.keep ke,ke _ _ Ur,L9,gk,gl,vt,l3⟩
 .rintro σ Hc ⟨x4,x5,x6,lo,xo,ow,ts,rfl,k,el,lt,hy,dl,eo,rg,rV⟩;exact⟨_,rfl,q l ts Hc k hl el (by rw[lt];lia) hy⟩
theorem yh(h:gG d=true):d=fG (rowsOf d)/\(rowsOf d).length<=20/\∀r∈rowsOf d,r.length=3/\∀x∈r,0<=x:=by
 unfold gG at h;rw[zAc]at h;obtain⟨ds,rfl,_,hl⟩:=iW h.1;have h2:∀x∈ds,ie x=true:=Zae.mp h.2
 have h3:∀x∈ds,bF x 3=true:=λx hx=>by
  have:=h2 x hx;unfold ie at this;rw[zAc]at this;exact this.1
 refine⟨congrArg PyData.tuple (oZ (n:=3) h3),by show(ds.map _).length<=20;rw[zA1];lia,λr hr=>?_⟩;obtain⟨x,hx,rfl⟩:=zA5.mp hr;refine⟨(ig (n:=3) (h3 x hx)).2,λz hz=>?_⟩;obtain⟨u,hu,rfl⟩:=zA5.mp hz;have:=h2 x hx;unfold ie at this;rw[zAc]at this;have:=Zae.mp this.2 u hu;simp only[Bool.and_eq_true,z08]at this;exact this.1
theorem yj(h:cQ d=true):∃d0 d1 d2,d=.tuple [d0,d1,d2]/\gG d0=true/\eG d1=true/\fJ d2=true/\un (rowsOf d1) (rowsOf d2)=none:=by
 unfold cQ at h;rw[zAc,zAc,zAc,zAc]at h;obtain⟨h0,h1,h2,h3,h4⟩:=h;obtain⟨ds,rfl,l1,l2⟩:=iW h0
 match ds,l1,l2,h1,h2,h3,h4 with
 |[d0,d1,d2],_,_,h1,h2,h3,h4=>exact⟨d0,d1,d2,rfl,h1,h2,h3,by
   have h4:(un (rowsOf d1) (rowsOf d2)).isNone=true:=h4
   cases z:un (rowsOf d1) (rowsOf d2)with
   |none=>rfl
   |some i=>rw[z]at h4;cases h4⟩
 |[],l1,_,_,_,_,_=>simp at l1
 |[_],l1,_,_,_,_,_=>simp at l1
 |[_,_],l1,_,_,_,_,_=>simp at l1
 |_::_::_::_::_,_,l2,_,_,_,_=>simp at l2;lia
inductive SpRefBI(vs:List V)(H:Hp)(Q:VK):Prop
 |mk:∀S v d,(vs=[v])->(IsTh S H v d)->(sz d<=4000)->(cQ d=true)->(∀H',Same H H'->Q .non H')->SpRefBI  vs H Q
def ym:Sp:=λvs H Q _=>SpRefBI  vs H Q
inductive SpRefYI(vs:List V)(H:Hp)(Q:VK):Prop
 |mk:∀ac xc cs y,(vs=[.ref ac,.int y])->(RowsAt H ac xc cs)->(0<=y)->(y<cs.length)->(∀H',Same H H'->Q .non H')->SpRefYI  vs H Q
def Ff:Sp:=λvs H Q _=>SpRefYI  vs H Q
theorem Nb:FnScope ["thing","least","most"] ["thing","least","most"] (az (top 21)):=fQS
theorem rB(F:Fun K "is_whole_from" "is_whole_from" (top 21) f fd)(c1:Cal P w K mg base 1 "is_whole" ["thing"] (spT bD)):FnOk P w K mg base CX0 2 f fd ["thing","least","most"] (jP dN):=by
 refine F.oq Nb λcdv A outer s H vs Q E hr h=>?_;obtain⟨S,v,d,n,m,rfl,th,hz,q⟩:=h;refine⟨_,aF (aN (cF (aG c1 hr (aM (pv 0) aj)) (eV (cW cD cD (pv 1) (pv 0) (pv 2))))),?_⟩;refine⟨_,rfl,S,v,d,rfl,th,hz,λH1 s1=>⟨_,rfl,?_⟩⟩;have fin:=q H1 s1;unfold dN at fin
 cases e:bD d with
 |false=>
  rw[e]at fin;exact aX fin
 |true=>
  rw[e]at fin;obtain⟨i,rfl,rfl⟩:=nQ th e;exact bh (cO (fO rfl) (fO rfl) (fO rfl) _ fin)
theorem Ja:FnScope ["thing"] ["thing"] (az (top 44)):=fQS
theorem HJ(F:Fun K "refuse_no_book" "refuse_no_book" (top 44) f fd)(c1:Cal P w K mg base 6 "is_book" ["thing"] (spT cQ)):FnOk P w K mg base CX0 7 f fd ["thing"] ym:=by
 refine F.oq Ja λcdv A outer s H vs Q E hr h=>?_;obtain⟨S,v,d,rfl,th,hz,hb,q⟩:=h;refine⟨_,aF (bR (cg (bL (aG c1 hr (aM (pv 0) aj)))) (aF dO) aY),?_⟩;refine⟨_,rfl,S,v,d,rfl,th,hz,λH1 s1=>⟨_,rfl,?_⟩⟩;rw[hb];exact aX (q _ s1)
theorem Jb:FnScope ["clips","year"] ["clips","year"] (az (top 61)):=fQS
theorem HN(F:Fun K "refuse_no_year_of" "refuse_no_year_of" (top 61) f fd)(T:Mg mg)(c1:Cal P w K mg base 2 "is_whole_from" ["thing","least","most"] (jP dN)):FnOk P w K mg base CX0 3 f fd ["clips","year"] Ff:=by
 refine F.oq Jb λcdv A outer s H vs Q E hr h=>?_;obtain⟨ac,xc,cs,y,rfl,rc,y0,y1,q⟩:=h;refine⟨_,aF (bR (cg (bL (aG c1 hr (aq (pv 1) (aq au (aq (aO dY (aK aZ rfl T.len PySem.boot_len (aq (pv 0) aj)) au) aj)))))) (aF dO) aY),?_⟩;refine⟨_,rfl,_,rfl,ac,_,rfl,.inr (SqT.of rc.e),_,_,rfl,rfl,λ_=>False,.int y,.int y,0,_,rfl,.int _,(by show 1<=4000;decide),λH1 s1=>⟨_,rfl,?_⟩⟩
 have e:dN (.int y) 0 ((xc.length:Int)-1)=true:=by
  show(true&&(decide (0<=y)&&decide (y<=(xc.length:Int)-1)))=true;rw[zAu y0,zAu (by rw[rc.l];lia)];rfl
 rw[e];exact aX (q _ s1)
structure BookAt(H:Hp)(bk ac:Addr)(xc:List V)(cs:PK)(ap:Addr)(xp:List V)(ps:PK)(af:Addr)(xs:List V)(ss:PK):Prop where
 e:H bk=some (.tup [.ref ac,.ref ap,.ref af])
 rc:RowsAt H ac xc cs
 okc:∀r∈cs,r.length=3/\∀x∈r,0<=x
 lc:cs.length<=20
 rp:RowsAt H ap xp ps
 lp:ps.length<=10
 okp:∀r∈ps,okP r
 rs:RowsAt H af xs ss
 ls:ss.length<=12
 h5:∀s∈ss,s.length=5
 un:un ps ss=none
theorem BookAt.same(b:BookAt H bk ac xc cs ap xp ps af xs ss)(s:Same H H'):BookAt H' bk ac xc cs ap xp ps af xs ss:=
 ⟨s _ _ b.e,b.rc.same s,b.okc,b.lc,b.rp.same s,b.lp,b.okp,b.rs.same s,b.ls,b.h5,b.un⟩
theorem p8(t:IsTh S H v d)(h:cQ d=true):∃bk ac xc cs ap xp ps af xs ss,v=.ref bk/\d=.tuple [fG cs,fG ps,fG ss]/\BookAt H bk ac xc cs ap xp ps af xs ss:=by
 obtain⟨d0,d1,d2,rfl,b0,b1,b2,b3⟩:=yj h;obtain⟨ec,lc,okc⟩:=yh b0;obtain⟨ep,lp,okp⟩:=kZ b1;obtain⟨es,ls,ej⟩:=lq b2
 cases t with
 |@tup a xs _ ea r=>
  obtain⟨v0,v1,v2,Y7,Y8,Y9,rfl,ee,h0,h1,h2⟩:=nR r rfl;cases ee;rw[ec]at h0;rw[ep]at h1;rw[es]at h2;obtain⟨ac,xc,rfl,rc⟩:=th_rows h0;obtain⟨ap,xp,rfl,rp⟩:=th_rows h1;obtain⟨af,xs,rfl,rs⟩:=th_rows h2;exact⟨a,ac,xc,rowsOf d0,ap,xp,rowsOf d1,af,xs,rowsOf d2,rfl,by rw[<-ec,<-ep,<-es],⟨ea,rc,okc,lc,rp,lp,okp,rs,ls,ej,b3⟩⟩
def wH(R:PK->PK->PK->Int->VK->Hp->Prop):Sp:=λvs H Q _=>∃S bk y d ac xc cs ap xp ps af xs ss,vs=[.ref bk,.int y]/\IsTh S H (.ref bk) d/\sz d<=4000/\cQ d=true/\BookAt H bk ac xc cs ap xp ps af xs ss/\0<=y/\y<cs.length/\R cs ps ss y Q H
def HQ:PK->PK->PK->Int->VK->Hp->Prop:=λ_ _ _ _ Q H=>∀H',Same H H'->Q .non H'
def anyR:VK->Hp->Prop:=λQ H=>∀v' H',Same H H'->Q v' H'
def HR:PK->PK->PK->Int->VK->Hp->Prop:=λ_ _ _ _=>anyR
theorem Jc:FnScope ["book","year"] ["book","year"] (az (top 62)):=fQS
theorem Fg(F:Fun K "refuse_no_year" "refuse_no_year" (top 62) f fd)(c1:Cal P w K mg base 7 "refuse_no_book" ["thing"] ym)(c2:Cal P w K mg base 3 "refuse_no_year_of" ["clips","year"] Ff):FnOk P w K mg base CX0 8 f fd ["book","year"] (wH HQ):=by
 refine F.oq Jc λcdv A outer s H vs Q E hr h=>?_;obtain⟨S,bk,y,d,ac,xc,cs,ap,xp,ps,af,xs,ss,rfl,th,hz,hb,B,y0,y1,q⟩:=h;refine⟨_,aB (cA (aG c1 hr (aq (pv 0) aj))) (aF (cA (aG c2 hr (aq (pX bj (pv 0) au) (aq (pv 1) aj))))),?_⟩;refine aC ?_;refine⟨_,rfl,S,_,d,rfl,th,hz,hb,λH1 s1=>?_⟩;dsimp only;have B1:=B.same s1;exact⟨_,rfl,bk,_,0,.ref ac,rfl,rfl,SqT.of B1.e,rfl,_,rfl,ac,xc,cs,y,rfl,B1.rc,y0,y1,λH2 s2=>q _ (s1.trans s2)⟩
def sX:PK->PK->PK->Int->VK->Hp->Prop:=λcs ps ss y Q H=>∀k xk R H',Same H H'->H k=none->k≠sysModules->H' k=some (.lst xk)->Els H' xk R->OwOk cs ps ss (y.toNat+1) R->Q (.ref k) H'
def BV(R:PK->PK->PK->Int->VK->Hp->Prop):Sp:=λvs H Q _=>∃bk y ac xc cs ap xp ps af xs ss,vs=[.ref bk,.int y]/\BookAt H bk ac xc cs ap xp ps af xs ss/\0<=y/\y<cs.length/\R cs ps ss y Q H
theorem scYF1:FnScope ["book","year","gifts","owed","left"] ["book","year"] (az (top 64)):=fQS
theorem Fi(F:Fun K "owed_behind" "owed_behind" (top 64) f fd)(c2:Cal P w K mg base 10 "years_given" ["book","year"] uI):FnOk P w K mg base CX0 11 f fd ["book","year"] (BV sX):=by
 refine F.oq scYF1 λcdv A outer s H vs Q E hr h=>?_;obtain⟨bk,y,ac,xc,cs,ap,xp,ps,af,xs,ss,rfl,B,y0,y1,q⟩:=h
 refine⟨_,aB (cN (pX bM (aG c2 hr (aq (pv 0) (aq (pv 1) aj))) (pv 1)) (bQ rfl (ao (pgn 2 scYF1.nd) (ao (pgn 3 scYF1.nd) (ao (pgn 4 scYF1.nd) aV)))))
  (aF (aN (pv 3))),?_⟩
 refine aC ?_;refine⟨_,rfl,_,rfl,bk,y,ac,xc,cs,ap,xp,ps,af,xs,ss,rfl,B.e,B.rc,B.okc,B.lc,y0,y1,B.rp,B.lp,B.okp,B.rs,B.ls,B.h5,B.un,λl ts H2 s2 nl el lt hy=>?_⟩;have hl:y.toNat<ts.length:=z00
 obtain⟨g,k,tl,xg,xk,G,R,L,e1,n1,n2,d1,d2,e2,e3,e4,e5,e6,e7,_,_,ow,_⟩:=hy y.toNat ts[y.toNat] (zA0 hl)
 have hJ:atI (ts.map V.ref) y=some (.ref ts[y.toNat]):=by
  have:(ts.map V.ref)[y.toNat]?=some (.ref ts[y.toNat]):=by rw[zAb,zA0 hl];rfl
  have:=dD this;rw[show((y.toNat:Nat):Int)=y by lia]at this;exact this
 refine⟨_,rfl,l,_,y,.ref ts[y.toNat],rfl,rfl,SqL.of el,hJ,ts[y.toNat],_,rfl,SqT.of e1,rfl,_,_,rfl,_,_,rfl,_,_,rfl,rfl,?_⟩;dsimp only;exact⟨_,rfl,q k xk R H2 s2 n2 e7.2 e4 e5 ow⟩
theorem Jd:FnScope ["book","year"] ["book","year"] (az (top 67)):=fQS
theorem HS(F:Fun K "owed_by" "owed_by" (top 67) f fd)(c1:Cal P w K mg base 8 "refuse_no_year" ["book","year"] (wH HQ))(c2:Cal P w K mg base 11 "owed_behind" ["book","year"] (BV sX)):FnOk P w K mg base CX0 12 f fd ["book","year"] (wH sX):=by
 refine F.oq Jd λcdv A outer s H vs Q E hr h=>?_;obtain⟨S,bk,y,d,ac,xc,cs,ap,xp,ps,af,xs,ss,rfl,th,hz,hb,B,y0,y1,q⟩:=h;refine⟨_,aB (cA (aG c1 hr (aq (pv 0) (aq (pv 1) aj)))) (aF (aN (aG c2 hr (aq (pv 0) (aq (pv 1) aj))))),?_⟩;refine aC ?_;refine⟨_,rfl,_,rfl,S,bk,y,d,ac,xc,cs,ap,xp,ps,af,xs,ss,rfl,th,hz,hb,B,y0,y1,λH1 s1=>?_⟩;dsimp only;exact⟨_,rfl,_,rfl,bk,y,ac,xc,cs,ap,xp,ps,af,xs,ss,rfl,B.same s1,y0,y1,λk xk R H2 s2 n ns e1 e2 ow=>q k xk R H2 (s1.trans s2) (s1.free n) ns e1 e2 ow⟩
def oR(P:Program)(w:World)(K:Frag)(mg:Str->Option Value)(base:Heap)(k:Nat)(x:Str)(ps:List Str)(sp:Sp):Prop:=
 ∃f fd,FnOk P w K mg base (CX1 P w) k f fd ps sp/\mg x=some (.ref f)/\PySem.W.keepIn K (.ref f)=true/\Binds K fd ps []
theorem gf{p pos:Pos}(c:oR X.prog X.w X.K X.mg X.base j x ps sp)(hr:Room k X.A)(hjk:j<=k)(hg:Gl X x)(W:vQ X λa C H=>E (.ref a) (some C) H)(hx:X.ex=[])(ha:PA X (e::es) t)
  (eC:(x==("__debug__":Str))=false:=by decide) (he:starEach (e::es) X.env=(false,eval e X.env)::starEach es X.env:=by rfl) (dP:(backTo pos (starEach es X.env)).any (·.1)=false:=by rfl):
  PE X (.Call (.Name x p) (e::es) [] pos) (uZ sp [] E t):=by
 obtain⟨f,fd,F,m,k',b⟩:=c;exact yu F (hr.mono hjk) hg m k' b .nil (J7 W hx) ha eC he dP
abbrev VE:List Value:=[.type "ValueError",.type "Exception",.type "BaseException",.type "object"]
def words:List Str:=["clips","promises","sales","book","number","year","weights","paper","growth","promise","sort","clip","sale","deed","text","line"]
theorem cJ(h:te σ H λx H1=>tr σ H1 λxs H2=>Q (x::xs) H2):bU te tr σ H Q:=h
theorem Fj:PE X e (λ_ _ _=>False):=λ_ _ _ _ _ _ h=>h.elim
structure PTB(X:Cx)(e:Expr)(t:TT):Prop where
 run:PT X e t
section
theorem Fl{j}(hl:BE X (.Name y q') tl)(hline:(p.endLine==pos.line)=true:=by rfl):BE X (.Call (.Attribute (.Name y q') "count" p) [.Constant (.bool k) j q] [] pos) (tBM X.K "list" uh tl (bU (tC (.bl k)) gW)):=⟨pI zBb PySem.F.slot_list_count PySem.F.type_list_count Bo hl.run (aq iD aj) (hline:=hline)⟩
theorem Fo{j}(hl:BE X (.Name y q') tl)(hline:(p.endLine==pos.line)=true:=by rfl):BE X (.Call (.Attribute (.Name y q') "index" p) [.Constant (.bool k) j q] [] pos) (tBM X.K "list" ul tl (bU (tC (.bl k)) gW)):=⟨pI zBb PySem.F.slot_list_index PySem.F.type_list_index Bp hl.run (aq iD aj) (hline:=hline)⟩
theorem Kp(h:BE X (.Subscript a b p) ta):PTB X (.Subscript a b p) (tB ta):=⟨bL h.run⟩
theorem HW{es ks}(h:BE X (.Call a es ks p) ta):PTB X (.Call a es ks p) (tB ta):=⟨bL h.run⟩
theorem Kq(h:PTB X a t):PTB X (.UnaryOp .Not a pos) (KJ t):=⟨cg h.run⟩
theorem Kr(ha:PTB X a t)(hb:PTB X b u):PTB X (.BoolOp .Or [a,b] pos) (tOr t u):=⟨PW.pt (iG ha.run (j7 hb.run))⟩
theorem Nf{j}(ha:BE X a ta):PTB X (.Compare a [.NotEq] [.Constant (.int i) j q] pos) (pC (tOp rNe ta (tC (.int i)))):=⟨aW lB ha.run au (aU _)⟩
theorem bs_if(hc:PTB X c t)(hx:BSs X x v)(hy:BSs X y z):BS X (.If c x y pos) (KY t v z):=⟨bR hc.run hx.run hy.run⟩
theorem bss_nil:BSs X [] Ck:=⟨aY⟩
end
structure Clss(mg:Str->Option Value)(Cs:Nat->Addr):Prop where
 n0:mg "NoClips"=some (.ref (Cs 0))
 n1:mg "NoPromises"=some (.ref (Cs 1))
 n2:mg "NoSales"=some (.ref (Cs 2))
 n3:mg "NoBook"=some (.ref (Cs 3))
 n4:mg "NoNumber"=some (.ref (Cs 4))
 n5:mg "NoYear"=some (.ref (Cs 5))
 n6:mg "NoWeights"=some (.ref (Cs 6))
 n7:mg "NoPaper"=some (.ref (Cs 7))
 n8:mg "NoGrowth"=some (.ref (Cs 8))
 n9:mg "NoPromise"=some (.ref (Cs 9))
 n10:mg "NoSort"=some (.ref (Cs 10))
 n11:mg "NoClip"=some (.ref (Cs 11))
 n12:mg "NoSale"=some (.ref (Cs 12))
 n13:mg "NoDeed"=some (.ref (Cs 13))
 n14:mg "NoText"=some (.ref (Cs 14))
 n15:mg "NoLine"=some (.ref (Cs 15))
 n16:mg "TooMany"=some (.ref (Cs 16))
 wool:mg "WoolError"=some (.ref (Cs 17))
structure Kind(K:Frag)(Cs:Nat->Addr)(j:Nat):Prop where
 lt:j<16
 ex:ExcC K (Cs j)
 ca:CatchC K (Cs j) (Cs 17)
 on:∀i,i<17->PySem.W.kitOne K (.ref (Cs j)) (.ref (Cs i))=some (decide (i=j))
 ve:PySem.W.kitOne K (.ref (Cs j)) (.type "ValueError")=some true
def marks(j:Nat):List Bool:=(List.range 17).map λi=>decide (i=j)
theorem wI:∀j,j<17->(marks j).count true=1:=by decide +kernel
theorem Fp(h:j<17):(marks j)[j]?=some true:=by
 unfold marks;rw[zAb,List.getElem?_range h];simp
theorem Fq(h:i<j):(marks j)[i]?≠some true:=by
 unfold marks;rw[zAb];by_cases hi:i<17
 .rw[List.getElem?_range hi];simp;lia
 .rw[Zay (by simp;lia)];simp
theorem HX:bootBuiltins "ValueError"=some (.type "ValueError"):=by decide +kernel
theorem Ft{j:Nat}(h:j<16):atI (words.map V.str) (j:Int)=some (.str (words.getD j "")):=by
 have hl:words.length=16:=rfl
 have:words[j]?=some (words.getD j ""):=by
  rw[zA7,zA0 z00];rfl
 refine dD ?_;rw[zAb,this];rfl
theorem dw{p q r pos:Pos}(hN:X.N[i]?=some y)(hv:Vis X.env.scope y)(hI:Gl X "isinstance")(mI:X.mg "isinstance"=none)(hg:Gl X x)(hm:X.mg x=some (.ref D))(hd:(y==("__debug__":Str))=false:=by decide)(eB:(y==("__classdict__":Str))=false:=by decide)(hd2:(x==("__debug__":Str))=false:=by decide):
  BE X (.Call (.Name "isinstance" p) [.Name y q,.Name x r] [] pos) (tCB (λxs H Q=>∃a C c b,xs=[.ref a,c]/\H a=some (.ext (excAt a C))/\ExcC X.K C/\((∃D,c=.ref D/\PySem.W.kitOne X.K (.ref C) (.ref D)=some b)\/∃n,c=.ty n/\PySem.W.kitOne X.K (.ref C) (.type n)=some b)/\Q (.bl b) H) (bU (iz i) (bU (tC (.ref D)) gW))):=
 ⟨aK lW hI mI boot_isinstance (aq (wW hN hv hd eB) (aq (bO (v:=.ref D) hg hm rfl hd2) aj))⟩
theorem dB(Z:Kind K Cs j)(hi:i<17)(e:H a=some (.ext (excAt a (Cs j))))(fR:σ[0]?=some (some (.ref a)))(h:Q (.bl (decide (i=j))) H):
  tCB (λxs H Q=>∃a C c b,xs=[.ref a,c]/\H a=some (.ext (excAt a C))/\ExcC K C/\((∃D,c=.ref D/\PySem.W.kitOne K (.ref C) (.ref D)=some b)\/∃n,c=.ty n/\PySem.W.kitOne K (.ref C) (.type n)=some b)/\Q (.bl b) H) (bU (iz 0) (bU (tC (.ref (Cs i))) gW)) σ H Q:=
 ⟨_,fR,a,Cs j,.ref (Cs i),_,rfl,e,Z.ex,.inl ⟨_,rfl,Z.on i hi⟩,h⟩
def toE(EX:Addr->Addr->Hp->Prop):XK:=λe C H=>match e,C with
 |.ref a,some C'=>EX a C' H
 |_,_=>False
def zM(P:Program)(w:World)(K:Frag)(mg:Str->Option Value)(base:Heap)(kk:Nat)(H:Hp)(fl:Addr)(Qw:VK)(Ew:Addr->Addr->Hp->Prop):Prop:=
 ∃(fd:FuncData) (body:Expr) (N:List Str) (vs:List V) (cs:List (Addr×Obj)),LamObj H fl fd/\LamAt fd body N/\(∀b o,cs.lookup b=some o->H b=some (held o))/\(∀x c,fd.closure.lookup x=some c->∃o v,cs.lookup c=some o/\o.data=.cell v) /\
  (∀(i:Nat) (x:Str) (v:V),N[i]?=some x->vs[i]?=some v->∃c u o,fd.closure.lookup x=some c/\RelV v u/\cs.lookup c=some o/\o.data=.cell (some u))/\vs.length=N.length /\
  ∀(A:Around) (outer:List Env) (Q':VK) (E':XK),Room kk A->(∀v H1,Qw v H1->Q' v H1)->(∀a C H1,Ew a C H1->E' (.ref a) (some C) H1)->
   ∃te,(∀s,PE (cxL P w K mg base N fd fl A outer s (er H cs) (λe C H1=>NoC cs H1->E' e C (fz H1 cs))) body te)/\te (vs.map some) (er H cs) λv H1=>NoC cs H1->Q' v (fz H1 cs)
theorem Ks{fl:Addr}(Kj:σ[i]?=some (some (.ref fl)))(L:zM X.prog X.w X.K X.mg X.base kk H fl Qw Ew)(hr:Room kk X.A)(q1:∀v H1,Qw v H1->Q v H1)(q2:∀a C H1,Ew a C H1->E (.ref a) (some C) H1):JX X i E σ H Q:=by
 obtain⟨fd,body,N,vs,cs,L,Z,fr,cell,val,hl,run⟩:=L;obtain⟨te,kD,q⟩:=run X.A X.stack Q E hr q1 q2;exact⟨fl,fd,body,N,vs,cs,te,Kj,L,Z,fr,cell,val,hl,kD,q⟩
def HY(P:Program)(w:World)(K:Frag)(mg:Str->Option Value)(base:Heap)(k:Nat)(x:Str)(ps:List Str)(sp:Sp):Prop:=
 ∃f fd,FnOkU P w K mg base CX0 k f fd ps sp/\mg x=some (.ref f)/\PySem.W.keepIn K (.ref f)=true/\Binds K fd ps []
theorem I9{p pos:Pos}(c:HY X.prog X.w X.K X.mg X.base j x ps sp)(hr:RoomU k X.A)(hjk:j<=k)(hg:Gl X x)(ha:PA X (e::es) t)
  (eC:(x==("__debug__":Str))=false:=by decide) (he:starEach (e::es) X.env=(false,eval e X.env)::starEach es X.env:=by rfl) (dP:(backTo pos (starEach es X.env)).any (·.1)=false:=by rfl):
  PE X (.Call (.Name x p) (e::es) [] pos) (uZ sp [] E0 t):=by
 obtain⟨f,fd,F,m,k',b⟩:=c;exact Dp F (hr.mono hjk) hg m k' b ha eC he dP
open PySem.W in
def Ia(K:Frag)(L:List Addr)(j:Nat):Bool:=
 decide (j<16)&&((clsIn K (L.getD j 0)).isSome&&(findIn K (.ref (L.getD j 0)) "__getattribute__"==some (some (.builtin "BaseException.__getattribute__"))&&(findIn K (.ref (L.getD j 0)) "__getattr__"==some none&&(findIn K (.ref (L.getD j 0)) "__class__"==some (some (.builtin "object.__class__")) &&
 (specialIn K (.builtin "object.__class__") "__get__"==some (some (.builtin "getset_descriptor.__get__"))&&(takesIn K (.builtin "object.__class__")==some true&&(mroIn K (L.getD j 0) (.type "object")==some true&&(mroIn K (L.getD j 0) (.type "BaseException")==some true &&
 (typeIn K (.ref (L.getD 17 0))==some (.type "type")&&((clsIn K (L.getD 17 0)).isSome&&(subIn K (.ref (L.getD 17 0)) (.type "BaseException")==some true&&(subIn K (.ref (L.getD j 0)) (.ref (L.getD 17 0))==some true &&
 ((List.range 17).all (λi=>kitOne K (.ref (L.getD j 0)) (.ref (L.getD i 0))==some (decide (i=j)))&&kitOne K (.ref (L.getD j 0)) (.type "ValueError")==some true)))))))))))))
theorem Je(h:Ia K L j=true):Kind K (λi=>L.getD i 0) j:=by
 unfold Ia at h;simp only[Bool.and_eq_true,beq_iff_eq,z08]at h;obtain⟨h0,h1,h2,h3,h4,h5,h6,h7,h8,h9,Us,Ut,Uu,Uv,Uw⟩:=h;refine⟨h0,⟨h1,h2,h3,h4,h5,h6,h7,h8⟩,⟨h9,Us,Ut,Uu⟩,λi hi=>?_,Uw⟩;have:=Zae.mp Uv i (Zan.mpr hi);simpa using this
theorem tab_mk(h1:PySem.W.nsIn K mainGlobals x=some (some (.ref f)))(h2:K.lookup f=some ⟨a1,b1,.func fd,s1⟩)(h3:fd.code=.ref c)(h4:K.lookup c=some ⟨a2,b2,.fields vs,s2⟩)(h5:vs[11]?=some (.ref T)):
  PySem.W.tabIn K x=some (c,T):=by
 unfold PySem.W.tabIn;rw[h1];show(match K.lookup f with|some ⟨_,_,.func fd,_⟩=>_|_=>none)=_;rw[h2];show(match fd.code with|.ref c=>_|_=>none)=_;rw[h3];show(match K.lookup c with|some ⟨_,_,.fields vs,_⟩=>_|_=>none)=_;rw[h4];show(match vs[11]? with|some (.ref P)=>some (c,P)|_=>none)=_;rw[h5]
inductive SpMarksI(K:Frag)(Cs:Nat->Addr)(vs:List V)(H:Hp)(Q:VK):Prop
 |mk:∀a j,(vs=[.ref a])->(H a=some (.ext (excAt a (Cs j))))->(Kind K Cs j)->(∀p H',Same H H'->H' p=some (.lst ((marks j).map V.bl))->Q (.ref p) H')->SpMarksI K Cs vs H Q
def uJ(K:Frag)(Cs:Nat->Addr):Sp:=λvs H Q _=>SpMarksI K Cs vs H Q
inductive SpSaidI(P:Program)(w:World)(K:Frag)(mg:Str->Option Value)(base:Heap)(Cs:Nat->Addr)(kk:Nat)(vs:List V)(H:Hp)(Q:VK):Prop
 |mk:∀fl Qw Ew,(vs=[.ref fl])->(zM P w K mg base kk H fl Qw Ew)->((∀v H1,Qw v H1->∀p,H1 p=none->Q (.ref p) (upd H1 p (.tup [.str "told",v]))))->((∀a C H1,Ew a C H1->∃j,C=Cs j/\Kind K Cs j/\(H1 a=none->∀H2,Same H1 H2->Q (.str (words.getD j "")) H2)))->SpSaidI P w K mg base Cs kk vs H Q
def yo(P:Program)(w:World)(K:Frag)(mg:Str->Option Value)(base:Heap)(Cs:Nat->Addr)(kk:Nat):Sp:=λvs H Q _=>SpSaidI P w K mg base Cs kk vs H Q
theorem scM1:FnScope [AAp,"_law_some"] [AAp] (az (top 76)):=fQS
theorem Fv(F:Fun K ABb ABb (top 76) f fd)(T:Mg mg)(L:Clss mg Cs):FnOkU P w K mg base CX0 1 f fd [AAp] (uJ K Cs):=by
 refine F.oqU scM1 λcdv A outer s H vs Q E hr h=>?_;obtain⟨a,j,rfl,ea,Z,q⟩:=h
 refine K33P.ok_b (aH (fU 1 scM1.nd (cz (aQ (dw (i:=0) rfl (Or.inl rfl) rfl T.isinstance rfl L.n0) (aQ (dw (i:=0) rfl (Or.inl rfl) rfl T.isinstance rfl L.n1) (aQ (dw (i:=0) rfl (Or.inl rfl) rfl T.isinstance rfl L.n2) (aQ (dw (i:=0) rfl (Or.inl rfl) rfl T.isinstance rfl L.n3) bu))))))
  (aH (fU 1 scM1.nd (il j9 ⟨pv 1⟩ (cz (aQ (dw (i:=0) rfl (Or.inl rfl) rfl T.isinstance rfl L.n4) (aQ (dw (i:=0) rfl (Or.inl rfl) rfl T.isinstance rfl L.n5) (aQ (dw (i:=0) rfl (Or.inl rfl) rfl T.isinstance rfl L.n6) (aQ (dw (i:=0) rfl (Or.inl rfl) rfl T.isinstance rfl L.n7) bu)))))))
  (aH (fU 1 scM1.nd (il j9 ⟨pv 1⟩ (cz (aQ (dw (i:=0) rfl (Or.inl rfl) rfl T.isinstance rfl L.n8) (aQ (dw (i:=0) rfl (Or.inl rfl) rfl T.isinstance rfl L.n9) (aQ (dw (i:=0) rfl (Or.inl rfl) rfl T.isinstance rfl L.n10) (aQ (dw (i:=0) rfl (Or.inl rfl) rfl T.isinstance rfl L.n11) bu)))))))
  (aH (fU 1 scM1.nd (il j9 ⟨pv 1⟩ (cz (aQ (dw (i:=0) rfl (Or.inl rfl) rfl T.isinstance rfl L.n12) (aQ (dw (i:=0) rfl (Or.inl rfl) rfl T.isinstance rfl L.n13) (aQ (dw (i:=0) rfl (Or.inl rfl) rfl T.isinstance rfl L.n14) (aQ (dw (i:=0) rfl (Or.inl rfl) rfl T.isinstance rfl L.n15) bu)))))))
  (bx (fQ (il j9 ⟨pv 1⟩ (cz (aQ (dw (i:=0) rfl (Or.inl rfl) rfl T.isinstance rfl L.n16) bu))))))))) ?_
 refine aC (aP ?_);refine fV (cJ ?_);refine dB (i:=0) Z z02 ea rfl ?_;refine cJ ?_;refine dB (i:=1) Z z02 ea rfl ?_;refine cJ ?_;refine dB (i:=2) Z z02 ea rfl ?_;refine cJ ?_;refine dB (i:=3) Z z02 ea rfl ?_;refine⟨zL,λp3 JY=>?_⟩;refine aJ ?_;dsimp only;refine gen_ts (λH3=>Same H H3/\H3 p3=some (.lst ([decide (0=j),decide (1=j),decide (2=j),decide (3=j)].map V.bl))) ⟨Same.upd JY,aa⟩ λH3=>?_;rintro⟨s3,f3⟩;have F6:=s3 _ _ ea;refine aC (aP ?_);refine⟨_,rfl,?_⟩;refine fV (cJ ?_);refine dB (i:=4) Z z02 F6 rfl ?_;refine cJ ?_;refine dB (i:=5) Z z02 F6 rfl ?_;refine cJ ?_;refine dB (i:=6) Z z02 F6 rfl ?_;refine cJ ?_;refine dB (i:=7) Z z02 F6 rfl ?_;refine⟨zL,λp4 EE=>⟨p3,p4,_,_,rfl,rfl,Same.upd EE _ _ f3,aa,zL,λl4 sR=>?_⟩⟩;refine aJ ?_;dsimp only;refine gen_ts (λH4=>Same H H4/\H4 l4=some (.lst ([decide (0=j),decide (1=j),decide (2=j),decide (3=j),decide (4=j),decide (5=j),decide (6=j),decide (7=j)].map V.bl))) ⟨(s3.updR EE).updR sR,aa⟩ λH4=>?_;rintro⟨s4,f4⟩;have F7:=s4 _ _ ea;refine aC (aP ?_);refine⟨_,rfl,?_⟩;refine fV (cJ ?_);refine dB (i:=8) Z z02 F7 rfl ?_;refine cJ ?_;refine dB (i:=9) Z z02 F7 rfl ?_;refine cJ ?_;refine dB (i:=10) Z z02 F7 rfl ?_;refine cJ ?_;refine dB (i:=11) Z z02 F7 rfl ?_;refine⟨zL,λp5 AJ=>⟨l4,p5,_,_,rfl,rfl,Same.upd AJ _ _ f4,aa,zL,λl5 F9=>?_⟩⟩;refine aJ ?_;dsimp only;refine gen_ts (λH5=>Same H H5/\H5 l5=some (.lst ([decide (0=j),decide (1=j),decide (2=j),decide (3=j),decide (4=j),decide (5=j),decide (6=j),decide (7=j),decide (8=j),decide (9=j),decide (10=j),decide (11=j)].map V.bl))) ⟨(s4.updR AJ).updR F9,aa⟩ λH5=>?_;rintro⟨s5,f5⟩;have GA:=s5 _ _ ea;refine aC (aP ?_);refine⟨_,rfl,?_⟩;refine fV (cJ ?_);refine dB (i:=12) Z z02 GA rfl ?_;refine cJ ?_;refine dB (i:=13) Z z02 GA rfl ?_;refine cJ ?_;refine dB (i:=14) Z z02 GA rfl ?_;refine cJ ?_;refine dB (i:=15) Z z02 GA rfl ?_;refine⟨zL,λp6 PF=>⟨l5,p6,_,_,rfl,rfl,Same.upd PF _ _ f5,aa,zL,λl6 K0=>?_⟩⟩;refine aJ ?_;dsimp only;refine gen_ts (λH6=>Same H H6/\H6 l6=some (.lst ([decide (0=j),decide (1=j),decide (2=j),decide (3=j),decide (4=j),decide (5=j),decide (6=j),decide (7=j),decide (8=j),decide (9=j),decide (10=j),decide (11=j),decide (12=j),decide (13=j),decide (14=j),decide (15=j)].map V.bl))) ⟨(s5.updR PF).updR K0,aa⟩ λH6=>?_;rintro⟨s6,f6⟩;have Ux:=s6 _ _ ea;refine dZ ?_;refine⟨_,rfl,?_⟩;refine fV (cJ ?_);refine dB (i:=16) Z z02 Ux rfl ?_;refine⟨zL,λp7 PH=>⟨l6,p7,_,_,rfl,rfl,Same.upd PH _ _ f6,aa,zL,λl7 Uy=>?_⟩⟩;exact q l7 _ ((s6.updR PH).updR Uy) aa
theorem scS:FnScope [AAm,AAt,AAp,AAs,ABc] [AAm] (az (top 77)):=fQS
section
theorem BW(hK:X.K=K){j}(hl:BE X (.Name y q') tl)(hline:(p.endLine==pos.line)=true:=by rfl):BE X (.Call (.Attribute (.Name y q') "count" p) [.Constant (.bool k) j q] [] pos) (tBM K "list" uh tl (bU (tC (.bl k)) gW)):=by
 subst hK;exact Fl hl hline
theorem BX(hK:X.K=K){j}(hl:BE X (.Name y q') tl)(hline:(p.endLine==pos.line)=true:=by rfl):BE X (.Call (.Attribute (.Name y q') "index" p) [.Constant (.bool k) j q] [] pos) (tBM K "list" ul tl (bU (tC (.bl k)) gW)):=by
 subst hK;exact Fo hl hline
theorem wJ(hK:X.K=K):IxR X (Jw K):=by
 subst hK;exact bM
theorem uK(hK:X.K=K):dH X (.builtin "isinstance") (λxs H Q=>∃a C c b,xs=[.ref a,c]/\H a=some (.ext (excAt a C))/\ExcC K C/\((∃D,c=.ref D/\PySem.W.kitOne K (.ref C) (.ref D)=some b)\/∃n,c=.ty n/\PySem.W.kitOne K (.ref C) (.type n)=some b)/\Q (.bl b) H):=by
 subst hK;exact lW
end
def Ib(st:Stmt):List Stmt:=match st with
 |.Try _ [.ExceptHandler _ _ b _] _ _ _=>b
 |_=>[]
theorem Fw(hr:RoomU (k+1) (iJ CX0 P w K mg base [AAm,AAt,AAp,AAs,ABc] AAq (az (top 77)) f cdv A outer s H E).A)(T:Mg mg)(Tv:mg "ValueError"=none)(L:Clss mg Cs)(c1:HY P w K mg base 1 ABb [AAp] (uJ K Cs)):
  ∃th,(∀v,PSs (((iJ CX0 P w K mg base [AAm,AAt,AAp,AAs,ABc] AAq (az (top 77)) f cdv A outer s H E).nox.un ((iJ CX0 P w K mg base [AAm,AAt,AAp,AAs,ABc] AAq (az (top 77)) f cdv A outer s H E).nox.A.mark v)).nox) (Ib ((cB (top 77)).getD 0 (.Pass ⟨0,0,0,0⟩))) th) /\
   ∀D y0 y1 y3 y4 a j H1,H1 a=some (.ext (excAt a (Cs j)))->Kind K Cs j->(∀H2,Same H1 H2->D.rt (.str (words.getD j "")) H2)->th D [y0,y1,some (.ref a),y3,y4] H1:=by
 refine⟨_,λv=>jU (aH (fU 3 scS.nd ⟨I9 c1 (hr.mark v) z00 rfl (aq (pv 2) aj)⟩)
     (aH (bs_if (Kr (Kq (HW ⟨aK (uK (K:=K) rfl) rfl T.isinstance boot_isinstance (aq (pv 2) (aq (dh rfl Tv HX (v:=.ty "ValueError") rfl) aj))⟩)) (Nf (BW (K:=K) rfl ⟨pv 3⟩))) (bx (fQ d9)) bss_nil)
     (aH (bs_if (Kp (lK (wJ (K:=K) rfl) ⟨pv 3⟩ fj (λ_ _=>rfl))) (bx ⟨aN Fj⟩) bss_nil)
     (aH (fU 4 scS.nd (cz (aQ d9 (aQ d9 (aQ d9 (aQ d9 (aQ d9 (aQ d9 (aQ d9 (aQ d9 (aQ d9 bu)))))))))))
     (bx (fQ (lK (wJ (K:=K) rfl) (il j9 ⟨pv 4⟩ (cz (aQ d9 (aQ d9 (aQ d9 (aQ d9 (aQ d9 (aQ d9 (aQ d9 bu))))))))) (BX (K:=K) rfl ⟨pv 3⟩) (λ_ _=>rfl)))))))),?_⟩
 intro D y0 y1 y3 y4 a j H1 ea Z q3;have lt:=Z.lt;refine aC (aP ?_);refine⟨_,rfl,a,j,rfl,ea,Z,λp H2 s2 e2=>?_⟩;refine aJ ?_;have Uz:H2 a=some (.ext (excAt a (Cs j))):=s2 _ _ ea;refine aC ?_;refine⟨_,rfl,a,Cs j,.ty "ValueError",true,rfl,Uz,Z.ex,.inr ⟨_,rfl,Z.ve⟩,_,rfl,?_⟩;refine aX ?_;refine⟨_,rfl,.inl ⟨rfl,_,SqL.of e2⟩,p,marks j,true,rfl,rfl,e2,rfl,_,rfl,?_⟩;rw[wI j z00];refine aX (aC ?_);refine⟨_,rfl,p,_,16,.bl (decide (16=j)),rfl,rfl,SqL.of e2,rfl,_,rfl,?_⟩;rw[zB2 (by lia:¬16=j)];refine aX (bN ?_);dsimp only;refine aC ?_;refine⟨by decide,λp4 EE=>?_⟩;refine aJ ?_;dsimp only;refine gen_ts (λH4=>Same H1 H4/\H4 p=some (.lst ((marks j).map V.bl))/\H4 p4=some (.lst [.str "clips",.str "promises",.str "sales",.str "book",.str "number",.str "year",.str "weights",.str "paper",.str "growth"])) ⟨s2.updR EE,Same.upd EE _ _ e2,aa⟩ λH4=>?_;rintro⟨s4,f4,e4⟩;refine dZ ?_;refine⟨_,rfl,by decide,λp5 AJ=>⟨p4,p5,_,_,rfl,rfl,Same.upd AJ _ _ e4,aa,by decide,λl5 F9=>?_⟩⟩;have f6:=Same.upd (o:=.lst (words.map V.str)) F9 _ _ (Same.upd (o:=.lst [.str "promise",.str "sort",.str "clip",.str "sale",.str "deed",.str "text",.str "line"]) AJ _ _ f4);refine⟨_,rfl,.inl ⟨rfl,_,SqL.of f6⟩,p,marks j,true,j,rfl,rfl,f6,Fp z00,λi hi=>Fq hi,l5,words.map V.str,j,_,rfl,rfl,SqL.of aa,Ft lt,?_⟩;exact q3 _ ((s4.updR AJ).updR F9)
theorem Ie(F:Fun K AAq AAq (top 77) f fd)(T:Mg mg)(Tv:mg "ValueError"=none)(L:Clss mg Cs)(c1:HY P w K mg base 1 ABb [AAp] (uJ K Cs)):FnOk P w K mg base CX0 (kk+2) f fd [AAm] (yo P w K mg base Cs kk):=by
 refine F.oq scS λcdv A outer s H vs Q E hr h=>?_;obtain⟨fl,Qw,Ew,rfl,S,q1,q2⟩:=h;obtain⟨th,UA,UB⟩:=Fw (f:=f) (cdv:=cdv) (A:=A) (outer:=outer) (s:=s) (H:=H) (E:=E) (base:=base) (P:=P) (w:=w) (k:=kk) (K:=K) hr.toU T Tv L c1
 refine⟨_,aB (JW (i:=2) (tb:=λEX=>wX (JX (iJ CX0 P w K mg base [AAm,AAt,AAp,AAs,ABc] AAq (az (top 77)) f cdv A outer s H E).nox 0 (toE EX)) (bG 1)) (th:=th) L.wool rfl scS.nd rfl rfl rfl rfl
   (λz06 xe EX W=>aF (pss 1 scS.nd (JZ (E:=toE EX) (k:=kk) (hr.mono z00) rfl (Or.inl rfl) W rfl)))
   (λv=>UA v))
  (aF (aN (bA (aq dX (aq (pv 1) aj))))),?_⟩
 refine aC (aP ?_);refine Ks (kk:=kk) rfl S (hr.mono z00) (λv H1 hq=>?_) (λa C H1 hE=>?_)
 .refine aJ ?_;exact⟨_,rfl,zL,λp hp=>q1 v H1 hq p hp⟩
 .obtain⟨j,rfl,Z,q3⟩:=q2 a C H1 hE;refine⟨Z.ca,λah fR fa=>?_⟩
  match ah,fR with
  |[y0,y1,y2,y3,y4],_=>exact UB _ y0 y1 y3 y4 a j _ aa Z λH2 s2=>q3 fa H2 ((Same.upd fa).trans s2)
inductive SpByHI(vs:List V)(H:Hp)(Q:VK):Prop
 |mk:∀l xs rs,(vs=[.ref l])->(H l=some (.lst xs))->(Els H xs rs)->((∀r∈rs,r.length=4/\0<=fl r 2/\fl r 2<8))->(∀k (L:UV) H',Same H H'->H k=none->k≠sysModules->L.length=8->H' k=some (.lst (L.map V.int))->Q (.ref k) H')->SpByHI  vs H Q
def Jf:Sp:=λvs H Q _=>SpByHI  vs H Q
theorem scI1:FnScope ["rows","sums","due","number","holder","sacks"] ["rows"] (az (top 65)):=fQS
theorem Ku(F:Fun K "by_holder" "by_holder" (top 65) f fd)(N:Nums mg):FnOk P w K mg base CX0 1 f fd ["rows"] Jf:=by
 refine F.oq scI1 λcdv A outer s H vs Q E hr h=>?_;obtain⟨l,xs,R,rfl,EF,gy,hh,q⟩:=h;obtain⟨t1,e1⟩:=N.holders
 refine⟨_,aB (pss 1 scI1.nd (aO oY (dJ (aq au aj)) (bO (v:=.int 8) rfl e1 ⟨_,rfl⟩)))
  (aB (cG zB7 rfl (dC (pv 0)) (bQ rfl (ao (pgn 2 scI1.nd) (ao (pgn 3 scI1.nd) (ao (pgn 4 scI1.nd) (ao (pgn 5 scI1.nd) aV)))))
   (aF (jF (pv 1) (pv 4) fX (pv 5) pA set_list)))
  (aF (aN (pv 1)))),?_⟩
 refine aC (aP ?_);refine⟨zL,λl0 nr=>⟨l0,8,_,rfl,rfl,aa,by decide,by decide,zL,λl1 bX sQ=>?_⟩⟩;have s2:Same H (upd (upd H l0 (.lst [V.int 0])) l1 (.lst (List.replicate (8:Int).toNat [V.int 0]).flatten)):=(Same.upd nr).updR bX;have el1:upd (upd H l0 (.lst [V.int 0])) l1 (.lst (List.replicate (8:Int).toNat [V.int 0]).flatten) l1=some (.lst ((List.replicate 8 (0:Int)).map V.int)):=aa;have jS:H l1=none:=(Same.upd nr).free bX;refine aJ ?_;dsimp only;refine aC ?_;have ek:=s2 _ _ EF;have gu:l≠l1:=aD EF jS;refine⟨_,rfl,l,rfl,⟨_,SqL.of ek⟩,?_⟩;refine gQ (xs:=xs) (λi σ Hc=>∃x6 x7 x8 x9 L,σ=[some (.ref l),some (.ref l1),x6,x7,x8,x9]/\Same H Hc/\Hc l1=some (.lst ((L:UV).map V.int))/\L.length=8) ?_ ?_ ?_ ?_
 .exact⟨none,none,none,none,_,rfl,s2,el1,rfl⟩
 .rintro i σ Hc hi ⟨x6,x7,x8,x9,L,rfl,sm,el,l8⟩;exact SqL.of (sm _ _ EF)
 .rintro i x σ Hc hx ⟨x6,x7,x8,x9,L,rfl,sm,el,l8⟩
  have hi:i<R.length:=by
   have:=(zAa.mp hx).1;rw[gy.1]at this;exact this
  obtain⟨tr,eW,bq⟩:=gy.2 i R[i] (zA0 hi)
  have:x=.ref tr:=by
   rw[hx]at eW;exact zAl eW
  subst this;obtain⟨o4,h0,h1⟩:=hh _ (zAh hi);generalize R[i]=r at bq h0 h1 o4⊢;rw[gA o4]at bq;refine⟨tr,_,rfl,SqT.of (sm _ _ bq),rfl,_,_,rfl,_,_,rfl,_,_,rfl,_,_,rfl,rfl,?_⟩;refine⟨_,rfl,_,rfl,l1,_,fl r 2,_,rfl,rfl,SqL.of el,h0,jN z00,_,rfl,_,_,rfl,rfl,l1,_,fl r 2,(fl r 2).toNat,rfl,rfl,el,qz h0 (by rw[zA1];lia),?_⟩;rw[jM];exact⟨_,_,_,_,_,rfl,λb o e=>by rw[aA (aD e jS)];exact sm _ _ e,aa,(Zao ..).trans l8⟩
 .rintro σ Hc ⟨x6,x7,x8,x9,L,rfl,sm,el,l8⟩;dsimp only;exact⟨_,rfl,q l1 L Hc sm jS sQ l8 el⟩
inductive SpPaidI(vs:List V)(H:Hp)(Q:VK):Prop
 |mk:∀S bk d ac xc cs ap xp ps af xs ss,(vs=[.ref bk])->(IsTh S H (.ref bk) d)->(sz d<=4000)->(cQ d=true)->(BookAt H bk ac xc cs ap xp ps af xs ss)->(anyR Q H)->SpPaidI  vs H Q
def Fx:Sp:=λvs H Q _=>SpPaidI  vs H Q
theorem scKP:FnScope ["book","year","clips","promises","sales","pence","due","number","holder","sacks"] ["book","year"] (az (top 69)):=fQS
theorem Fy(F:Fun K "pence_owed" "pence_owed" (top 69) f fd)(N:Nums mg)(c1:Cal P w K mg base 8 "refuse_no_year" ["book","year"] (wH HQ))(c2:Cal P w K mg base 11 "owed_behind" ["book","year"] (BV sX)):FnOk P w K mg base CX0 12 f fd ["book","year"] (wH HR):=by
 refine F.oq scKP λcdv A outer s H vs Q E hr h=>?_;obtain⟨S,bk,y,d,ac,xc,cs,ap,xp,ps,af,xs,ss,rfl,th,hz,hb,B,y0,y1,q⟩:=h;obtain⟨t1,e1⟩:=N.holders
 refine⟨_,aB (cA (aG c1 hr (aq (pv 0) (aq (pv 1) aj))))
  (aB (cN (pv 0) (bQ rfl (ao (pgn 2 scKP.nd) (ao (pgn 3 scKP.nd) (ao (pgn 4 scKP.nd) aV)))))
  (aB (pss 5 scKP.nd (aO oY (dJ (aq au aj)) (bO (v:=.int 8) rfl e1 ⟨_,rfl⟩)))
  (aB (cG zB7 rfl (dC (aG c2 hr (aq (pv 0) (aq (pv 1) aj)))) (bQ rfl (ao (pgn 6 scKP.nd) (ao (pgn 7 scKP.nd) (ao (pgn 8 scKP.nd) (ao (pgn 9 scKP.nd) aV)))))
   (aF (jF (pv 5) (pv 8) fX (aO gR (pv 9) (pX bj (pX bj (pv 3) (pv 7)) au)) pA set_list)))
  (aF (aN (pv 5)))))),?_⟩
 refine aC ?_;refine⟨_,rfl,_,rfl,S,bk,y,d,ac,xc,cs,ap,xp,ps,af,xs,ss,rfl,th,hz,hb,B,y0,y1,λH1 s1=>?_⟩;dsimp only;have B1:=B.same s1;refine aC ?_;refine⟨_,rfl,bk,_,rfl,SqT.of B1.e,rfl,_,_,rfl,_,_,rfl,_,_,rfl,rfl,?_⟩;dsimp only;refine aC (aP ?_);refine⟨zL,λl0 nr=>⟨l0,8,_,rfl,rfl,aa,by decide,by decide,zL,λl1 bX sQ=>?_⟩⟩;have s2:Same H1 (upd (upd H1 l0 (.lst [V.int 0])) l1 (.lst (List.replicate (8:Int).toNat [V.int 0]).flatten)):=(Same.upd nr).updR bX;have el1:upd (upd H1 l0 (.lst [V.int 0])) l1 (.lst (List.replicate (8:Int).toNat [V.int 0]).flatten) l1=some (.lst ((List.replicate 8 (0:Int)).map V.int)):=aa;have jS:H1 l1=none:=(Same.upd nr).free bX;have fH:H l1=none:=s1.free jS;refine aJ ?_;dsimp only;refine aC ?_;refine⟨_,rfl,_,rfl,bk,y,ac,xc,cs,ap,xp,ps,af,xs,ss,rfl,B1.same s2,y0,y1,λk xk R H3 s3 nk PB ek gy ow=>⟨k,rfl,⟨_,SqL.of ek⟩,?_⟩⟩
 have gu:k≠l1:=λz=>by
  rw[z,el1]at nk;cases nk
 have B3:=(B1.same s2).same s3;have B0:∀b o,H b=some o->H3 b=some o:=λb o e=>s3 _ _ (s2 _ _ (s1 _ _ e));have el3:=s3 _ _ el1;refine gQ (xs:=xk) (λi σ Hc=>∃x6 x7 x8 x9 L,σ=[some (.ref bk),some (.int y),some (.ref ac),some (.ref ap),some (.ref af),some (.ref l1),x6,x7,x8,x9]/\(∀b o,b≠l1->H3 b=some o->Hc b=some o)/\Hc l1=some (.lst ((L:UV).map V.int))/\L.length=8) ?_ ?_ ?_ ?_
 .exact⟨none,none,none,none,_,rfl,λ_ _ _ e=>e,el3,rfl⟩
 .rintro i σ Hc hi ⟨x6,x7,x8,x9,L,rfl,sm,el,l8⟩;exact SqL.of (sm _ _ gu ek)
 .rintro i x σ Hc hx ⟨x6,x7,x8,x9,L,rfl,sm,el,l8⟩
  have hi:i<R.length:=by
   have:=(zAa.mp hx).1;rw[gy.1]at this;exact this
  obtain⟨tr,eW,bq⟩:=gy.2 i R[i] (zA0 hi)
  have:x=.ref tr:=by
   rw[hx]at eW;exact zAl eW
  subst this;have jv:=ow.ok _ (zAh hi);have o4:=jv.l;have o1:=jv.n0;have h0:=jv.h0;have h1:=jv.h1;have br:=jv.s1;have bs:=jv.s0;obtain⟨p,hp,ep,okp⟩:=prom_ok (n:=fl R[i] 1) B.okp o1 jv.n1;have Rp:RowsAt Hc ap xp ps:=B3.rp.keep λb l e=>sm _ _ (λz=>by rw[z,el3]at e;cases e) e;obtain⟨tp,hJ,ja⟩:=rows_at Rp o1 hp;clear jv;generalize R[i]=r at bq h0 h1 o4 o1 br bs hJ hp ep⊢;rw[gA o4]at bq;rw[six_row okp.1]at ja
  have Me:tr≠l1:=λz=>by
   rw[z,el3]at bq;cases bq
  refine⟨tr,_,rfl,SqT.of (sm _ _ Me bq),rfl,_,_,rfl,_,_,rfl,_,_,rfl,_,_,rfl,rfl,?_⟩;refine⟨_,rfl,_,rfl,l1,_,fl r 2,_,rfl,rfl,SqL.of el,h0,jN z00,_,rfl,_,rfl,_,rfl,ap,xp,fl r 1,.ref tp,rfl,rfl,SqT.of Rp.e,hJ,tp,_,5,.int (fl p 5),rfl,rfl,SqT.of ja,rfl,_,_,rfl,rfl,?_,_,_,rfl,rfl,l1,_,fl r 2,(fl r 2).toNat,rfl,rfl,el,qz h0 (by rw[zA1];lia),?_⟩
  .obtain⟨_,_,_,_,_,p5⟩:=okp;exact .inr z00
  rw[jM];exact⟨_,_,_,_,_,rfl,λb o hb e=>by rw[aA hb];exact sm _ _ hb e,aa,(Zao ..).trans l8⟩
 .rintro σ Hc ⟨x6,x7,x8,x9,L,rfl,sm,el,l8⟩;dsimp only;exact⟨_,rfl,q _ Hc λb o e=>sm _ _ (aD e fH) (B0 _ _ e)⟩
theorem scKQ:FnScope ["book","clips","promises","sales","paid","holder","sort","first","last","sacks","price"] ["book"] (az (top 70)):=fQS
theorem Ig(F:Fun K "paid_before" "paid_before" (top 70) f fd)(N:Nums mg)(c1:Cal P w K mg base 7 "refuse_no_book" ["thing"] ym):FnOk P w K mg base CX0 8 f fd ["book"] Fx:=by
 refine F.oq scKQ λcdv A outer s H vs Q E hr h=>?_;obtain⟨S,bk,d,ac,xc,cs,ap,xp,ps,af,xs,ss,rfl,th,hz,hb,B,q⟩:=h;obtain⟨t1,e1⟩:=N.holders
 refine⟨_,aB (cA (aG c1 hr (aq (pv 0) aj)))
  (aB (cN (pv 0) (bQ rfl (ao (pgn 1 scKQ.nd) (ao (pgn 2 scKQ.nd) (ao (pgn 3 scKQ.nd) aV)))))
  (aB (pss 4 scKQ.nd (aO oY (dJ (aq au aj)) (bO (v:=.int 8) rfl e1 ⟨_,rfl⟩)))
  (aB (cG zB7 rfl (gF (pv 2)) (bQ rfl (ao (pgn 5 scKQ.nd) (ao (pgn 6 scKQ.nd) (ao (pgn 7 scKQ.nd) (ao (pgn 8 scKQ.nd) (ao (pgn 9 scKQ.nd) (ao (pgn 10 scKQ.nd) aV)))))))
   (aF (jF (pv 4) (pv 5) fX (aO gR (aO gR (pv 9) (aO bT (aO dY (pv 8) (pv 7)) au)) (pv 10)) pA set_list)))
  (aF (aN (pv 4)))))),?_⟩
 refine aC ?_;refine⟨_,rfl,S,_,d,rfl,th,hz,hb,λH1 s1=>?_⟩;dsimp only;have B1:=B.same s1;refine aC ?_;refine⟨_,rfl,bk,_,rfl,SqT.of B1.e,rfl,_,_,rfl,_,_,rfl,_,_,rfl,rfl,?_⟩;dsimp only;refine aC (aP ?_);refine⟨zL,λl0 nr=>⟨l0,8,_,rfl,rfl,aa,by decide,by decide,zL,λl1 bX sQ=>?_⟩⟩;have s2:Same H1 (upd (upd H1 l0 (.lst [V.int 0])) l1 (.lst (List.replicate (8:Int).toNat [V.int 0]).flatten)):=(Same.upd nr).updR bX;have el1:upd (upd H1 l0 (.lst [V.int 0])) l1 (.lst (List.replicate (8:Int).toNat [V.int 0]).flatten) l1=some (.lst ((List.replicate 8 (0:Int)).map V.int)):=aa;have jS:H1 l1=none:=(Same.upd nr).free bX;generalize upd (upd H1 l0 (.lst [V.int 0])) l1 (.lst (List.replicate (8:Int).toNat [V.int 0]).flatten)=H2 at s2 el1⊢;have fH:H l1=none:=s1.free jS;have B2:=B1.same s2;have B0:∀b o,H b=some o->H2 b=some o:=λb o e=>s2 _ _ (s1 _ _ e)
 have UC:ap≠l1:=λz=>by
  have:=B2.rp.e;rw[z,el1]at this;cases this
 refine aJ ?_;dsimp only;refine aC ?_;refine⟨_,rfl,ap,rfl,⟨_,SqT.of B2.rp.e⟩,?_⟩;refine tG (xs:=xp) (λi σ Hc=>∃x5 x6 x7 x8 x9 fe L,σ=[some (.ref bk),some (.ref ac),some (.ref ap),some (.ref af),some (.ref l1),x5,x6,x7,x8,x9,fe]/\(∀b o,b≠l1->H2 b=some o->Hc b=some o)/\Hc l1=some (.lst ((L:UV).map V.int))/\L.length=8) ?_ ?_ ?_ ?_
 .exact⟨none,none,none,none,none,none,_,rfl,λ_ _ _ e=>e,el1,rfl⟩
 .rintro i σ Hc hi ⟨x5,x6,x7,x8,x9,fe,L,rfl,sm,el,l8⟩;exact SqT.of (sm _ _ UC B2.rp.e)
 .rintro i x σ Hc hx ⟨x5,x6,x7,x8,x9,fe,L,rfl,sm,el,l8⟩
  have hi:i<ps.length:=by
   have:=(zAa.mp hx).1;rw[B.rp.l]at this;exact this
  obtain⟨tr,eW,bq⟩:=B2.rp.g i ps[i] (zA0 hi)
  have:x=.ref tr:=by
   rw[hx]at eW;exact zAl eW
  subst this;obtain⟨p6,⟨a0,a1⟩,b,⟨c1,c2,c3⟩,⟨d1,d2⟩,ee⟩:=B.okp _ (zAh hi);generalize ps[i]=r at bq p6 a0 a1 c1 c2 c3 d1 d2 ee⊢;rw[six_row p6]at bq
  have Me:tr≠l1:=λz=>by
   rw[z,el1]at bq;cases bq
  refine⟨tr,_,rfl,SqT.of (sm _ _ Me bq),rfl,_,_,rfl,_,_,rfl,_,_,rfl,_,_,rfl,_,_,rfl,_,_,rfl,rfl,?_⟩;refine⟨_,rfl,_,rfl,l1,_,fl r 0,_,rfl,rfl,SqL.of el,a0,jN z00,_,rfl,_,rfl,_,rfl,_,_,rfl,rfl,_,_,rfl,rfl,_,_,rfl,rfl,.inl z00,_,rfl,_,_,rfl,rfl,.inr z00,_,_,rfl,rfl,l1,_,fl r 0,(fl r 0).toNat,rfl,rfl,el,qz a0 (by rw[zA1];lia),?_⟩;rw[jM];exact⟨_,_,_,_,_,_,_,rfl,λb o hb e=>by rw[aA hb];exact sm _ _ hb e,aa,(Zao ..).trans l8⟩
 .rintro σ Hc ⟨x5,x6,x7,x8,x9,fe,L,rfl,sm,el,l8⟩;dsimp only;exact⟨_,rfl,q _ Hc λb o e=>sm _ _ (aD e fH) (B0 _ _ e)⟩
def clY(ps ss:PK)(y:Nat):Nat->PK
 |0=>[]
 |n+1=>clY ps ss y n++fM ps ss (n:Int) (y:Int)
def oH(ps ss:PK):Nat->PK
 |0=>[]
 |m+1=>oH ps ss m++clY ps ss m 3
theorem uL(h:ps.length<=10):∀n,(clY ps ss y n).length<=80*n
 |0=>zA3 _
 |n+1=>by
  show(clY ps ss y n++fM ps ss n y).length<=_;rw[zA2];have:=uL (ss:=ss) (y:=y) h n;have:=lw (ss:=ss) (sort:=(n:Int)) (year:=(y:Int)) h;lia
theorem sY(h:ps.length<=10):∀m,(oH ps ss m).length<=240*m
 |0=>zA3 _
 |m+1=>by
  show(oH ps ss m++clY ps ss m 3).length<=_;rw[zA2];have:=sY (ss:=ss) h m;have:=uL (ss:=ss) (y:=m) h 3;lia
theorem Fz(hu:un ps ss=none)(h5:∀s∈ss,s.length=5)(okp:∀r∈ps,okP r):∀n,∀r∈clY ps ss y n,okO ps r
 |0,r,hr=>nomatch hr
 |n+1,r,hr=>(zA6.mp hr).elim (Fz hu h5 okp n r) λz=>(sW hu h5 okp r z).1
theorem wK(hu:un ps ss=none)(h5:∀s∈ss,s.length=5)(okp:∀r∈ps,okP r):∀m,∀r∈oH ps ss m,okO ps r
 |0,r,hr=>nomatch hr
 |m+1,r,hr=>(zA6.mp hr).elim (wK hu h5 okp m r) (Fz hu h5 okp 3 r)
theorem okO.by{ps rs:PK}(h:∀r∈rs,okO ps r):∀r∈rs,r.length=4/\0<=fl r 2/\fl r 2<8:=λr hr=>⟨(h r hr).l,(h r hr).h0,(h r hr).h1⟩
def Kv:PK->PK->PK->Int->VK->Hp->Prop:=λcs ps ss y Q H=>∀k xk H',Same H H'->H k=none->H' k=some (.lst xk)->Els H' xk (oH ps ss (y.toNat+1))->Q (.ref k) H'
theorem scO1:FnScope ["book","year","clips","promises","sales","claims","at","sort"] ["book","year"] (az (top 66)):=fQS
theorem Ih(F:Fun K "claims_to" "claims_to" (top 66) f fd)(N:Nums mg)(Tr:mg "range"=none)(c3:Cal P w K mg base 2 "claims_in" ["promises","sales","sort","year"] qG):FnOk P w K mg base CX0 3 f fd ["book","year"] (BV Kv):=by
 refine F.oq scO1 λcdv A outer s H vs Q E hr h=>?_;obtain⟨bk,y,ac,xc,cs,ap,xp,ps,af,xs,ss,rfl,B,y0,y1,q⟩:=h;obtain⟨t1,e1⟩:=N.sorts
 refine⟨_,aB (cN (pv 0) (bQ rfl (ao (pgn 2 scO1.nd) (ao (pgn 3 scO1.nd) (ao (pgn 4 scO1.nd) aV)))))
  (aB (pss 5 scO1.nd (dJ aj))
  (aB (cG zB7 rfl (cY rfl Tr (aq (aO bT (pv 1) au) aj)) (pgn 6 scO1.nd)
   (aF (cG zB7 rfl (cY rfl Tr (aq (bO (v:=.int 3) rfl e1 ⟨_,rfl⟩) aj)) (pgn 7 scO1.nd)
    (aF (jX (i:=5) scO1.nd rfl (Or.inl rfl) (aG c3 hr (aq (pv 3) (aq (pv 4) (aq (pv 7) (aq (pv 6) aj))))) nu)))))
  (aF (aN (pv 5))))),?_⟩
 obtain⟨n,rfl⟩:∃n:Nat,y=n:=⟨y.toNat,z00⟩
 unfold Kv at q;rw[zAi]at q;have hn:n<20:=by have:=B.lc;lia
 have ej:=zK B.un B.h5;refine aC ?_;refine⟨_,rfl,bk,_,rfl,SqT.of B.e,rfl,_,_,rfl,_,_,rfl,_,_,rfl,rfl,?_⟩;dsimp only;refine aC (aP ?_);refine⟨zL,λl hl=>?_⟩;have s0:=Same.upd (o:=.lst []) hl;have EF:upd H l (.lst []) l=some (.lst []):=aa;refine aJ ?_;dsimp only;refine aC ?_;refine⟨_,rfl,_,_,rfl,rfl,(n:Int)+1,rfl,z00,z00,?_⟩;refine eQ (lo:=0) (λi σ Hc=>∃x6 x7 xl,σ=[some (.ref bk),some (.int n),some (.ref ac),some (.ref ap),some (.ref af),some (.ref l),x6,x7]/\Same H Hc/\Hc l=some (.lst xl)/\Els Hc xl (oH ps ss i)) ?_ ?_ ?_
 .exact⟨none,none,[],rfl,s0,EF,Els.nil⟩
 .rintro i σ Hc hi ⟨x6,x7,xl,rfl,sc,el,cq⟩;refine aJ ?_;refine rd_E λDe rq=>?_;refine⟨3,rfl,by decide,by decide,?_⟩;refine eQ (lo:=0) (n:=3) (λj σ Hd=>∃x7 xl,σ=[some (.ref bk),some (.int n),some (.ref ac),some (.ref ap),some (.ref af),some (.ref l),some (.int (0+(i:Int))),x7]/\Same H Hd/\Hd l=some (.lst xl)/\Els Hd xl (oH ps ss i++clY ps ss i j)) ?_ ?_ ?_
  .exact⟨_,xl,rfl,sc,el,by show Els Hc xl (oH ps ss i++[]);rw[zAn];exact cq⟩
  .rintro j σ Hd hj ⟨x7,xl,rfl,sd,el,cq⟩;refine aJ ?_;have B2:=B.same sd;refine⟨_,rfl,_,rfl,_,rfl,_,rfl,_,rfl,ap,xp,ps,af,xs,ss,_,_,rfl,B2.rp,B.lp,B.okp,B2.rs,B.ls,ej,λk xk H3 s3 nk ek gy=>?_⟩;have i0:(0:Int)+(i:Int)=(i:Int):=Int.zero_add _;have j0:(0:Int)+(j:Int)=(j:Int):=Int.zero_add _;rw[i0,j0]at gy;have a1:=cq.1;have a2:=gy.1;have b1:=sY (ss:=ss) B.lp i;have b2:=uL (ss:=ss) (y:=i) B.lp j;have b3:=lw (ss:=ss) (sort:=(j:Int)) (year:=(i:Int)) B.lp;rw[zA2]at a1;refine⟨l,k,xl,xk,rfl,rfl,s3 _ _ el,ek,by rw[sizeLine_eq];lia,?_⟩;refine⟨_,xl++xk,rfl,λb o e=>?_,aa,?_⟩
   .rw[aA (aD e hl)];exact s3 _ _ (sd _ _ e)
   .have e3:=((cq.same s3).app gy).keep (H':=upd H3 l (.lst (xl++xk))) λb z e=>by
     rw[aA λw=>?_]
     .exact e
     .rw[w,s3 _ _ el]at e;cases e
    rw[zAf]at e3;exact e3
  .rintro σ Hd ⟨x7,xl,rfl,sd,el,cq⟩;exact rq _ _ ⟨_,_,xl,rfl,sd,el,cq⟩
 .rintro σ Hc ⟨x6,x7,xl,rfl,sc,el,cq⟩;dsimp only;exact⟨_,rfl,q l xl Hc sc hl el cq⟩
theorem scO2:FnScope ["book","year","given","gifts","owed","left"] ["book","year"] (az (top 68)):=fQS
theorem Ii(F:Fun K "sums_by" "sums_by" (top 68) f fd)(Tl:mg "list"=none)(Tz:mg "zip"=none)(c1:Cal P w K mg base 8 "refuse_no_year" ["book","year"] (wH HQ))(c2:Cal P w K mg base 10 "years_given" ["book","year"] uI)(c3:Cal P w K mg base 3 "claims_to" ["book","year"] (BV Kv))(c4:Cal P w K mg base 11 "owed_behind" ["book","year"] (BV sX))(c5:Cal P w K mg base 1 "by_holder" ["rows"] Jf):FnOk P w K mg base CX0 12 f fd ["book","year"] (wH HR):=by
 refine F.oq scO2 λcdv A outer s H vs Q E hr h=>?_;obtain⟨S,bk,y,d,ac,xc,cs,ap,xp,ps,af,xs,ss,rfl,th,hz,hb,B,y0,y1,q⟩:=h
 refine⟨_,aB (cA (aG c1 hr (aq (pv 0) (aq (pv 1) aj))))
  (aB (pss 2 scO2.nd (dJ aj))
  (aB (cG zB7 rfl (dC (aG c2 hr (aq (pv 0) (aq (pv 1) aj)))) (bQ rfl (ao (pgn 3 scO2.nd) (ao (pgn 4 scO2.nd) (ao (pgn 5 scO2.nd) aV))))
   (aF (jX (i:=2) scO2.nd rfl (Or.inl rfl) (pv 3) nu)))
  (aF (aN (Z3.pe_lzip3 hr.hd rfl Tl rfl Tz (aq (aG c5 hr (aq (aG c3 hr (aq (pv 0) (aq (pv 1) aj))) aj)) (aq (aG c5 hr (aq (pv 2) aj)) (aq (aG c5 hr (aq (aG c4 hr (aq (pv 0) (aq (pv 1) aj))) aj)) aj)))))))),?_⟩
 obtain⟨n,rfl⟩:∃n:Nat,y=n:=⟨y.toNat,z00⟩
 have hn:n<20:=by have:=B.lc;lia
 refine aC ?_;refine⟨_,rfl,_,rfl,S,bk,(n:Int),d,ac,xc,cs,ap,xp,ps,af,xs,ss,rfl,th,hz,hb,B,y0,y1,λH1 s1=>?_⟩;dsimp only;refine aC (aP ?_);refine⟨zL,λl hl=>?_⟩;have s2:=s1.updR (o:=.lst []) hl;have UD:H l=none:=s1.free hl;have el2:upd H1 l (.lst []) l=some (.lst []):=aa;generalize upd H1 l (.lst [])=H2 at s2 el2⊢;have B2:=B.same s2;refine aJ ?_;dsimp only;refine aC ?_;refine⟨_,rfl,_,rfl,bk,(n:Int),ac,xc,cs,ap,xp,ps,af,xs,ss,rfl,B2.e,B2.rc,B.okc,B.lc,y0,y1,B2.rp,B.lp,B.okp,B2.rs,B.ls,B.h5,B.un,λly ts H3 s3 PJ PL lt hy=>⟨ly,rfl,⟨_,SqL.of PL⟩,?_⟩⟩;have el3:=s3 _ _ el2
 have LY:ly≠l:=λz=>by
  rw[z,el2]at PJ;cases PJ
 refine gQ (xs:=ts.map V.ref) (λi σ Hc=>∃x3 x4 x5 xl R,σ=[some (.ref bk),some (.int n),some (.ref l),x3,x4,x5]/\(∀b o,b≠l->H3 b=some o->Hc b=some o)/\Hc l=some (.lst xl)/\Els Hc xl R/\(∀r∈R,okO ps r)/\R.length<=i*4800) ?_ ?_ ?_ ?_
 .exact⟨none,none,none,[],[],rfl,λ_ _ _ e=>e,el3,Els.nil,λ_ h=>(nomatch h),zAp _⟩
 .rintro i σ Hc hi ⟨x3,x4,x5,xl,R,rfl,sc,el,cq,GB,lR⟩;exact SqL.of (sc _ _ LY PL)
 .rintro i x σ Hc hx ⟨x3,x4,x5,xl,R,rfl,sc,el,cq,GB,lR⟩;rw[zAb]at hx;obtain⟨a,ha,rfl⟩:=Option.map_eq_some_iff.mp hx
  have hi:i<n+1:=by
   have:=(zAa.mp ha).1;lia
  obtain⟨g,k,tl,xg,xk,G,_,_,e1,n1,n2,d1,d2,e2,e3,e4,e5,e6,e7,gk,gl,_⟩:=hy i a ha
  have na:a≠l:=λz=>by
   rw[z,el3]at e1;cases e1
  have ng:g≠l:=λz=>by
   rw[z,el2]at n1;cases n1
  refine⟨a,_,rfl,SqT.of (sc _ _ na e1),rfl,_,_,rfl,_,_,rfl,_,_,rfl,rfl,?_⟩;have a1:=cq.1;have a2:=e3.1;refine⟨_,rfl,_,rfl,l,g,xl,xg,rfl,rfl,el,sc _ _ ng e2,by rw[sizeLine_eq];lia,?_⟩
  have kp:∀b z,Hc b=some (.tup z)->upd Hc l (.lst (xl++xg)) b=some (.tup z):=λb z e=>by
   rw[aA λw=>?_]
   .exact e
   .rw[w,el]at e;cases e
  refine⟨_,_,_,xl++xg,R++G,rfl,λb o nb e=>by rw[aA nb];exact sc _ _ nb e,aa,?_,λr hr=>(zA6.mp hr).elim (GB r) (gk r),by rw[zA2];lia⟩;have ex:Els Hc xg G:=e3.keep λb z e=>sc _ _ (λw=>by rw[w,el3]at e;cases e) e;exact(cq.app ex).keep kp
 .rintro σ Hc ⟨x3,x4,x5,xl,R,rfl,sc,el,cq,GB,lR⟩;have sH:Same H Hc:=λb o e=>sc _ _ (aD e UD) (s3 _ _ (s2 _ _ e));have BC:=B.same sH;dsimp only;refine dZ ?_;refine⟨_,rfl,_,rfl,bk,(n:Int),ac,xc,cs,ap,xp,ps,af,xs,ss,rfl,BC,y0,y1,λk1 UE H4 s4 n4 e4 el4=>?_⟩;rw[zAi]at el4;refine⟨k1,UE,_,rfl,e4,el4,okO.by (wK B.un B.h5 B.okp _),λr1 L1 H5 s5 n5 Za A1 e5=>?_⟩;have GH:=s4.trans s5;refine⟨_,rfl,l,xl,_,rfl,GH _ _ el,cq.same GH,okO.by GB,λr2 L2 H6 s6 n6 Zb A2 e6=>?_⟩;have UG:=GH.trans s6;refine⟨_,rfl,_,rfl,bk,(n:Int),ac,xc,cs,ap,xp,ps,af,xs,ss,rfl,BC.same UG,y0,y1,λk3 UH R3 H7 s7 n7 Zc e7 AI ow=>?_⟩;refine⟨k3,UH,_,rfl,e7,AI,okO.by ow.ok,λr3 L3 H8 s8 n8 Zd A3 e8=>?_⟩;have PN:=(s6.trans s7).trans s8;have UI:=GH.trans PN;refine⟨r1,r2,r3,_,_,_,rfl,SqL.of (PN _ _ e5),SqL.of (s8 _ _ (s7 _ _ e6)),SqL.of e8,by rw[zA1,zA1,A1,A2],by rw[zA1,zA1,A1,A3],by rw[zA1,A1];decide,λlz as H9 s9 nz OK ez Ze hz=>?_⟩;exact q _ H9 ((sH.trans UI).trans s9)
theorem either(F:FnOk P w K mg base CX0 k f fd ps PQ)(G:FnOk P w K mg base CX k f fd ps PR):FnOk P w K mg base CX k f fd ps (λvs H Q E=>PQ vs H Q E\/PR vs H Q E):=
 ⟨λvs H Q E h=>h.elim (F.len vs H Q E) (G.len vs H Q E),λA outer s H args us vs Q E hr e b v h=>h.elim (λh=>codeAny_mono (F.run A outer s H args us vs Q E hr e b v h) λr s' hq=>by
  cases r with
  |ok o=>
   cases o with
   |ret u=>exact hq
   |_=>exact(hq).elim
  |error x=>exact(hq).elim) λh=>G.run A outer s H args us vs Q E hr e b v h⟩
def FJ(Cs:Nat->Addr)(o:Option Nat)(R:VK->Hp->Prop)(H:Hp)(Q:VK)(E:XK):Prop:=(∀j,o=some j->∀a H',Same H H'->H' a=none->E (.ref a) (some (Cs j)) H')/\(o=none->R Q H)
def wL:VK->Hp->Prop:=λQ H=>∀H',Same H H'->Q .non H'
def kindB(d:PyData):Option Nat:=if cQ d=false then some 3 else none
def fP(d y:PyData):Option Nat:=if cQ d=false then some 3 else if dN y 0 ((items (part d 0)).length-1)=false then some 5 else none
def FN(Cs:Nat->Addr)(R:VK->Hp->Prop):Sp:=λvs H Q E=>∃S v d,vs=[v]/\IsTh S H v d/\sz d<=4000/\FJ Cs (kindB d) R H Q E
def wM(Cs:Nat->Addr)(R:VK->Hp->Prop):Sp:=λvs H Q E=>∃S v d vy y,vs=[v,vy]/\IsTh S H v d/\sz d<=4000/\IsTh S H vy y/\sz y<=4000/\FJ Cs (fP d y) R H Q E
def Ng(Cs:Nat->Addr):Sp:=λvs H Q E=>∃S ac xc vy y,vs=[.ref ac,vy]/\H ac=some (.tup xc)/\IsTh S H vy y/\sz y<=4000/\FJ Cs (if dN y 0 (xc.length-1)=false then some 5 else none) wL H Q E
def zN(Cs:Nat->Addr):Sp:=λvs H Q E=>∃S v d vy y j,vs=[v,vy]/\IsTh S H v d/\sz d<=4000/\IsTh S H vy y/\sz y<=4000/\fP d y=some j/\∀a H',Same H H'->H' a=none->E (.ref a) (some (Cs j)) H'
theorem Ij(h:dN d lo hi=true):∃i,d=.int i/\lo<=i/\i<=hi:=by
 unfold dN at h;rw[zAc,zAc,z08,z08]at h;obtain⟨h0,h1,h2⟩:=h
 cases d with
 |int i=>exact⟨i,rfl,h1,h2⟩
 |_=>cases h0
section
theorem FP(F:Fun K "refuse_no_book" "refuse_no_book" (top 44) f fd)(O3:PyProof.Rows.OwnCls "NoBook" (Cs 3) VE "ValueError.__new__" mg base)(c1:Cal P w K mg base 6 "is_book" ["thing"] (spT cQ)):FnOk P w K mg base (CX1 P w) 7 f fd ["thing"] (FN Cs wL):=by
 refine F.oqX Ja λcdv A outer s H vs Q E hr h=>?_;obtain⟨S,v,d,rfl,th,hz,q1,q2⟩:=h;refine⟨_,aF (bR (cg (bL (aG c1 hr (aM (pv 0) aj)))) (aF (vR O3 PySem.F.excBase_ValueError rfl rfl rfl (aq dX aj) iw)) aY),?_⟩;refine⟨_,rfl,S,v,d,rfl,th,hz,λH1 s1=>⟨_,rfl,?_⟩⟩
 cases e:cQ d with
 |true=>exact aX (q2 (zAy (by rw[e];decide)) _ s1)
 |false=>exact bh ⟨by decide,λa ha=>q1 3 (zAz e) a _ s1 ha⟩
theorem FQ(F:Fun K "refuse_no_year_of" "refuse_no_year_of" (top 61) f fd)(T:Mg mg)(O5:PyProof.Rows.OwnCls "NoYear" (Cs 5) VE "ValueError.__new__" mg base)(c1:Cal P w K mg base 2 "is_whole_from" ["thing","least","most"] (jP dN)):FnOk P w K mg base (CX1 P w) 3 f fd ["clips","year"] (Ng Cs):=by
 refine F.oqX Jb λcdv A outer s H vs Q E hr h=>?_;obtain⟨S,ac,xc,vy,y,rfl,ec,ty,zy,q1,q2⟩:=h;refine⟨_,aF (bR (cg (bL (aG c1 hr (aq (pv 1) (aq au (aq (aO dY (aK aZ rfl T.len PySem.boot_len (aq (pv 0) aj)) au) aj)))))) (aF (vR O5 PySem.F.excBase_ValueError rfl rfl rfl (aq dX aj) iw)) aY),?_⟩;refine⟨_,rfl,_,rfl,ac,_,rfl,.inr (SqT.of ec),_,_,rfl,rfl,S,vy,y,0,_,rfl,ty,zy,λH1 s1=>⟨_,rfl,?_⟩⟩
 cases e:dN y 0 ((xc.length:Int)-1)with
 |true=>exact aX (q2 (zAy (by rw[e];decide)) _ s1)
 |false=>exact bh ⟨by decide,λa ha=>q1 5 (zAz e) a _ s1 ha⟩
theorem BZ(F:Fun K "refuse_no_year" "refuse_no_year" (top 62) f fd)(c1:oR P w K mg base 7 "refuse_no_book" ["thing"] (FN Cs wL))(c2:oR P w K mg base 3 "refuse_no_year_of" ["clips","year"] (Ng Cs)):FnOk P w K mg base (CX1 P w) 8 f fd ["book","year"] (wM Cs wL):=by
 refine F.oqX Jc λcdv A outer s H vs Q E hr h=>?_;obtain⟨S,v,d,vy,y,rfl,th,hz,ty,zy,q1,q2⟩:=h;refine⟨_,aB (cA (gf (E:=E) c1 hr z02 rfl iw rfl (aq (pv 0) aj))) (aF (cA (gf (E:=E) c2 hr z02 rfl iw rfl (aq (pX bj (pv 0) au) (aq (pv 1) aj))))),?_⟩;refine aC ?_;unfold fP at q1 q2;refine⟨_,rfl,S,v,d,rfl,th,hz,λj hj a H' s' ha=>?_,λkn H1 s1=>?_⟩
 .unfold kindB at hj;split at hj
  .rename_i e
   exact q1 j (by rw[zAz e];exact hj) a H' s' ha
  .cases hj
 have hb:cQ d=true:=by
  unfold kindB at kn;split at kn
  .cases kn
  .rename_i h;simpa using h
 rw[zAy (by rw[hb];decide)]at q1 q2;obtain⟨bk,ac,xc,cs,ap,xp,ps,af,xs,ss,rfl,rfl,B⟩:=p8 (th.same s1) hb
 have hl:(items (part (.tuple [fG cs,fG ps,fG ss]) 0)).length=xc.length:=by
  show(cs.map rowD).length=_;rw[zA1,B.rc.l]
 rw[hl]at q1 q2;exact⟨_,rfl,bk,_,0,.ref ac,rfl,rfl,SqT.of B.e,rfl,_,rfl,S,ac,xc,vy,y,rfl,B.rc.e,ty.same s1,zy,λj hj a H' s' ha=>q1 j hj a H' (s1.trans s') ha,λk H' s'=>q2 k H' (s1.trans s')⟩
theorem FT(F:Fun K "owed_by" "owed_by" (top 67) f fd)(c1:oR P w K mg base 8 "refuse_no_year" ["book","year"] (wM Cs wL)):FnOk P w K mg base (CX1 P w) 12 f fd ["book","year"] (zN Cs):=by
 refine F.oqX Jd λcdv A outer s H vs Q E hr h=>?_;obtain⟨S,v,d,vy,y,j,rfl,th,hz,ty,zy,kj,q1⟩:=h;exact⟨_,aB (cA (gf (E:=E) c1 hr z02 rfl iw rfl (aq (pv 0) (aq (pv 1) aj)))) gK,aC ⟨_,rfl,_,rfl,S,v,d,vy,y,rfl,th,hz,ty,zy,λj' hj a H' s' ha=>by rw[kj]at hj;cases hj;exact q1 a H' s' ha,λkn=>by rw[kj]at kn;cases kn⟩⟩
theorem FW(F:Fun K "sums_by" "sums_by" (top 68) f fd)(c1:oR P w K mg base 8 "refuse_no_year" ["book","year"] (wM Cs wL)):FnOk P w K mg base (CX1 P w) 12 f fd ["book","year"] (zN Cs):=by
 refine F.oqX scO2 λcdv A outer s H vs Q E hr h=>?_;obtain⟨S,v,d,vy,y,j,rfl,th,hz,ty,zy,kj,q1⟩:=h;exact⟨_,aB (cA (gf (E:=E) c1 hr z02 rfl iw rfl (aq (pv 0) (aq (pv 1) aj)))) gK,aC ⟨_,rfl,_,rfl,S,v,d,vy,y,rfl,th,hz,ty,zy,λj' hj a H' s' ha=>by rw[kj]at hj;cases hj;exact q1 a H' s' ha,λkn=>by rw[kj]at kn;cases kn⟩⟩
theorem Ca(F:Fun K "pence_owed" "pence_owed" (top 69) f fd)(c1:oR P w K mg base 8 "refuse_no_year" ["book","year"] (wM Cs wL)):FnOk P w K mg base (CX1 P w) 12 f fd ["book","year"] (zN Cs):=by
 refine F.oqX scKP λcdv A outer s H vs Q E hr h=>?_;obtain⟨S,v,d,vy,y,j,rfl,th,hz,ty,zy,kj,q1⟩:=h;exact⟨_,aB (cA (gf (E:=E) c1 hr z02 rfl iw rfl (aq (pv 0) (aq (pv 1) aj)))) gK,aC ⟨_,rfl,_,rfl,S,v,d,vy,y,rfl,th,hz,ty,zy,λj' hj a H' s' ha=>by rw[kj]at hj;cases hj;exact q1 a H' s' ha,λkn=>by rw[kj]at kn;cases kn⟩⟩
theorem uM(hR:∀cs ps ss y Q H,anyR Q H->R cs ps ss y Q H)(G:FnOk P w K mg base CX0 12 f fd ["book","year"] (wH R))(B:FnOk P w K mg base (CX1 P w) 12 f fd ["book","year"] (zN Cs)):FnOk P w K mg base (CX1 P w) 12 f fd ["book","year"] (wM Cs anyR):=by
 refine(either G B).imp λvs H Q E h=>?_;obtain⟨S,v,d,vy,y,rfl,th,hz,ty,zy,q1,q2⟩:=h
 cases k:fP d y with
 |some j=>exact .inr ⟨S,v,d,vy,y,j,rfl,th,hz,ty,zy,k,q1 j k⟩
 |none=>
  have q:=q2 k;unfold fP at k;split at k
  .cases k
  rename_i hb
  split at k
  .cases k
  rename_i hy
  have hb:cQ d=true:=by simpa using hb
  obtain⟨bk,ac,xc,cs,ap,xp,ps,af,xs,ss,rfl,rfl,BA⟩:=p8 th hb;obtain⟨i,rfl,i0,i1⟩:=Ij (by simpa using hy:dN y 0 _=true);have hl:(items (part (.tuple [fG cs,fG ps,fG ss]) 0)).length=cs.length:=zA1 _;cases ty;exact .inl ⟨S,bk,i,_,ac,xc,cs,ap,xp,ps,af,xs,ss,rfl,th,hz,hb,BA,i0,z00,hR _ _ _ _ _ _ q⟩
theorem FZ(F:Fun K "paid_before" "paid_before" (top 70) f fd)(c1:oR P w K mg base 7 "refuse_no_book" ["thing"] (FN Cs wL)):FnOk P w K mg base (CX1 P w) 8 f fd ["book"] (λvs H Q E=>∃S v d,vs=[v]/\IsTh S H v d/\sz d<=4000/\cQ d=false/\∀a H',Same H H'->H' a=none->E (.ref a) (some (Cs 3)) H'):=by
 refine F.oqX scKQ λcdv A outer s H vs Q E hr h=>?_;obtain⟨S,v,d,rfl,th,hz,kj,q1⟩:=h;exact⟨_,aB (cA (gf (E:=E) c1 hr z02 rfl iw rfl (aq (pv 0) aj))) gK,aC ⟨_,rfl,S,v,d,rfl,th,hz,λj' hj a H' s' ha=>by unfold kindB at hj;rw[zAz kj]at hj;cases hj;exact q1 a H' s' ha,λkn=>by unfold kindB at kn;rw[zAz kj]at kn;cases kn⟩⟩
theorem Cd(G:FnOk P w K mg base CX0 8 f fd ["book"] Fx)(B:FnOk P w K mg base (CX1 P w) 8 f fd ["book"] (λvs H Q E=>∃S v d,vs=[v]/\IsTh S H v d/\sz d<=4000/\cQ d=false/\∀a H',Same H H'->H' a=none->E (.ref a) (some (Cs 3)) H')):FnOk P w K mg base (CX1 P w) 8 f fd ["book"] (FN Cs anyR):=by
 refine(either G B).imp λvs H Q E h=>?_;obtain⟨S,v,d,rfl,th,hz,q1,q2⟩:=h
 cases k:cQ d with
 |false=>exact .inr ⟨S,v,d,rfl,th,hz,k,q1 3 (zAz k)⟩
 |true=>
  obtain⟨bk,ac,xc,cs,ap,xp,ps,af,xs,ss,rfl,rfl,BA⟩:=p8 th k;exact .inl ⟨S,bk,_,ac,xc,cs,ap,xp,ps,af,xs,ss,rfl,th,hz,k,BA,λv' H' s'=>q2 (zAy (by rw[k];decide)) v' H' s'⟩
end
def fY(bs:List PyData)(d:PyData):Bool:=du d&&(decide ((items d).length=bs.length)&&(List.zipWith jg (items d) bs).all id)
def jQ(d:PyData)(m:Int)(bs:List PyData):Bool:=du d&&(decide (((items d).length:Int)<=m)&&(items d).all (fY bs))
inductive SpAreI(vs:List V)(H:Hp)(Q:VK):Prop
 |mk:∀S v d m lb zb bs,(vs=[v,.int m,.ref lb])->(IsTh S H v d)->(sz d<=4000)->(H lb=some (.lst zb))->(IsThs (λ_=>False) H zb bs)->(bs.length<=6)->((∀e∈bs,∃lo hi,e=.tuple [.int lo,.int hi]))->(∀H',Same H H'->Q (.bl (jQ d m bs)) H')->SpAreI  vs H Q
def Jg:Sp:=λvs H Q _=>SpAreI  vs H Q
theorem qp:∀{xs:List V} {ds:List PyData} {i:Nat} {x:V} {d:PyData},IsThs S H xs ds->xs[i]?=some x->ds[i]?=some d->IsTh S H x d
 |_,_,i,_,_,.nil,h,_=>by simp at h
 |_,_,0,_,_,.cons t _,h,g=>by cases h;cases g;exact t
 |_,_,i+1,_,_,.cons _ r,h,g=>qp r (by simpa using h) (by simpa using g)
theorem scW:FnScope [AAb,AAv,AAr] [AAb,AAv,AAr] (az (top 87)):=fQS
theorem Ce(F:Fun K ABd ABd (top 87) f fd)(T:Mg mg):FnOk P w K mg base CX0 1 f fd [AAb,AAv,AAr] (jP dN):=by
 refine F.oq scW λcdv A outer s H vs Q E hr h=>?_;obtain⟨S,v,d,n,m,rfl,th,hz,q⟩:=h
 refine⟨_,aF (aN (cF (aK bK rfl T.isinstance boot_isinstance (aM (pv 0) (aM (dh rfl T.int boot_int (v:=.ty "int") rfl) aj)))
  (cF (Cj (aK bK rfl T.isinstance boot_isinstance (aM (pv 0) (aM (dh rfl T.bool boot_bool (v:=.ty "bool") rfl) aj)))) (eV (cW cD cD (pv 1) (pv 0) (pv 2)))))),?_⟩
 refine⟨_,rfl,v,_,"int",mY d,rfl,th.ty,yH d,_,rfl,?_⟩;have fin:=q H (Same.refl H);unfold dN bD at fin
 cases e:mY d with
 |false=>
  rw[e]at fin;exact aX fin
 |true=>
  rw[e]at fin;refine bh ⟨_,rfl,v,_,"bool",lG d,rfl,th.ty,vp d,_,rfl,_,rfl,?_⟩
  cases e2:lG d with
  |true=>
   rw[e2]at fin;exact aX fin
  |false=>
   refine bh ?_
   cases d with
   |int i=>
    cases th;exact cO (fO rfl) (fO rfl) (fO rfl) _ fin
   |bool b=>cases e2
   |_=>cases e
theorem scAr:FnScope [AAb,AAf,AAx,"_law_row"] [AAb,AAf,AAx] (az (top 88)):=fQS
theorem Kw:([AAk,AAv,AAr]:List Str).Nodup:=by decide +kernel
theorem Ky(F:Fun K "_law_are" "_law_are" (top 88) f fd)(T:Mg mg)(Tz:mg "zip"=none)(c1:Cal P w K mg base 1 ABd [AAb,AAv,AAr] (jP dN)):
  FnOk P w K mg base CX0 2 f fd [AAb,AAf,AAx] Jg:=by
 refine F.oq scAr λcdv A outer s H vs Q E hr h=>?_;obtain⟨S,v,d,m,lb,zb,bs,rfl,th,hz,eb,tb,Zf,IB,q⟩:=h
 refine K33P.ok_b (aH ⟨bR (PW.pt (iG (cg (bL (aK bK rfl T.isinstance boot_isinstance (aq (pv 0) (aq (dh rfl T.tuple boot_tuple (v:=.ty "tuple") rfl) aj)))))
   (j7 (aW jm (aK aZ rfl T.len PySem.boot_len (aq (pv 0) aj)) (pv 1) (aU _))))) (aF (aN iD)) aY⟩
  (aH ⟨cG zB7 rfl (gF (pv 0)) (pgn 3 scAr.nd)
   (jU (aH ⟨bR (PW.pt (iG (cg (bL (aK bK rfl T.isinstance boot_isinstance (aq (pv 3) (aq (dh rfl T.tuple boot_tuple (v:=.ty "tuple") rfl) aj)))))
     (j7 (aW lB (aK aZ rfl T.len PySem.boot_len (aq (pv 3) aj)) (aK aZ rfl T.len PySem.boot_len (aq (pv 2) aj)) (aU _))))) (aF (aN iD)) aY⟩
    (bx ⟨bR (cg (bL (aK (gj rfl) rfl T.all boot_all (aq (bW (g:=lA K 2 (bY (bG 0) (bY (lA K 2 (bY (bG 1) (bY (bG 2) mQ))) mQ))) [AAk,AAv,AAr] [none,none,none] rfl (ZT.pi_zip true false rfl Tz (aq (pv 3) (aq (pv 2) aj)))
     (λC fp z06 s₂ H₂=>⟨dW rfl rfl (ao (pgn 0 Kw) (ao (dW rfl rfl (ao (pgn 1 Kw) (ao (pgn 2 Kw) aV))) aV)),bV,
      aG c1 hr (aq (pv 0) (aq (pv 1) (aq (pv 2) aj)))⟩) (λC=>trivial) ⟨rfl,rfl,rfl,rfl⟩) aj)))) (aF (aN iD)) aY⟩)))⟩
  (bx (fQ rY)))) ?_
 unfold jQ at q;refine aC ?_;refine⟨_,rfl,v,_,"tuple",du d,rfl,th.ty,ik d,_,rfl,?_⟩
 cases e:du d with
 |false=>
  rw[e]at q;exact bh (bh (q H (Same.refl H)))
 |true=>
  rw[e]at q;refine aX ?_
  cases th with
  |@tup a xs ds ea r=>
   have hl:=r.length;refine⟨_,rfl,a,xs,rfl,.inr (SqT.of ea),_,rfl,_,_,rfl,rfl,_,rfl,?_⟩;have q:∀H',Same H H'->Q (.bl (true&&(decide ((ds.length:Int)<=m)&&ds.all (fY bs)))) H':=q;by_cases e2:(xs.length:Int)>m
   .rw[zAu e2];rw[zB2 z00]at q;exact bh (q H (Same.refl H))
   .rw[zB2 e2];rw[zAu z00]at q;refine aX (bN ?_);dsimp only;refine aC ?_;refine⟨_,rfl,a,rfl,⟨_,SqT.of ea⟩,?_⟩;refine tG (xs:=xs) (λi σ Hc=>∃x,σ=[some (.ref a),some (.int m),some (.ref lb),x]/\Same H Hc/\(ds.take i).all (fY bs)=true) ⟨_,rfl,Same.refl H,rfl⟩ ?_ ?_ ?_
    .rintro i σ Hc hi ⟨x,rfl,sc,_⟩;exact SqT.of (sc _ _ ea)
    .rintro i x σ Hc hx ⟨x0,rfl,sc,al⟩;have hi:i<ds.length:=by rw[<-hl];exact(zAa.mp hx).1
     have bad:fY bs ds[i]=false->∀H',Same H H'->Q (.bl false) H':=λh H' s'=>by grind
     have good:fY bs ds[i]=true->(ds.take (i+1)).all (fY bs)=true:=λh=>by
      rw[List.take_succ_eq_append_getElem hi,List.all_append,al];simp[h]
     have tx:IsTh S Hc x ds[i]:=(qp r hx (zA0 hi)).same sc;have zx:sz ds[i]<=4000:=iy (zAh hi) hz;generalize ds[i]=dx at bad good tx zx;refine aJ (aC ?_);refine⟨_,rfl,x,_,"tuple",du dx,rfl,tx.ty,ik dx,_,rfl,?_⟩
     cases e3:du dx with
     |false=>exact bh (bh (bad (by unfold fY;rw[e3];rfl) Hc sc))
     |true=>
      refine aX ?_
      cases tx with
      |@tup b ys es ey ry=>
       have cx:=ry.length;refine⟨_,rfl,b,ys,rfl,.inr (SqT.of ey),_,rfl,lb,zb,rfl,.inl (SqL.of (sc _ _ eb)),rfl,_,rfl,?_⟩;have lz:=tb.length;by_cases e4:es.length=bs.length
       .rw[zAu (by rw[cx,lz,e4])];refine aX (bN ?_);dsimp only;refine⟨_,rfl,_,rfl,b,lb,ys,zb,rfl,SqT.of ey,SqL.of (sc _ _ eb),CT jg (λσ=>∃x y z,σ=[x,y,z]) ⟨_,_,_,rfl⟩ ey (sc _ _ eb) ry (tb.same sc) e4 (gn ry zx) ?_ λH3 s3 D hD=>⟨D,List.zipWith jg es bs,rfl,SqL.of aa,_,rfl,?_⟩⟩
        .rintro T x z dx dz σ H3 R hd he ⟨y1,y2,y3,rfl⟩ s3 eT tx tz hR;obtain⟨lo,hi,rfl⟩:=IB _ he;obtain⟨t,rfl,et⟩:=Kg tz;refine⟨T,_,rfl,SqT.of eT,rfl,_,_,rfl,_,_,rfl,⟨t,_,rfl,SqT.of et,rfl,_,_,rfl,_,_,rfl,rfl,rfl,?_⟩⟩;exact⟨_,rfl,_,rfl,_,rfl,S,x,dx,lo,hi,rfl,tx,iy hd zx,λH4 s4=>hR _ _ ⟨_,_,_,rfl⟩ s4⟩
        .have s4:Same H (upd H3 D (.lst ((List.zipWith jg es bs).map V.bl))):=(sc.trans s3).updR hD
         have er:fY bs (.tuple es)=(List.zipWith jg es bs).all id:=by
          show(true&&(decide (es.length=bs.length)&&_))=_;rw[zAu e4];rfl
         cases e5:(List.zipWith jg es bs).all id with
         |false=>exact bh (bad (er.trans e5) _ s4)
         |true=>exact aX ⟨_,rfl,s4,good (er.trans e5)⟩
       .rw[zB2 λz=>e4 (by injection z with z;lia)];exact bh (bad (by show(true&&(decide (es.length=bs.length)&&_))=false;rw[zB2 e4];rfl) Hc sc)
      |_=>cases e3
    .rintro σ Hc ⟨x,rfl,sc,al⟩;rw[hl,zAm]at al;rw[al]at q;exact q Hc sc
  |_=>cases e
mutual
def lowD:PyData->Bool
 |.int i=>decide (i.natAbs<2^100)
 |.tuple xs=>lowDs xs
 |_=>true
def lowDs:List PyData->Bool
 |[]=>true
 |x::xs=>lowD x&&lowDs xs
end
theorem lowDs_all:∀{ds:List PyData},lowDs ds=true↔∀d∈ds,lowD d=true
 |[]=>⟨λ_ d h=>(List.not_mem_nil h).elim,λ_=>rfl⟩
 |x::xs=>by
  show(lowD x&&lowDs xs)=true↔_;rw[zAc,lowDs_all (ds:=xs)]
  exact⟨λh d hd=>by
   cases hd with
   |head=>exact h.1
   |tail _ hd=>exact h.2 d hd,λh=>⟨h x (.head _),λd hd=>h d (.tail _ hd)⟩⟩
abbrev bC:List PyData:=List.replicate 3 (.tuple [.int 0,.int 999])
abbrev bS:List PyData:=List.replicate 5 (.tuple [.int (-10^31),.int (10^31)])
theorem zO(e:PyData):∀ds n,ds.length=n->(List.zipWith jg ds (List.replicate n e)).all id=ds.all λx=>jg x e
 |[],_,h=>by cases h;rfl
 |d::ds,_,h=>by
  cases h;show(jg d e&&(List.zipWith jg ds (List.replicate ds.length e)).all id)=_;rw[zO e ds _ rfl];rfl
theorem zQ(n:Nat)(e x:PyData):fY (List.replicate n e) x=(du x&&(decide ((items x).length=n)&&(items x).all λy=>jg y e)):=by
 unfold fY;rw[Zax];by_cases h:(items x).length=n
 .rw[zO e _ _ h]
 .rw[zB2 h];rfl
theorem G3(x:PyData):fY bC x=ie x:=by
 rw[zQ,oU];rfl
theorem G4(x:PyData):(fY bounds x&&decide (at_ x 2<=at_ x 3))=jk x:=by
 rw[Hq];unfold fY ye;rw[Bool.and_assoc,Bool.and_assoc];rfl
theorem wN(h:lowD x=true):fY bS x=bF x 5:=by
 rw[zQ];unfold bF bH
 cases x with
 |tuple ds=>
  have h:∀d∈ds,lowD d=true:=lowDs_all.mp h;show(true&&(decide (ds.length=5)&&ds.all λy=>jg y (.tuple [.int (-10^31),.int (10^31)])))=((true&&(decide ((5:Int)<=ds.length)&&decide ((ds.length:Int)<=5)))&&ds.all bD)
  have e1:(ds.all λy=>jg y (.tuple [.int (-10^31),.int (10^31)]))=ds.all bD:=by
   rw[Zau,Zae,Zae];refine⟨λg d hd=>?_,λg d hd=>?_⟩
   .have:=g d hd;unfold jg dN at this;rw[zAc]at this;exact this.1
   .have g:=g d hd;have h:=h d hd
    cases d with
    |int i=>
     have h:i.natAbs<2^100:=zB8 h;show(true&&(decide (-10^31<=i)&&decide (i<=10^31)))=true;rw[zAu z00,zAu z00];rfl
    |_=>cases g
  rw[e1];by_cases e:ds.length=5
  .rw[zAu e,zAu z00,zAu z00];rfl
  .rw[zB2 e];rcases Int.lt_or_le (ds.length:Int) 5 with z|z
   .rw[zB2 (by lia:¬(5:Int)<=ds.length)];rfl
   .rw[zB2 (by lia:¬(ds.length:Int)<=5),Bool.and_false];rfl
 |_=>rfl
theorem are_clips(d:PyData):(jQ d 20 bC&&decide (1<=(items d).length))=gG d:=by
 unfold jQ gG bH;rw[show fY bC=ie from funext G3]
 cases d with
 |tuple ds=>
  show((true&&(decide ((ds.length:Int)<=20)&&ds.all ie))&&decide (1<=ds.length))=((true&&(decide ((1:Int)<=ds.length)&&decide ((ds.length:Int)<=20)))&&ds.all ie);rw[show decide ((1:Int)<=ds.length)=decide (1<=ds.length)from decide_eq_decide.mpr z00];cases decide ((ds.length:Int)<=20)<;>cases ds.all ie<;>cases decide (1<=ds.length)<;>rfl
 |_=>rfl
theorem sZ(d:PyData):(jQ d 10 bounds&&(items d).all λx=>decide (at_ x 2<=at_ x 3))=eG d:=by
 unfold jQ eG bH;rw[show jk=λx=>fY bounds x&&decide (at_ x 2<=at_ x 3)from funext λx=>(G4 x).symm]
 have e:∀ds:List PyData,(ds.all λx=>fY bounds x&&decide (at_ x 2<=at_ x 3))=(ds.all (fY bounds)&&ds.all λx=>decide (at_ x 2<=at_ x 3)):=λds=>by
  induction ds with
  |nil=>rfl
  |cons x xs ih=>
   rw[List.all_cons,List.all_cons,List.all_cons,ih];cases fY bounds x<;>cases decide (at_ x 2<=at_ x 3)<;>cases xs.all (fY bounds)<;>rfl
 rw[e]
 cases d with
 |tuple ds=>
  show((true&&(decide ((ds.length:Int)<=10)&&ds.all (fY bounds)))&&ds.all λx=>decide (at_ x 2<=at_ x 3))=((true&&(decide ((0:Int)<=ds.length)&&decide ((ds.length:Int)<=10)))&&(ds.all (fY bounds)&&ds.all λx=>decide (at_ x 2<=at_ x 3)));rw[zAu (by lia:(0:Int)<=ds.length)];cases decide ((ds.length:Int)<=10)<;>cases ds.all (fY bounds)<;>rfl
 |_=>rfl
theorem are_sales(h:lowD d=true):jQ d 12 bS=fJ d:=by
 unfold jQ fJ bH
 cases d with
 |tuple ds=>
  have h:∀d∈ds,lowD d=true:=lowDs_all.mp h;show(true&&(decide ((ds.length:Int)<=12)&&ds.all (fY bS)))=((true&&(decide ((0:Int)<=ds.length)&&decide ((ds.length:Int)<=12)))&&ds.all λx=>bF x 5)
  have e:ds.all (fY bS)=ds.all λx=>bF x 5:=by
   rw[Zau,Zae,Zae];exact⟨λg d hd=>(wN (h d hd))▸g d hd,λg d hd=>(wN (h d hd)).symm▸g d hd⟩
  rw[e,zAu (by lia:(0:Int)<=ds.length)];cases decide ((ds.length:Int)<=12)<;>rfl
 |_=>rfl
end K33
namespace K33P
open PySem L2
def cutD(ds:List PyData)(lo hi:Option Int):List PyData:=(ds.drop (HT.sIx ds.length 0 lo)).take (HT.sIx ds.length ds.length hi-HT.sIx ds.length 0 lo)
section
theorem dG(h:IsThs S H vs ds)(lo hi:Option Int):IsThs S H (jn vs lo hi) (cutD ds lo hi):=by
 unfold jn cutD;rw[h.length];exact(h.drop _).take _
theorem zR:∀{vs:List V} {ds:List PyData},IsThs S H vs ds->IsThs S H vs.reverse ds.reverse
 |_,_,.nil=>.nil
 |_,_,.cons t r=>by
  rw[List.reverse_cons,List.reverse_cons];exact(zR r).append (.cons t .nil)
theorem mJ(h:d∈cutD ds lo hi):d∈ds:=List.mem_of_mem_drop (List.mem_of_mem_take h)
theorem wO:∀ds n,szs (ds.take n)<=szs ds
 |[],n=>by rw[List.take_nil];exact zA3 _
 |d::ds,0=>zAp _
 |d::ds,n+1=>by
  show sz d+szs (ds.take n)<=sz d+szs ds;have:=wO ds n;lia
theorem wQ:∀ds n,szs (ds.drop n)<=szs ds
 |[],n=>by rw[List.drop_nil];exact zA3 _
 |d::ds,0=>zA3 _
 |d::ds,n+1=>by
  show szs (ds.drop n)<=sz d+szs ds;have:=wQ ds n;lia
theorem mK(ds:List PyData)(lo hi:Option Int):szs (cutD ds lo hi)<=szs ds:=Zah (wO _ _) (wQ _ _)
theorem zT:∀ds,szs ds.reverse=szs ds
 |[]=>rfl
 |d::ds=>by
  rw[List.reverse_cons,fD,zT ds];show szs ds+(sz d+0)=sz d+szs ds;lia
theorem nZ(h:TuE σ H t vs)(ht:IsThs S H vs ds):ThE S σ H t (.tuple ds):=λH0 s0 Q q=>h H0 s0 _ λc H' s e=>q _ H' s (.tup e (ht.same (s0.trans s)))
theorem Ik(h:σ[i]?=some (some (.ref p)))(e:H p=some (.tup vs))(ht:IsThs S H vs ds)(hS:∀H',Same H H'->∀p,H' p=none->p≠sysModules->S p):
  ThE S σ H (tCB (λxs H Q=>∃p ys,xs=[.ref p]/\SqT K H p ys/\∀l,H l=none->l≠sysModules->Q (.ref l) (upd H l (.lst ys))) (bU (iz i) gW)) (.list ds):=λH0 s0 Q q=>
 ⟨_,h,p,vs,rfl,SqT.of (s0 _ _ e),λl hl nl=>q _ _ (Same.upd hl) (.lst (hS H0 s0 l hl nl) aa ((ht.same s0).same (Same.upd hl)))⟩
end
def Gd(n:Nat)(d:PyData):Prop:=tame d=true/\K33.lowD d=true/\sz d<=n
theorem eO(h:∀d∈ds,tame d=true/\K33.lowD d=true)(hz:1+szs ds<=n):Gd n (.tuple ds):=⟨nM λd hd=>(h d hd).1,K33.lowDs_all.mpr λd hd=>(h d hd).2,hz⟩
theorem Kz(h:∀d∈ds,tame d=true/\K33.lowD d=true)(hz:1+szs ds<=n):Gd n (.list ds):=⟨nM λd hd=>(h d hd).1,rfl,hz⟩
inductive SpRowGI(vs:List V)(H:Hp)(Q:VK):Prop
 |mk:∀st p xs ds,(vs=[.ref st,.ref p])->(iU H st)->(H p=some (.tup xs))->(IsThs (SS st) H xs ds)->(ds.length<=80)->((∀d∈ds,tame d=true/\K33.lowD d=true))->(∀v d H',Dr st H H'->Gd (2*szs ds+20) d->IsTh (SS st) H' v d->Q v H')->SpRowGI  vs H Q
def yp:Sp:=λvs H Q _=>SpRowGI  vs H Q
section
theorem scG:FnScope [AAa,AAy,"_law_kind","_law_at","_law_some"] [AAa,AAy] (az (top 85)):=fQS
theorem ok_rowG(F:Fun K AAz AAz (top 85) f fd)(T:Mg mg)(Tl:mg "list"=none)(Td:mg "dict"=none)(c1:Cal P w K mg base 1 AAg [AAa,AAh] dU):FnOk P w K mg base CX0 2 f fd [AAa,AAy] yp:=by
 refine F.oq scG λcdv A outer s H vs Q E hr h=>?_;obtain⟨st,p,xs,ds,rfl,bE,ep,th,l2,gd,q⟩:=h
 refine ok_b (aH ⟨wY (i:=2) (j:=3) rfl scG.nd rfl rfl z02 rfl rfl (aq (aG c1 hr (aq (pv 0) (aq au aj))) (aq (aG c1 hr (aq (pv 0) (aq (aO bT (aK aZ rfl T.len PySem.boot_len (aq (pv 1) aj)) au) aj))) aj)) rfl⟩
  (aH (fU 4 scG.nd (cz (aQ ⟨cH jT rfl Tl boot_list (aq (pv 1) aj)⟩
    (aQ ⟨aO fu (cu dF (pv 1) cR (cU (pv 3))) (cu dF (pv 1) (cU (aO bT (pv 3) au)) cR)⟩
    (aQ ⟨JN (pv 1)⟩ (aQ ⟨aO fu (pv 1) (cu dF (pv 1) (cU (uY pB au)) cR)⟩
    (aQ ⟨aO fu (cu dF (pv 1) cR (cU (pv 3))) (cu dF (pv 1) cR (cU au))⟩ bu)))))))
  (aH (fU 4 scG.nd (il j9 ⟨pv 4⟩ (cz (aQ ⟨aO fu (cu dF (pv 1) (cU (pv 3)) cR) (cu dF (pv 1) cR (cU (pv 3)))⟩
    (aQ ⟨aO fu (aO fu (cu dF (pv 1) cR (cU (pv 3))) (bA (aq jW aj))) (cu dF (pv 1) (cU (pv 3)) cR)⟩
    (aQ ⟨cH (qi rfl) rfl Td boot_dict (aq (bW [AAk] [none] rfl (JQ dX) (λC fp z06 s₂ H₂=>⟨bw (i:=0) (nd1 _) rfl (Or.inl rfl),bV,bA (aq (pv 0) (aq au aj))⟩) (λC=>trivial) ⟨rfl,rfl,rfl,rfl⟩) aj)⟩ bu))))))
  (bx (fQ (lK bM (il j9 ⟨pv 4⟩ (cz (aQ uc bu))) ⟨pv 2⟩ (λ_ _=>rfl))))))) ?_
 have hlen:xs.length=ds.length:=th.length;refine aC ?_;refine⟨_,rfl,st,9,rfl,bE,by decide,by decide,λr1 a b c Tx TB a0 b0 b1=>?_⟩;have g2:=(Dr.refl bE).draw (c:=c) a0 b0 b1;have kF:=g2.tups bE _ _ ep;have ip:=g2.thsS bE th;generalize upd H st (.lst [.int a,.int b,.int c])=H2 at g2 kF ip⊢;refine⟨_,rfl,_,rfl,p,_,rfl,.inr (SqT.of kF),_,_,rfl,rfl,st,_,rfl,g2.sa,by rw[hlen];lia,by rw[hlen];lia,λr2 a b c LL LM a0 b0 b1=>⟨_,_,rfl,?_⟩⟩;rw[hlen]at LM;have g3:=g2.draw (c:=c) a0 b0 b1;have j3:=((Dr.refl g2.sa).draw (c:=c) a0 b0 b1).tups g2.sa _ _ kF;have kG:=((Dr.refl g2.sa).draw (c:=c) a0 b0 b1).thsS g2.sa ip;generalize upd H2 st (.lst [.int a,.int b,.int c])=H3 at g3 j3 kG⊢;clear kF g2 ip;dsimp only
 have hS:∀H',Same H3 H'->∀p,H' p=none->p≠sysModules->SS st p:=λH' s p hp np=>by
  obtain⟨a,b,c,e,_⟩:=g3.sa;refine⟨λz=>?_,np⟩;rw[z,s _ _ e]at hp;cases hp
 have cl:=λlo hi=>gh xs lo hi;refine aC (aP ?_);refine fV ?_;have tJ:xs.length<=80:=by rw[hlen];exact l2
 have UJ:xs.length<=1000:=z00
 have A1:ThA (SS st) [some (.ref st),some (.ref p),some (.int r1),some (.int r2),none] H3 _ _:=
  bB (Ik (K:=K) (i:=1) rfl j3 kG hS)
  (bB (nZ (mz (my (qm (i:=1) rfl j3) gJ (Bt (i:=3) rfl)) (my (qm (i:=1) rfl j3) (Mz (i:=3) rfl) gJ) (jz tJ) (jz tJ)) ((dG kG _ _).append (dG kG _ _)))
  (bB (nZ (Kd (K:=K) (qm (i:=1) rfl j3)) (zR kG))
  (bB (nZ (mz (qm (i:=1) rfl j3) (my (qm (i:=1) rfl j3) MF gJ) UJ (jz tJ)) (kG.append (dG kG _ _)))
  (bB (nZ (mz (my (qm (i:=1) rfl j3) gJ (Bt (i:=3) rfl)) (my (qm (i:=1) rfl j3) gJ (O2 (n:=1))) (jz tJ) (jz tJ)) ((dG kG _ _).append (dG kG _ _))) kW))))
 refine A1 H3 (Same.refl _) _ λiL H4 s4 t4=>?_;refine⟨?_,λL1 mS=>?_⟩
 .rw[t4.length];show 5<=sizeLine;decide
 refine aJ ?_;dsimp only;have s5:=s4.updR (o:=.lst iL) mS;have rL:=aa (H:=H4) (a:=L1) (o:=.lst iL);have t5:=t4.same (Same.upd (o:=.lst iL) mS);generalize upd H4 L1 _=H5 at s5 rL t5⊢;clear t4 s4 mS;have AK:=s5 _ _ j3;have AL:=kG.same s5;have UK:∀H',Same H5 H'->∀p,H' p=none->p≠sysModules->SS st p:=λH' s=>hS H' (s5.trans s);refine aC (aP ?_);refine⟨_,rfl,?_⟩;refine fV ?_
 have A2:ThA (SS st) [some (.ref st),some (.ref p),some (.int r1),some (.int r2),some (.ref L1)] H5 _ _:=
  bB (nZ (mz (my (qm (i:=1) rfl AK) (Bt (i:=3) rfl) gJ) (my (qm (i:=1) rfl AK) gJ (Bt (i:=3) rfl)) (jz tJ) (jz tJ)) ((dG AL _ _).append (dG AL _ _)))
  (bB (nZ (DY (mz (my (qm (i:=1) rfl AK) gJ (Bt (i:=3) rfl)) (Ea (v:=.non) λH'=>eZ) (jz tJ) (by show 1<=1000;decide)) (my (qm (i:=1) rfl AK) (Bt (i:=3) rfl) gJ) (by grind)) (((dG AL _ _).append (.cons .non .nil)).append (dG AL _ _)))
  (bB (MJ (src:=[none]) rfl UK) kW))
 refine A2 H5 (Same.refl _) _ λiS H6 s6 t6=>?_;refine⟨?_,λL2 FH=>?_⟩
 .rw[t6.length];show 3<=sizeLine;decide
 have m6:=Same.upd (o:=.lst iS) FH;have e1:=m6 _ _ (s6 _ _ rL);refine⟨L1,L2,iL,iS,rfl,rfl,e1,aa,?_,λL3 FI=>?_⟩
 .rw[t5.length,t6.length];show 8<=sizeLine;decide
 have s7:=((s5.trans s6).updR (o:=.lst iS) FH).updR (o:=.lst (iL++iS)) FI;have t7:=((t5.same s6).append t6).same (m6.updR (o:=.lst (iL++iS)) FI);have DZ:=aa (H:=upd H6 L2 (.lst iS)) (a:=L3) (o:=.lst (iL++iS));generalize upd (upd H6 L2 _) L3 _=H7 at s7 t7 DZ⊢;refine aJ ?_;dsimp only;refine dZ ?_;refine⟨_,rfl,zL,λL4 PU=>?_⟩;have m8:=Same.upd (o:=.lst [V.non]) PU;refine⟨L3,L4,_,_,rfl,rfl,m8 _ _ DZ,aa,?_,λL5 PV=>?_⟩
 .rw[t7.length];show 9<=sizeLine;decide
 have s9:=(s7.updR (o:=.lst [V.non]) PU).updR (o:=.lst (iL++iS++[V.non])) PV;have t9:=(t7.append (.cons .non .nil)).same (m8.updR (o:=.lst (iL++iS++[V.non])) PV);have D0:=aa (H:=upd H7 L4 (.lst [V.non])) (a:=L5) (o:=.lst (iL++iS++[V.non]));generalize upd (upd H7 L4 _) L5 _=H9 at s9 t9 D0⊢;obtain⟨v,d,hv,hd,tv⟩:=qp (i:=r1.toNat) t9 (by show r1.toNat<9;lia);have y1:=dD hv;rw[show((r1.toNat:Nat):Int)=r1 by lia]at y1;refine⟨_,rfl,L5,_,r1,v,rfl,rfl,SqL.of D0,y1,q v d H9 (g3.same s9) ?_ tv⟩;simp only[List.cons_append,List.nil_append,List.mem_cons,List.not_mem_nil,or_false]at hd;have m1:∀lo hi,∀d∈cutD ds lo hi,tame d=true/\K33.lowD d=true:=λlo hi d hd=>gd d (mJ hd);have m2:∀{es fs:List PyData},(∀d∈es,tame d=true/\K33.lowD d=true)->(∀d∈fs,tame d=true/\K33.lowD d=true)->∀d∈es++fs,tame d=true/\K33.lowD d=true:=λa b d hd=>(zA6.mp hd).elim (a d) (b d);have c:=mK ds;rcases hd with rfl|rfl|rfl|rfl|rfl|rfl|rfl|rfl|rfl
 .exact Kz gd z00
 .exact eO (m2 (m1 _ _) (m1 _ _)) (by rw[fD];have:=c none (some r2);have:=c (some (r2+1)) none;lia)
 .exact eO (λd hd=>gd d (List.mem_reverse.mp hd)) (by rw[zT];lia)
 .exact eO (m2 gd (m1 _ _)) (by rw[fD];have:=c (some (-1)) none;lia)
 .exact eO (m2 (m1 _ _) (m1 _ _)) (by rw[fD];have:=c none (some r2);have:=c none (some 1);lia)
 .exact eO (m2 (m1 _ _) (m1 _ _)) (by rw[fD];have:=c (some r2) none;have:=c none (some r2);lia)
 .exact eO (m2 (m2 (m1 _ _) λd hd=>by rw[Zad.mp hd];exact⟨rfl,rfl⟩) (m1 _ _)) (by rw[fD,fD];have:=c none (some r2);have:=c (some r2) none;show 1+(_+(1+0)+_)<=_;lia)
 .exact⟨by decide +kernel,rfl,Zah (m:=20) z02 z00⟩
 .exact⟨rfl,rfl,by show 1<=_;lia⟩
end
theorem Il(h0:-10<=i)(h1:i<=2000000):tame (.str (Str.ofString (toString i)))=true:=by
 have hl:=int_text_length_le10 (a:=i) (k:=8) z02 z00;show(decide ((Str.ofString (toString i)).length<=10)&&(Str.ofString (toString i)).cps.toList.all λc=>decide (c<16^8))=true;rw[ofString_length,zAu z00,Str.ofString_eq_toList];refine Zae.mpr λc hc=>?_;obtain⟨x,_,rfl⟩:=zA5.mp (by simpa using hc:c∈List.map Char.toNat (toString i).toList);exact zAu (zB4 x.val.toBitVec.isLt z02)
theorem Im(h0:-10<=i)(h1:i<=2000000):i.natAbs.log2<1920:=by
 have:i.natAbs<2^128:=z00
 by_cases z:i.natAbs=0
 .rw[z];decide
 .exact Nat.lt_trans ((Nat.log2_lt z).mpr this) z02
inductive SpBentWI(vs:List V)(H:Hp)(Q:VK):Prop
 |mk:∀st i k,(vs=[.ref st,.int i,.int k])->(iU H st)->(-10<=i)->(i<=2000000)->(∀v d H',Dr st H H'->Gd 2 d->IsTh (SS st) H' v d->Q v H')->SpBentWI  vs H Q
def Ip:Sp:=λvs H Q _=>SpBentWI  vs H Q
section
theorem G5(F:Fun K AAn AAn (top 86) f fd)(T:Mg mg)(Tt:mg "str"=none)(c1:Cal P w K mg base 1 AAg [AAa,AAh] dU):FnOk P w K mg base CX0 2 f fd [AAa,AAb,AAl] Ip:=by
 refine F.oq scC λcdv A outer s H vs Q E hr h=>?_;obtain⟨st,i,k,rfl,bE,i0,i1,q⟩:=h
 refine ok_b (aH ⟨bR (PW.pt (iB (bL (aK bK rfl T.isinstance boot_isinstance (aq (pv 1) (aq (dh rfl T.tuple boot_tuple (v:=.ty "tuple") rfl) aj)))) (iB (aW (Ke (uv hr)) (pv 1) (bA aj) (aU _)) (iB (aW jm (pv 2) au (aU _)) (jE (aW jm (aG c1 hr (aq (pv 0) (aq au aj))) au (aU _))))))) (aB dO (aF dO)) aY⟩
  (aH ⟨bR (bL (aK bK rfl T.isinstance boot_isinstance (aq (pv 1) (aq (dh rfl T.tuple boot_tuple (v:=.ty "tuple") rfl) aj)))) (aF dO) aY⟩
  (aH ⟨bR (bL (aK bK rfl T.isinstance boot_isinstance (aq (pv 1) (aq (dh rfl Tt boot_str (v:=.ty "str") rfl) aj)))) (aF dO) aY⟩
  (bx (fQ (lK bM (cz (aQ (il bT ⟨pv 1⟩ fj) (aQ (il dY ⟨pv 1⟩ fj) (aQ (il dY fj ⟨pv 1⟩) (aQ uc (aQ ⟨cH tL rfl Tt boot_str (aq (pv 1) aj)⟩ (aQ ⟨fZ iH (pv 1) au (aU _)⟩ (aQ ⟨bA (aq (pv 1) aj)⟩ (aQ fj bu)))))))))
   ⟨aG c1 hr (aq (pv 0) (aq au aj))⟩ (λ_ _=>rfl))))))) ?_
 refine aC ?_;refine⟨_,rfl,_,_,"tuple",false,rfl,(IsTh.int (S:=SS st) (H:=H) i).ty,ik (.int i),_,rfl,?_⟩;refine aX (aX ?_);refine bN ?_;dsimp only;refine aC ?_;refine⟨_,rfl,_,_,"tuple",false,rfl,(IsTh.int (S:=SS st) (H:=H) i).ty,ik (.int i),_,rfl,?_⟩;refine aX (bN ?_);dsimp only;refine aC ?_;refine⟨_,rfl,_,_,"str",false,rfl,(IsTh.int (S:=SS st) (H:=H) i).ty,Hn,_,rfl,?_⟩;refine aX (bN ?_);dsimp only;refine dZ (fV ?_);have GI:∀H',Ev [some (.ref st),some (.int i),some (.int k),none] H' (iz 1) (.int i):=λH'=>fO rfl
 have A1:ThA (SS st) [some (.ref st),some (.int i),some (.int k),none] H _ _:=
  bB (vC (t:=tOp (rI0 λi j=>.int (i+j)) (iz 1) (tC (.int 1))) (i:=i+1) λH'=>u9 (g:=λi j=>.int (i+j)) (GI H') (eZ (v:=.int 1)))
  (bB (vC (i:=i-1) λH'=>u9 (g:=λi j=>.int (i-j)) (GI H') (eZ (v:=.int 1)))
  (bB (vC (i:=0-i) λH'=>u9 (g:=λi j=>.int (i-j)) (eZ (v:=.int 0)) (GI H'))
  (bB JL
  (bB (Eb (t:=tCB (λxs H Q=>∃i,xs=[.int i]/\i.natAbs.log2<1920/\Q (.str (toString i)) H) (bU (iz 1) gW)) (v:=.str (toString i)) (λH' Q h=>⟨_,rfl,i,rfl,Im i0 i1,h⟩) (λH'=>.str _))
  (bB (Eb (t:=tOp rEq (iz 1) (tC (.int 1))) (v:=.bl (decide (V.int i=V.int 1))) (λH' Q h=>⟨_,rfl,rfl,h⟩) (λH'=>.bl _))
  (bB (My (Ea GI) λH'=>.cons (.int i) .nil)
  (bB (CQ (i:=7)) kW)))))))
 refine A1 H (Same.refl _) _ λiL H4 s4 t4=>?_;refine⟨?_,λL1 mS=>?_⟩
 .rw[t4.length];show 8<=sizeLine;decide
 have g5:=(Dr.refl bE).same (s4.updR (o:=.lst iL) mS);have rL:=aa (H:=H4) (a:=L1) (o:=.lst iL);have t5:=t4.same (Same.upd (o:=.lst iL) mS);have UL:L1≠st:=((Dr.refl bE).same s4).ne mS;generalize upd H4 L1 _=H5 at g5 rL t5⊢;refine⟨_,rfl,st,8,rfl,g5.sa,by decide,by decide,λr a b c r0 r1 a0 b0 b1=>?_⟩;have g6:=g5.draw (c:=c) a0 b0 b1;have t6:=Dr.thsS ((Dr.refl g5.sa).draw (c:=c) a0 b0 b1) g5.sa t5;have PX:upd H5 st (.lst [.int a,.int b,.int c]) L1=some (.lst iL):=by rw[aA UL];exact rL
 generalize upd H5 st (.lst [.int a,.int b,.int c])=H6 at g6 t6 PX⊢;obtain⟨v,d,hv,hd,tv⟩:=qp (i:=r.toNat) t6 (by show r.toNat<8;lia);have y1:=dD hv;rw[show((r.toNat:Nat):Int)=r by lia]at y1;refine⟨L1,_,r,v,rfl,rfl,SqL.of PX,y1,q v d H6 g6 ?_ tv⟩;simp only[List.mem_cons,List.not_mem_nil,or_false]at hd
 have ti:∀j:Int,-2000100<=j->j<=2000100->Gd 2 (.int j):=λj h1 h2=>⟨zAu (show j.natAbs<2^128 by lia),zAu (show j.natAbs<2^100 by lia),by show 1<=2;decide⟩
 rcases hd with rfl|rfl|rfl|rfl|rfl|rfl|rfl|rfl
 .exact ti _ z00 z00
 .exact ti _ z00 z00
 .exact ti _ z00 z00
 .exact⟨rfl,rfl,by decide⟩
 .exact⟨Il i0 i1,rfl,by show 1<=2;decide⟩
 .exact⟨rfl,rfl,by show 1<=2;decide⟩
 .exact eO (λd hd=>by rw[Zad.mp hd];exact⟨(ti i z00 z00).1,(ti i z00 z00).2.1⟩) (by show 1+(1+0)<=2;decide)
 .exact ti _ z00 z00
end
end K33P
namespace K33
open PySem L2
theorem wR{bs:List PyData}(hn:bs.length=n)(h:fY bs x=true):bF x n=true:=by
 unfold fY at h;rw[zAc,zAc,z08]at h;obtain⟨h1,h2,h3⟩:=h
 cases x with
 |tuple ds=>
  have h2:ds.length=bs.length:=h2;have h3:(List.zipWith jg ds bs).all id=true:=h3;show((true&&(decide ((n:Int)<=ds.length)&&decide ((ds.length:Int)<=n)))&&ds.all bD)=true;rw[zAu z00,zAu z00];show ds.all bD=true;refine Zae.mpr λd hd=>?_;obtain⟨i,hi,rfl⟩:=Zaq hd;have hb:i<bs.length:=z00
  have:=Zae.mp h3 (jg ds[i] bs[i]) (zB6 (i:=i) (by rw[List.getElem?_zipWith,zA0 hi,zA0 hb]));have this:(bD ds[i]&&_)=true:=this;rw[zAc]at this;exact this.1
 |_=>cases h1
theorem G6(h:jQ d 10 bounds=true):d=fG (rowsOf d)/\(rowsOf d).length<=10/\∀r∈rowsOf d,r.length=6:=by
 unfold jQ at h;rw[zAc,zAc,z08]at h;obtain⟨h1,h2,h3⟩:=h
 cases d with
 |tuple ds=>
  have h2:(ds.length:Int)<=10:=h2;have h3:∀x∈ds,bF x 6=true:=λx hx=>wR rfl (Zae.mp h3 x hx);refine⟨congrArg PyData.tuple (oZ (n:=6) h3),by show(ds.map _).length<=10;rw[zA1];lia,λr hr=>?_⟩;obtain⟨x,hx,rfl⟩:=zA5.mp hr;exact(ig (n:=6) (h3 x hx)).2
 |_=>cases h1
def mO(rs:PK):PK:=rs.filter λr=>decide (fl r 2>fl r 3)
theorem Cg{rs:PK}(h:j<rs.length):mO (rs.take (j+1))=mO (rs.take j)++(if fl rs[j] 2>fl rs[j] 3 then[rs[j]]else[]):=by
 unfold mO;rw[List.take_succ_eq_append_getElem h,Za7];congr 1;by_cases e:fl rs[j] 2>fl rs[j] 3
 .rw[zAz e,zBf (p:=λr:UV=>decide (fl r 2>fl r 3)) (zAu e)];rfl
 .rw[zAy e,zBe (p:=λr:UV=>decide (fl r 2>fl r 3)) (by rw[z08];exact e)];rfl
theorem wU(h6:∀r∈rs,r.length=6):((items (fG rs)).all λx=>decide (at_ x 2<=at_ x 3))=(mO rs).isEmpty:=by
 show((rs.map rowD).all λx=>decide (at_ x 2<=at_ x 3))=_;rw[Zau,Zae,List.isEmpty_iff];unfold mO;rw[List.filter_eq_nil_iff];refine⟨λg r hr=>?_,λg d hd=>?_⟩
 .have:=g (rowD r) (List.mem_map_of_mem hr);rw[jV r 2 (by rw[h6 r hr];decide),jV r 3 (by rw[h6 r hr];decide),z08]at this;rw[z08];lia
 .obtain⟨r,hr,rfl⟩:=zA5.mp hd;have:=g r hr;rw[z08]at this;rw[jV r 2 (by rw[h6 r hr];decide),jV r 3 (by rw[h6 r hr];decide),z08];lia
theorem zU(t:IsThs S H zs [e]):∀n,IsThs S H (List.replicate n zs).flatten (List.replicate n e)
 |0=>.nil
 |n+1=>by
  exact IsThs.append t (zU t n)
theorem G7(te:ThE (λ_=>False) σ H tt e)(k0:0<=k)(k1:k<=10)(h:∀p zs H2,Same H H2->H2 p=some (.lst zs)->IsThs (λ_=>False) H2 zs (List.replicate k.toNat e)->Q [.int n,.ref p] H2):
  bU (tC (.int n)) (bU (tOp Jz (xq (bU tt gW)) (tC (.int k))) gW) σ H Q:=by
 show xq (bU tt gW) σ H λx H1=>Jz x (.int k) H1 λy H2=>Q [.int n,y] H2;refine fV ?_;refine bB te kW H (Same.refl H) _ λzs H1 s1 t=>?_;have lz:zs.length=1:=t.length;have hs:10<=sizeLine:=by decide
 refine⟨z00,λl AM=>⟨l,k,zs,rfl,rfl,aa,z00,z00,by rw[lz];lia,λp hp=>?_⟩⟩;have xh:=(Same.upd (o:=.lst zs) AM).updR (o:=.lst (List.replicate k.toNat zs).flatten) hp;exact h p _ _ (s1.trans xh) aa (zU (t.same xh) _)
theorem th_tupE(t:IsTh S H v d)(h:du d=true):∃a xs ds,v=.ref a/\d=.tuple ds/\H a=some (.tup xs)/\IsThs S H xs ds:=by
 cases t with
 |@tup a xs ds e r=>exact⟨a,xs,ds,rfl,rfl,e,r⟩
 |_=>cases h
inductive SpIsBI(vs:List V)(H:Hp)(Q:VK):Prop
 |mk:∀S v d,(vs=[v])->(IsTh S H v d)->(sz d<=4000)->(lowD d=true)->(∀H',Same H H'->Q (.bl (cQ d)) H')->SpIsBI  vs H Q
def Jh:Sp:=λvs H Q _=>SpIsBI  vs H Q
theorem scIB:FnScope [AAb,AAx] [AAb] (az (top 89)):=fQS
theorem uv(hr:Room k A):A.units<cLine:=by
 have:=hr.un;lia
theorem KC(F:Fun K "_law_is_book" "_law_is_book" (top 89) f fd)(T:Mg mg)(c1:Cal P w K mg base 2 "_law_are" [AAb,AAf,AAx] Jg)(c2:Cal P w K mg base 1 "_law_rows" [AAe,AAu] spRows):
  FnOk P w K mg base CX0 3 f fd [AAb] Jh:=by
 refine F.oq scIB λcdv A outer s H vs Q E hr h=>?_;obtain⟨S,v,d,rfl,th,hz,lo,q⟩:=h
 refine K33P.ok_b (aH ⟨bR (PW.pt (iG (cg (bL (aK bK rfl T.isinstance boot_isinstance (aq (pv 0) (aq (dh rfl T.tuple boot_tuple (v:=.ty "tuple") rfl) aj)))))
   (iG (aW lB (aK aZ rfl T.len PySem.boot_len (aq (pv 0) aj)) au (aU _)) (j7 (cg (bL (aG c1 hr (aq (pX bj (pv 0) au) (aq au (aq (aO Cv (vB (cz (aQ nq bu))) au) aj)))))))))) (aF (aN iD)) aY⟩
  (aH (fU 1 scIB.nd (cz (aQ nq (aQ nq (aQ nq (aQ nq (aQ nq (aQ Gy bu))))))))
  (aH ⟨bR (PW.pt (iG (aW (rT (uv hr)) (pX bj (pv 0) au) (bA aj) (aU _))
   (iG (cg (bL (aG c1 hr (aq (pX bj (pv 0) au) (aq au (aq (pv 1) aj))))))
   (j7 (aW (xX (uv hr)) (bW [AAk] [none] rfl (gF (pX bj (pv 0) au)) (λC fp z06 s₂ H₂=>⟨bw (i:=0) (nd1 _) rfl (Or.inl rfl),jH (aW jm (pX (K33P.ix_tupK (K:=K) rfl) (pv 0) au) (pX (K33P.ix_tupK (K:=K) rfl) (pv 0) au) (aU _)),pv 0⟩) (λC=>trivial) ⟨rfl,rfl,rfl,rfl⟩) (vB (cz bu)) (aU _)))))) (aF (aN iD)) aY⟩
  (aH ⟨bR (cg (bL (aG c1 hr (aq (pX bj (pv 0) au) (aq au (aq (aO Cv (vB (cz (aQ (gZ (aQ ⟨uY pB (aO tK au au)⟩ (aQ JK bu))) bu))) au) aj)))))) (aF (aN iD)) aY⟩
  (bx ⟨aN (fZ xm (pX bj (aG c2 hr (aq (pX bj (pv 0) au) (aq (pX bj (pv 0) au) aj))) au) jW (aU _))⟩))))) ?_
 have two:∀{i j:Int} {σ:L2.St} {H:Hp},ThE (λ_=>False) σ H (mW (rW [i,j])) (.tuple [.int i,.int j]):=λ{i j σ H}=>xN (Gz [i,j]) (by show 2<=4000;decide)
 have Mn:∀{σ:L2.St} {H:Hp},ThE (λ_=>False) σ H (mW (bU (tC (.int 0)) (bU (tOp (rI xj λi j=>.int (i^j.toNat)) (tC (.int 10)) (tC (.int 6))) gW))) (.tuple [.int 0,.int 1000000]):=λ{σ H}=>
  xN (bB CQ (bB (vC (i:=1000000) λH'=>CP (g:=λi j=>V.int (i^j.toNat)) eZ eZ ⟨by decide,by decide,by decide⟩) kW)) (by show 2<=4000;decide)
 refine aC ?_;refine⟨_,rfl,v,_,"tuple",du d,rfl,th.ty,ik d,_,rfl,?_⟩
 cases e:du d with
 |false=>
  rw[show cQ d=false by unfold cQ bH;rw[e];rfl]at q;exact bh (bh (q H (Same.refl H)))
 |true=>
  refine aX ?_
  cases th with
  |@tup a xs ds ea r=>
   have hl:=r.length;refine⟨_,rfl,a,xs,rfl,.inr (SqT.of ea),rfl,_,rfl,?_⟩;by_cases e3:ds.length=3
   .rw[zAu (by rw[hl,e3];rfl)];refine aX ?_;obtain⟨v0,v1,v2,d0,d1,d2,rfl,rfl,t0,t1,t2⟩:=nR r e3;have bk:cQ (.tuple [d0,d1,d2])=(gG d0&&(eG d1&&(fJ d2&&(un (rowsOf d1) (rowsOf d2)).isNone))):=rfl;have PY:lowD d2=true:=lowDs_all.mp lo d2 (.tail _ (.tail _ (.head _)));rw[bk,<-are_clips,<-sZ,<-are_sales PY]at q;have z0:sz d0<=4000:=iy (.head _) hz;have z1:sz d1<=4000:=iy (.tail _ (.head _)) hz;have z2:sz d2<=4000:=iy (.tail _ (.tail _ (.head _))) hz;refine⟨_,rfl,a,_,0,v0,rfl,rfl,SqT.of ea,rfl,?_⟩;refine G7 two z02 z02 λp zp Zg s2 ep tp=>?_;refine⟨S,v0,d0,20,p,_,bC,rfl,t0.same s2,z0,ep,tp,by decide,λe he=>⟨0,999,Za5 he⟩,λH2 s'=>⟨_,rfl,?_⟩⟩;have s3:=s2.trans s';clear s2 s' ep tp
    cases e4:jQ d0 20 bC with
    |false=>
     rw[e4]at q;exact bh (q H2 s3)
    |true=>
    rw[e4]at q;refine aX (bN ?_);dsimp only;refine aC (aP ?_);refine fV ?_;refine bB two (bB two (bB two (bB two (bB two (bB Mn kW))))) H2 (Same.refl H2) _ λzs H3 s4 t=>?_;have t:IsThs (λ_=>False) H3 zs bounds:=t;refine⟨by rw[t.length];show 6<=sizeLine;decide,λl AM=>?_⟩;have s5:=(s3.trans s4).updR (o:=.lst zs) AM;have eb:=aa (H:=H3) (a:=l) (o:=.lst zs);have tb:=t.same (Same.upd (o:=.lst zs) AM);generalize upd H3 l (.lst zs)=H5 at s5 eb tb⊢;clear s3 s4 t AM;refine aJ ?_;dsimp only;refine aC ?_
    have i0:du d0=true:=by
     unfold jQ at e4;rw[zAc]at e4;exact e4.1
    obtain⟨a0,x0,Mo,rfl,rfl,UM,r0⟩:=th_tupE t0 i0;have l0:=r0.length;refine⟨_,rfl,a,_,0,.ref a0,rfl,rfl,SqT.of (s5 _ _ ea),rfl,by show 0<=sizeLine;decide,λp hp=>?_⟩;have s6:=s5.updR (o:=.tup []) hp;refine⟨a0,p,x0,rfl,rfl,SqT.of (s6 _ _ UM),SqT.of aa,_,rfl,?_⟩;have MA:=Same.upd (o:=.tup []) hp _ _ eb;have MB:=tb.same (Same.upd (o:=.tup []) hp);generalize upd H5 p (.tup [])=H6 at s6 MA MB⊢;clear s5 eb tb hp;have q:∀H',Same H H'->Q (.bl ((true&&decide (1<=Mo.length))&&((jQ d1 10 bounds&&(items d1).all λx=>decide (at_ x 2<=at_ x 3))&&(jQ d2 12 bS&&(un (rowsOf d1) (rowsOf d2)).isNone)))) H':=q
    cases e5:x0.isEmpty with
    |true=>
     have:Mo.length=0:=by rw[<-l0,List.isEmpty_iff.mp e5];rfl
     rw[this]at q;exact bh (bh (q _ s6))
    |false=>
    refine aX ?_
    have:1<=Mo.length:=by
     rw[<-l0]
     cases x0 with
     |nil=>cases e5
     |cons _ _=>exact Nat.succ_pos _
    rw[zAu this]at q;refine⟨_,rfl,a,_,1,v1,rfl,rfl,SqT.of (s6 _ _ ea),rfl,_,rfl,S,v1,d1,10,l,_,bounds,rfl,t1.same s6,z1,MA,MB,by decide,λe he=>Bv he,λH7 s'=>⟨_,rfl,?_⟩⟩;have s7:=s6.trans s';clear s6 s' MA MB
    cases e6:jQ d1 10 bounds with
    |false=>
     rw[e6]at q;exact bh (bh (q _ s7))
    |true=>
    rw[e6]at q;refine aX ?_;obtain⟨ep,lp,h6⟩:=G6 e6;rw[ep]at t1;have e9:=wU h6;rw[<-ep]at e9;rw[e9]at q;clear e9;obtain⟨ap,xp,rfl,rp⟩:=th_rows t1;have tF:=rp.same s7;generalize JJ:rowsOf d1=rs at ep lp h6 rp tF q t1;refine⟨_,rfl,a,_,1,.ref ap,rfl,rfl,SqT.of (s7 _ _ ea),rfl,ap,rfl,⟨_,SqT.of tF.e⟩,iZ rs.length (λj ys σ Hj=>Same H7 Hj/\(∃o1,σ=[o1])/\Els Hj ys (mO (rs.take j))) ⟨Same.refl _,⟨_,rfl⟩,Els.nil⟩ z05 ?_ ?_⟩
    .rintro j ys σ Hj hj hy ⟨sc,⟨o1,rfl⟩,pE⟩;obtain⟨tr,ex,bq⟩:=tF.g j rs[j] (zA0 hj);have yA:=bq;rw[six_row (h6 _ (zAh hj))]at bq;have fh:=Cg hj;have mT:=SqT.of (K:=K) (sc _ _ tF.e);refine⟨⟨_,_,mT,ex⟩,λx H' yv R hR=>?_⟩;obtain⟨rfl,yv⟩:=yv;have yv:=yv _ mT;rw[ex]at yv;cases yv;refine aJ ?_;refine⟨_,rfl,tr,_,2,.int (fl rs[j] 2),rfl,rfl,SqT.of (sc _ _ bq),rfl,_,rfl,tr,_,3,.int (fl rs[j] 3),rfl,rfl,SqT.of (sc _ _ bq),rfl,_,_,rfl,rfl,_,rfl,?_⟩;by_cases h:fl rs[j] 2>fl rs[j] 3
     .rw[zAu h];refine bh ⟨_,rfl,hR _ _ _ (by rw[zA2];show ys.length+1<=j+1;lia) ⟨sc,⟨_,rfl⟩,?_⟩⟩;rw[fh,zAz h];exact pE.app (Els.one (sc _ _ yA))
     .rw[zB2 h];refine aX (hR _ _ _ z00 ⟨sc,⟨_,rfl⟩,?_⟩);rw[fh,zAy h,zAn];exact pE
    rintro ya σ Hj hy ⟨sc,_,kX⟩;rw[zAm]at kX;refine⟨⟨_,SqT.of (sc _ _ tF.e),by rw[tF.l];exact zA3 _⟩,λla xb=>⟨zL,λlb PZ=>?_⟩⟩;have s8:=Same.upd (o:=.lst []) PZ;have sa:=s7.trans ((sc.updR (o:=.lst ya) xb).trans s8);refine⟨la,lb,ya,rfl,rfl,SqL.of (s8 _ _ aa),SqL.of aa,_,rfl,?_⟩
    have ey:ya.isEmpty=(mO rs).isEmpty:=by
     have:=kX.1
     cases ya with
     |nil=>rw[List.length_eq_zero_iff.mp this.symm];rfl
     |cons x xs=>
      cases hL:mO rs with
      |nil=>rw[hL]at this;cases this
      |cons _ _=>rfl
    generalize upd (upd Hj la (.lst ya)) lb (.lst [])=H8 at sa⊢;clear s8 xb PZ sc kX;rw[ey]
    cases e7:(mO rs).isEmpty with
    |false=>
     rw[e7]at q;exact bh (q _ sa)
    |true=>
    rw[e7]at q;refine aX (bN ?_);dsimp only;refine aC ?_
    have MC:∀{σ:L2.St} {H:Hp},ThE (λ_=>False) σ H (mW (bU (tUn (rU λi=>.int (-i)) (tOp (rI xj λi j=>.int (i^j.toNat)) (tC (.int 10)) (tC (.int 31)))) (bU (tOp (rI xj λi j=>.int (i^j.toNat)) (tC (.int 10)) (tC (.int 31))) gW))) (.tuple [.int (-10^31),.int (10^31)]):=λ{σ H}=>
     xN (bB (λH0 s0 Q q=>⟨_,_,rfl,rfl,⟨by decide,by decide,by decide⟩,_,rfl,q _ H0 (Same.refl _) (.int _)⟩) (bB (vC (i:=10^31) λH'=>CP (g:=λi j=>V.int (i^j.toNat)) eZ eZ ⟨by decide,by decide,by decide⟩) kW)) (by show 2<=4000;decide)
    refine⟨_,rfl,a,_,2,v2,rfl,rfl,SqT.of (sa _ _ ea),rfl,?_⟩;refine G7 MC z02 z02 λp zp Zh s9 P0 P1=>?_;refine⟨S,v2,d2,12,p,_,bS,rfl,t2.same (sa.trans s9),z2,P0,P1,by decide,λe he=>⟨_,_,Za5 he⟩,λH9 s'=>⟨_,rfl,?_⟩⟩;have sb:=sa.trans (s9.trans s');clear sa s9 s' P0 P1
    cases e8:jQ d2 12 bS with
    |false=>
     rw[e8]at q;exact bh (q _ sb)
    |true=>
    rw[e8]at q;refine aX (bN ?_);dsimp only;refine dZ ?_
    have pd:eG d1=true:=by
     rw[<-sZ,e6,ep,wU h6,e7];rfl
    obtain⟨_,_,okp⟩:=kZ pd;rw[JJ]at okp;obtain⟨es,ls,h5⟩:=lq (by rw[<-are_sales PY];exact e8);rw[es]at t2;obtain⟨af,UN,rfl,UO⟩:=th_rows t2;refine⟨_,rfl,a,_,1,.ref ap,rfl,rfl,SqT.of (sb _ _ ea),rfl,_,rfl,a,_,2,.ref af,rfl,rfl,SqT.of (sb _ _ ea),rfl,ap,xp,rs,af,UN,_,rfl,rp.same sb,lp,okp,UO.same sb,z00,h5,λt fo MD kU et _=>⟨t,_,1,unV (un rs (rowsOf d2)),rfl,rfl,SqT.of et,rfl,rfl,?_⟩⟩;have:=q _ (sb.trans kU);rw[show decide (unV (un rs (rowsOf d2))=.non)=(un rs (rowsOf d2)).isNone by cases un rs (rowsOf d2)<;>rfl];exact this
   .rw[zB2 (λz=>e3 (by injection z with z;lia))]
    rw[show cQ (.tuple ds)=false by
     unfold cQ bH;show(true&&(decide ((3:Int)<=ds.length)&&decide ((ds.length:Int)<=3))&&_)=false;rcases Nat.lt_or_ge ds.length 3 with z|z
     .rw[zB2 (by lia:¬(3:Int)<=ds.length)];rfl
     .rw[zB2 (by lia:¬(ds.length:Int)<=3),Bool.and_false]
      rfl]at q
    exact bh (bh (q H (Same.refl H)))
  |_=>cases e
end K33
namespace K33P
open PySem L2
mutual
def okT:PyData->Bool
 |.int i=>decide (-10<=i)&&decide (i<=2000000)
 |.tuple xs=>decide (xs.length<=80)&&j4 xs
 |_=>false
def j4:List PyData->Bool
 |[]=>true
 |x::xs=>okT x&&j4 xs
end
mutual
theorem qI:∀{d:PyData},okT d=true->tame d=true/\K33.lowD d=true
 |.int i,h=>by
  have h:(decide (-10<=i)&&decide (i<=2000000))=true:=h;rw[zAc,z08,z08]at h;exact⟨zAu (show i.natAbs<2^128 by lia),zAu (show i.natAbs<2^100 by lia)⟩
 |.tuple xs,h=>by
  have h:(decide (xs.length<=80)&&j4 xs)=true:=h;rw[zAc]at h;exact zV h.2
 |.none,h=>by cases h
 |.bool _,h=>by cases h
 |.str _,h=>by cases h
 |.list _,h=>by cases h
 |.dict _,h=>by cases h
theorem zV:∀{ds:List PyData},j4 ds=true->iQ ds=true/\K33.lowDs ds=true
 |[],_=>⟨rfl,rfl⟩
 |d::ds,h=>by
  have h:(okT d&&j4 ds)=true:=h;rw[zAc]at h;obtain⟨a,b⟩:=qI h.1;obtain⟨c,e⟩:=zV h.2;exact⟨by show(tame d&&iQ ds)=true;rw[a,c];rfl,by show(K33.lowD d&&K33.lowDs ds)=true;rw[b,e];rfl⟩
end
theorem j5:∀{ds:List PyData},j4 ds=true->∀d∈ds,okT d=true
 |d::ds,h,x,hx=>by
  have h:(okT d&&j4 ds)=true:=h;rw[zAc]at h
  cases hx with
  |head=>exact h.1
  |tail _ hx=>exact j5 h.2 x hx
theorem uN:∀{ds:List PyData} {d:PyData},d∈ds->sz d<=szs ds
 |x::xs,d,h=>by
  show sz d<=sz x+szs xs
  cases h with
  |head=>lia
  |tail _ h=>have:=uN h;lia
def bd(n s:Nat):Nat:=2*(n*s)+2*s+20+n
inductive SpBentTI(n:Nat)(vs:List V)(H:Hp)(Q:VK):Prop
 |mk:∀st p xs ds,(vs=[.ref st,.ref p,.int n])->(iU H st)->(H p=some (.tup xs))->(IsThs (SS st) H xs ds)->(ds.length<=80)->(j4 ds=true)->(∀v d H',Dr st H H'->Gd (bd n (szs ds)) d->IsTh (SS st) H' v d->Q v H')->SpBentTI n vs H Q
def Ir(n:Nat):Sp:=λvs H Q _=>SpBentTI n vs H Q
inductive SpBentDI(n:Nat)(vs:List V)(H:Hp)(Q:VK):Prop
 |mk:∀st v d,(vs=[.ref st,v,.int n])->(iU H st)->(IsTh (SS st) H v d)->(okT d=true)->(∀v' d' H',Dr st H H'->Gd (bd n (sz d)) d'->IsTh (SS st) H' v' d'->Q v' H')->SpBentDI n vs H Q
def Iu(n:Nat):Sp:=λvs H Q _=>SpBentDI n vs H Q
def spB:Nat->Sp
 |0=>λ_ _ _ _=>False
 |n+1=>Iu n
section
theorem roomU(hr:Room k A):A.units<cLine:=by
 have:=hr.un;lia
theorem G8(F:Fun K AAn AAn (top 86) f fd)(T:Mg mg)(c1:Cal P w K mg base 1 AAg [AAa,AAh] dU)(c2:Cal P w K mg base 2 AAz [AAa,AAy] yp)(c0:Cal P w K mg base (j+2) AAn [AAa,AAb,AAl] (spB n)):
  FnOk P w K mg base CX0 (j+3) f fd [AAa,AAb,AAl] (Ir n):=by
 refine F.oq scC λcdv A outer s H vs Q E hr h=>?_;obtain⟨st,p,xs,ds,rfl,bE,ep,th,ld,ok,q⟩:=h
 refine ok_b (aH ⟨bR (PW.pt (iB (bL (aK bK rfl T.isinstance boot_isinstance (aq (pv 1) (aq (dh rfl T.tuple boot_tuple (v:=.ty "tuple") rfl) aj)))) (iB (aW (xY (roomU hr)) (pv 1) (bA aj) (aU _)) (iB (aW jm (pv 2) au (aU _)) (jE (aW jm (aG (hjk:=z00) c1 hr (aq (pv 0) (aq au aj))) au (aU _)))))))
   (aB (pss 3 scC.nd (aG (hjk:=z00) c1 hr (aq (pv 0) (aq (aK aZ rfl T.len PySem.boot_len (aq (pv 1) aj)) aj))))
   (aF (aN (aO fu (aO fu (cu dF (pv 1) cR (cU (pv 3))) (bA (aq (aG (hjk:=z00) c0 hr (aq (pv 0) (aq (pX bj (pv 1) (pv 3)) (aq (aO dY (pv 2) au) aj)))) aj))) (cu dF (pv 1) (cU (aO bT (pv 3) au)) cR))))) aY⟩
  (aH ⟨bR (bL (aK bK rfl T.isinstance boot_isinstance (aq (pv 1) (aq (dh rfl T.tuple boot_tuple (v:=.ty "tuple") rfl) aj)))) (aF (aN (aG (hjk:=z00) c2 hr (aq (pv 0) (aq (pv 1) aj))))) aY⟩
  (aH ⟨dO⟩ (bx ⟨dO⟩)))) ?_
 have hl:=th.length;have ka:∀d∈ds,tame d=true/\K33.lowD d=true:=λd hd=>qI (j5 ok d hd);refine ir λc_ fS=>?_
 have rest:∀H2,Dr st H H2->c_ [some (.ref st),some (.ref p),some (.int n),none] H2:=λH2 g=>by
  have kF:=g.tups bE _ _ ep;have ip:=g.thsS bE th;refine fS _ _ ?_;refine aC ?_;refine⟨_,rfl,_,_,"tuple",true,rfl,(IsTh.tup (S:=SS st) kF ip).ty,ik (.tuple ds),_,rfl,?_⟩;refine bh (dZ ?_);exact⟨_,rfl,_,rfl,st,p,xs,ds,rfl,g.sa,kF,ip,ld,ka,λv d H' g' bb tv=>q v d H' (g.trans g') ⟨bb.1,bb.2.1,by have:=bb.2.2;unfold bd;lia⟩ tv⟩
 refine⟨_,rfl,_,_,"tuple",true,rfl,(IsTh.tup (S:=SS st) ep th).ty,ik (.tuple ds),_,rfl,?_⟩;refine bh ?_;refine⟨_,rfl,zL,λe0 tw=>?_⟩;have s1:=Same.upd (o:=.tup []) tw;have ee:=aa (H:=H) (a:=e0) (o:=.tup []);have g1:=(Dr.refl bE).same s1;generalize upd H e0 (.tup [])=H1 at s1 ee g1⊢;refine⟨p,e0,xs,rfl,rfl,SqT.of (s1 _ _ ep),SqT.of ee,_,rfl,?_⟩
 cases hx:xs.isEmpty with
 |true=>exact aX (aX (bN (rest H1 g1)))
 |false=>
 refine bh ?_;refine⟨_,rfl,_,_,rfl,rfl,_,rfl,?_⟩;by_cases n0:(n:Int)>0
 .rw[zAu n0];refine bh ?_;refine⟨_,rfl,st,4,rfl,g1.sa,by decide,by decide,λr a b c r0 r1 a0 b0 b1=>⟨_,_,rfl,rfl,_,rfl,?_⟩⟩;have g2:=g1.draw (c:=c) a0 b0 b1;generalize upd H1 st (.lst [.int a,.int b,.int c])=H2 at g2⊢;by_cases gr:0<r
  .rw[zAu gr];refine bh ?_
   obtain⟨k,rfl⟩:∃k,n=k+1:=⟨n-1,z00⟩
   have kF:=g2.tups bE _ _ ep;have ip:=g2.thsS bE th
   have aE:1<=xs.length:=by
    cases xs with
    |nil=>cases hx
    |cons _ _=>exact Nat.succ_pos _
   refine aC (aP ?_);refine⟨_,rfl,_,rfl,p,_,rfl,.inr (SqT.of kF),st,_,rfl,g2.sa,z00,z00,λr2 a b c LL LM a0 b0 b1=>?_⟩;have d3:=(Dr.refl g2.sa).draw (c:=c) a0 b0 b1;have g3:=g2.draw (c:=c) a0 b0 b1;have j3:=d3.tups g2.sa _ _ kF;have kG:=d3.thsS g2.sa ip;generalize upd H2 st (.lst [.int a,.int b,.int c])=H3 at g3 j3 kG⊢;refine aJ ?_;dsimp only;refine dZ ?_;have i2:r2.toNat<xs.length:=z00
   have x2:xs[r2.toNat]?=some xs[r2.toNat]:=zA0 i2;have y2:=dD x2;rw[show((r2.toNat:Nat):Int)=r2 by lia]at y2;refine⟨_,rfl,_,rfl,_,rfl,p,_,rfl,j3,λc4 H4 s4 e4=>?_⟩;have g4:=g3.same s4;have P2:=s4 _ _ j3;have P4:=kG.same s4;obtain⟨dx,UP,tx⟩:=P4.get x2;have mx:=zB6 UP;refine⟨_,rfl,_,rfl,_,rfl,p,_,r2,_,rfl,rfl,SqT.of P2,y2,_,rfl,_,_,rfl,rfl,st,_,dx,z01,g4.sa,tx,j5 ok dx mx,λv d H5 g5 bb tv=>?_⟩;have e5:=g5.tups g4.sa _ _ e4;have AK:=g5.tups g4.sa _ _ P2;have AL:=g5.thsS g4.sa P4;have UQ:=g4.trans g5;refine⟨zL,λt6 UR=>?_⟩;have m6:=Same.upd (o:=.tup [v]) UR;have e6:=m6 _ _ e5;have P5:=m6 _ _ AK;have P6:=AL.same m6;have P7:=aa (H:=H5) (a:=t6) (o:=.tup [v]);have g6:=UQ.same m6;have P8:=tv.same m6;generalize upd H5 t6 (.tup [v])=H6 at e6 P5 P6 P7 g6 P8⊢;have cl:=λlo hi=>gh xs lo hi;refine⟨c4,t6,_,_,rfl,rfl,e6,P7,by have:=cl none (some r2);rw[sizeLine_eq];show _+1<=_;lia,λc7 H7 s7 e7=>?_⟩;refine⟨_,rfl,_,rfl,_,_,rfl,rfl,_,rfl,p,_,rfl,s7 _ _ P5,λc8 H8 s8 e8=>?_⟩;refine⟨c7,c8,_,_,rfl,rfl,s8 _ _ e7,e8,by have:=cl none (some r2);have:=cl (some (r2+1)) none;rw[sizeLine_eq,zA2];show _+1+_<=_;lia,λc9 H9 s9 e9=>?_⟩;have rS:=s7.trans (s8.trans s9);have EG:=P6.same rS;refine q (.ref c9) (.tuple (cutD ds none (some r2)++[d]++cutD ds (some (r2+1)) none)) H9 (g6.same rS) ?_ (.tup e9 (((dG EG _ _).append (.cons (P8.same rS) .nil)).append (dG EG _ _)));refine eO (λy hy=>?_) ?_
   .rcases zA6.mp hy with z|z
    .rcases zA6.mp z with z|z
     .exact ka y (mJ z)
     .rw[Zad.mp z];exact⟨bb.1,bb.2.1⟩
    .exact ka y (mJ z)
   .rw[fD,fD];have b1:=mK ds none (some r2);have b2:=mK ds (some (r2+1)) none;have b3:=bb.2.2;have b4:=Nat.mul_le_mul_left k (uN mx);have b5:=uN mx;unfold bd at b3⊢;have b6:(k+1)*szs ds=k*szs ds+szs ds:=Nat.succ_mul k _;show 1+(_+(sz d+0)+_)<=_;lia
  .rw[zB2 gr];exact aX (bN (rest H2 g2))
 .rw[zB2 n0];exact aX (aX (bN (rest H1 g1)))
theorem ok_bent00:FnOk P w K mg base CX0 k f fd [AAa,AAb,AAl] (spB 0):=⟨λ_ _ _ _ h=>h.elim,λ_ _ _ _ _ _ _ _ _ _ _ _ _ h=>h.elim⟩
theorem ok_bentD(F:Fun K AAn AAn (top 86) f fd)(T:Mg mg)(Tt:mg "str"=none)(c1:Cal P w K mg base 1 AAg [AAa,AAh] dU)(c2:Cal P w K mg base 2 AAz [AAa,AAy] yp)(c0:Cal P w K mg base (j+2) AAn [AAa,AAb,AAl] (spB n)):
  FnOk P w K mg base CX0 (j+3) f fd [AAa,AAb,AAl] (spB (n+1)):=by
 refine(K33.either (CX:=CX0) ((G5 F T Tt c1).mono (show 2<=j+3 by lia)) (G8 F T c1 c2 c0)).imp λvs H Q E h=>?_;obtain⟨st,v,d,rfl,bE,th,ok,q⟩:=h
 cases d with
 |int i=>
  cases th;have ok:(decide (-10<=i)&&decide (i<=2000000))=true:=ok;rw[zAc,z08,z08]at ok;exact .inl ⟨st,i,n,rfl,bE,ok.1,ok.2,λv d H' g b t=>q v d H' g ⟨b.1,b.2.1,by have:=b.2.2;unfold bd;lia⟩ t⟩
 |tuple ds=>
  obtain⟨p,xs,Zi,rfl,e,ep,r⟩:=K33.th_tupE th rfl;cases e;have ok:(decide (ds.length<=80)&&j4 ds)=true:=ok;rw[zAc,z08]at ok;refine .inr ⟨st,p,xs,ds,rfl,bE,ep,r,ok.1,ok.2,λv d H' g b t=>q v d H' g ⟨b.1,b.2.1,?_⟩ t⟩;have b2:=b.2.2;have b3:n*szs ds<=n*sz (.tuple ds):=Nat.mul_le_mul_left n (by show szs ds<=1+szs ds;lia);have b4:sz (.tuple ds)=1+szs ds:=rfl;unfold bd at b2⊢;lia
 |_=>cases ok
end
end K33P
namespace K33
open PySem L2
def FoundAt(o:Option Nat)(H:Hp)(v:V):Prop:=match o with
 |some j=>v=.str (words.getD j "")
 |none=>∃p x,v=.ref p/\H p=some (.tup [.str "told",x])
theorem FoundAt.keep(h:FoundAt o H v)(k:∀b xs,H b=some (.tup xs)->H' b=some (.tup xs)):FoundAt o H' v:=by
 cases o with
 |some j=>exact h
 |none=>
  obtain⟨p,x,e,z⟩:=h;exact⟨p,x,e,k _ _ z⟩
theorem zW:fP d y=some 3\/fP d y=some 5\/fP d y=none:=by
 unfold fP;split
 .exact .inl rfl
 .split
  .exact .inr (.inl rfl)
  .exact .inr (.inr rfl)
def qJ(d y:PyData):Str:=match fP d y with
 |some j=>words.getD j ""
 |none=>""
theorem wV{fl:Addr}(kd:∀j,o=some j->Kind K Cs j)(L:LamObj H2 fl fd)(Z:LamAt fd body N)(C:CellsOf fd.closure N vs H2 cs)(hN:vs.length=N.length)
  (run:∀A outer E Q,Room kk A->FJ Cs o anyR H2 Q E->∃te,(∀s,PE (cxL P w K mg base N fd fl A outer s H2 E) body te)/\te (vs.map some) H2 Q)
  (q:∀v H3,Same (fz H2 cs) H3->FoundAt o H3 v->Q v H3):yo P w K mg base Cs kk [.ref fl] (fz H2 cs) Q E0:=by
 have no:NoC cs H2:=C.no
 have P9:∀b o,H2 b=some o->fz H2 cs b=some o:=λb o e=>by
  cases z:cs.lookup b with
  |some u=>rw[no b u z]at e;cases e
  |none=>rw[dR z];exact e
 refine⟨fl,λv' H3=>o=none/\Same (fz H2 cs) H3,λa C' H3=>∃j,o=some j/\C'=Cs j/\Same (fz H2 cs) H3,rfl,
  ⟨fd,body,N,vs,cs,?_,Z,λb o e=>sG e,C.cell,C.val,hN,λA' cb Q' E' iq h1 h2=>?_⟩,?_,?_⟩
 .obtain⟨⟨o,e1,e2⟩,c,oc,vs,t,a1,a2,a3⟩:=L;exact⟨⟨o,P9 _ _ e1,e2⟩,c,oc,vs,t,a1,P9 _ _ a2,a3⟩
 .rw[Mm no];refine run A' cb _ _ iq ⟨λj hj a H' s' na US=>?_,λkn v' H' s' US=>?_⟩
  .exact h2 a (Cs j) (fz H' cs) ⟨j,hj,rfl,s'.fz⟩
  .exact h1 v' (fz H' cs) ⟨kn,s'.fz⟩
 .rintro v' H3 ⟨kn,s3⟩ p hp;refine q _ _ (s3.updR hp) ?_;rw[kn];exact⟨p,v',rfl,aa⟩
 .rintro a C' H3 ⟨j,hj,rfl,s3⟩;refine⟨j,rfl,kd j hj,λfa H4 s4=>q _ _ (s3.trans s4) ?_⟩;rw[hj];rfl
theorem Iv(h3:σ[3]?=some (some (.str (qJ d y))))(h6:σ[6]?=some (some v))(f:FoundAt (fP d y) H v)(q:Q false H):
  tOr (Jo (pC (tOp rNe (iz 3) (tC (.str "")))) (pC (tOp rNe (iz 6) (iz 3)))) (Jo (pC (tOp rEq (iz 3) (tC (.str "")))) (pC (tOp rNe (tOp (Jx K) (iz 6) (tC (.int 0))) (tC (.str "told"))))) σ H Q:=by
 unfold qJ at h3;rcases zW (d:=d) (y:=y)with k|k|k
 .rw[k]at f h3;cases(f);refine⟨_,h3,rfl,_,rfl,bh ⟨_,h6,_,h3,rfl,_,rfl,?_⟩⟩;exact aX ⟨_,h3,rfl,_,rfl,aX q⟩
 .rw[k]at f h3;cases(f);refine⟨_,h3,rfl,_,rfl,bh ⟨_,h6,_,h3,rfl,_,rfl,?_⟩⟩;exact aX ⟨_,h3,rfl,_,rfl,aX q⟩
 .rw[k]at f h3;obtain⟨p,x,rfl,ep⟩:=f;refine⟨_,h3,rfl,_,rfl,aX (aX ⟨_,h3,rfl,_,rfl,bh ⟨_,h6,p,_,0,.str "told",rfl,rfl,SqT.of ep,rfl,rfl,_,rfl,q⟩⟩)⟩
theorem kB3(h:kindB d=some j):j=3:=by
 unfold kindB at h;split at h
 .cases h;rfl
 .cases h
def qnT:Str:=(PyProof.Rows.envOfC AAj (az (top 90)) 0 0 .none).qual++"<lambda>"
inductive SpRightI(T:Addr)(qn:Str)(vs:List V)(H:Hp)(Q:VK):Prop
 |mk:∀S v d vy y,(vs=[v,vy])->(¬S sysModules)->(IsTh S H v d)->(IsTh S H vy y)->(tame (.tuple [d,y])=true)->(sz (.tuple [d,y])<=1000)->(lowD d=true)->(TabOk H T qn)->(∀H',(∀b o,b≠T->H b=some o->H' b=some o)->TabOk H' T qn->Q (.bl true) H')->SpRightI T qn vs H Q
def spRight(T:Addr)(qn:Str):Sp:=λvs H Q _=>SpRightI T qn vs H Q
def scLam:Scope:={kind:=.function,names:=[(AAb,.free),(AAd,.free)],isGenerator:=false,isCoroutine:=false,more:=[]}
abbrev NR:List Str:=[AAb,AAd,"_law_kept","_law_due","_law_calls",AAm,AAt]
structure LamK(P:Program)(w:World)(K:Frag)(mg:Str->Option Value)(base:Heap)(Cs:Nat->Addr)(cl:List (Str×Addr))(d y:PyData)(v vy:V)(H:Hp)(x:V):Prop where
 ex:∃fl fd body,x=.ref fl/\LamObj H fl fd/\LamAt fd body [AAb,AAd]/\fd.closure=cl /\
  ∀H2,(∃S,IsTh S H2 v d/\IsTh S H2 vy y)->∀A outer E Q,Room 13 A->FJ Cs (fP d y) anyR H2 Q E->∃te,(∀s,PE (cxL P w K mg base [AAb,AAd] fd fl A outer s H2 E) body te)/\te [some v,some vy] H2 Q
structure CallsAt(T pS:Addr)(qn:Str)(R:Hp->V->Prop)(H0 H:Hp)(xs:List V):Prop where
 kp:∀b o,b≠T->H0 b=some o->H b=some o
 tb:TabOk H T qn
 el:H pS=some (.lst xs)
 nl:H0 pS=none
 it:∀x∈xs,R H x
theorem LamObj.keep{fl:Addr}(L:LamObj H fl fd)(k:∀b o,H b=some (held o)->H' b=some (held o)):LamObj H' fl fd:=by
 obtain⟨⟨o,e1,e2⟩,c,oc,vs,t,a1,a2,a3⟩:=L;exact⟨⟨o,k _ _ e1,e2⟩,c,oc,vs,t,a1,k _ _ a2,a3⟩
theorem LamK.keep(L:LamK P w K mg base Cs cl d y v vy H x)(k:∀b o,H b=some (held o)->H' b=some (held o)):LamK P w K mg base Cs cl d y v vy H' x:=by
 obtain⟨fl,fd,body,e,L,r⟩:=L.ex;exact⟨fl,fd,body,e,LamObj.keep L k,r⟩
theorem CallsAt.nt(c:CallsAt T pS qn R H0 H xs):pS≠T:=λz=>by
 obtain⟨ps,e,_⟩:=c.tb;have:=c.el;rw[z,e]at this;cases this
theorem CallsAt.push(hR:∀H H' x,R H x->(∀b o,H b=some (held o)->H' b=some (held o))->R H' x)(c:CallsAt T pS qn R H0 H xs)(k:∀b o,b≠T->H b=some o->H' b=some o)(tb:TabOk H' T qn)(hx:R H' x):H' pS=some (.lst xs)/\CallsAt T pS qn R H0 (upd H' pS (.lst (xs++[x]))) (xs++[x]):=by
 have e':=k _ _ c.nt c.el
 have hh:∀b o,H' b=some (held o)->upd H' pS (.lst (xs++[x])) b=some (held o):=λb o e=>by
  rw[aA λz=>by rw[z,e']at e;cases e];exact e
 refine⟨e',λb o n e=>?_,tb.keep (λps e=>by rw[aA (Ne.symm c.nt)];exact e) hh,aa,c.nl,λz hz=>?_⟩
 .rw[aA (aD e c.nl)];exact k b o n (c.kp b o n e)
 .rcases zA6.mp hz with hz|hz
  .exact hR _ _ _ (c.it z hz) λb o e=>hh b o (k b _ (λz=>by
    obtain⟨ps,e2,_⟩:=c.tb;rw[z,e2]at e
    cases e) e)
  .rw[Zad.mp hz];exact hR _ _ _ hx hh
theorem CallsAt.same(hR:∀H H' x,R H x->(∀b o,H b=some (held o)->H' b=some (held o))->R H' x)(c:CallsAt T pS qn R H0 H xs)(s:Same H H'):CallsAt T pS qn R H0 H' xs:=
 ⟨λb o n e=>s _ _ (c.kp b o n e),c.tb.same s,s _ _ c.el,c.nl,λx hx=>hR _ _ _ (c.it x hx) λb o e=>s _ _ e⟩
theorem scR:FnScope NR [AAb,AAd] (az (top 90)):=fQS
theorem G9(F:Fun K AAj AAj (top 90) f fd)(hc:fd.code=.ref cc)(hC:PySem.W.CodeHd base cc T0)(hB:base.BuiltinsAt mg T0)(T:Mg mg)(Tp:mg "repr"=none)(kd:∀j,j=3\/j=5->Kind K Cs j)
  (c1:Cal P w K mg base 15 AAq [AAm] (yo P w K mg base Cs 13)) (c2:oR P w K mg base 12 "owed_by" ["book","year"] (wM Cs anyR)) (c3:oR P w K mg base 12 "sums_by" ["book","year"] (wM Cs anyR)) (c4:oR P w K mg base 12 "pence_owed" ["book","year"] (wM Cs anyR)) (c5:oR P w K mg base 8 "paid_before" ["book"] (FN Cs anyR))
  (c6:Cal P w K mg base 3 "_law_is_book" [AAb] Jh) (c7:Cal P w K mg base 1 ABd [AAb,AAv,AAr] (jP dN)):
  FnOk P w K mg base CX0 62 f fd [AAb,AAd] (spRight T0 qnT):=by
 refine F.oqC hc scR λA outer s H vs Q E hr h=>?_;obtain⟨S,v,d,vy,y,rfl,hS,th,ty,tm,hz,lo,tab,q⟩:=h;obtain⟨f1,Zj,F1,m1,k1,b1⟩:=id c1;have nK:Room 15 (A.deeper (PyProof.Rows.envOfC AAj (az (top 90)) s.heap.objs.size f (.ref cc))):=hr.mono z02
 refine K33P.ok_b (aH ⟨wY (i:=2) (j:=3) rfl scR.nd rfl rfl z02 rfl rfl (aq (aK (rR (S:=S) hr.gd hS) rfl Tp qy (aq (bA (aq (pv 0) (aq (pv 1) aj))) aj)) (aq dX aj)) rfl⟩
  (aH ⟨bR (bL (aG c6 hr (aq (pv 0) aj))) (aF (pss 3 scR.nd (uV (bL (aG c7 hr (aq (pv 1) (aq au (aq (aO dY (aK aZ rfl T.len PySem.boot_len (aq (pX bj (pv 0) au) aj)) au) aj))))) dX dX))) aY⟩
  (aH (fU 4 scR.nd (cz (aQ ⟨nA (N:=[AAb,AAd]) (sc:=az (top 90)) (NX:=NR) [0,1] rfl hC hB rfl rfl rfl (λ_ _ _ _ _=>rfl) z04⟩ bu ⟨λ_ _=>rfl⟩)))
  (aH ⟨cA (pI zBb zBd zBc iM (pv 4) (aq (nA (N:=[AAb,AAd]) (sc:=az (top 90)) (NX:=NR) [0,1] rfl hC hB rfl rfl rfl (λ_ _ _ _ _=>rfl) z04) aj ⟨λ_ _=>rfl⟩))⟩
  (aH ⟨cA (pI zBb zBd zBc iM (pv 4) (aq (nA (N:=[AAb,AAd]) (sc:=az (top 90)) (NX:=NR) [0,1] rfl hC hB rfl rfl rfl (λ_ _ _ _ _=>rfl) z04) aj ⟨λ_ _=>rfl⟩))⟩
  (aH ⟨cG zB7 rfl (dC (pv 4)) (pgn 5 scR.nd)
    (jU (aH (fU 6 scR.nd ⟨DN scLam (N:=[AAb,AAd]) (ix:=[0,1]) (sc:=az (top 90)) (NX:=NR) F1 nK rfl m1 k1 b1 rfl (λ_=>rfl) rfl rfl z04 (pv 5)⟩)
    (bx (bs_if ⟨PW.pt (iG (PW.pt (iB (aW lB (pv 3) dX (aU _)) (jE (aW lB (pv 6) (pv 3) (aU _))))) (j7 (PW.pt (iB (aW iH (pv 3) dX (aU _)) (jE (aW lB (pX bj (pv 6) au) dX (aU _)))))))⟩ (bx (fQ rY)) bss_nil))))⟩
  (aH (fU 6 scR.nd ⟨Dw (N:=[AAb]) (ix:=[0]) (sc:=az (top 90)) (NX:=NR) F1 nK rfl m1 k1 b1 rfl (λ_=>rfl) rfl hC hB rfl rfl rfl (λ_ _ _ _ _=>rfl) z04⟩)
  (aH (bs_if ⟨PW.pt (iG (aW lB (fZ (Hl (K33P.roomU hr)) (pv 6) dX (aU _)) (fZ iH (pv 3) dX (aU _)) (aU _)) (j7 (aW lB (aK (rR (S:=S) hr.gd hS) rfl Tp qy (aq (bA (aq (pv 0) (aq (pv 1) aj))) aj)) (pv 2) (aU _))))⟩ (bx (fQ rY)) bss_nil)
  (bx (fQ ⟨KQ (fZ iH (pv 3) dX (aU _)) (eV (fZ iH (pX bj (pv 6) au) dX (aU _)))⟩)))))))))) ?_
 have zz:sz d<=4000/\sz y<=4000:=by
  have:1+(sz d+(sz y+0))<=1000:=hz;lia
 refine aC ?_;refine⟨_,rfl,_,rfl,zL,λp0 UT=>?_⟩;have EH:=Same.upd (o:=.tup [v,vy]) UT;refine⟨.ref p0,.tuple [d,y],rfl,.tup aa (.cons (th.same EH) (.cons (ty.same EH) .nil)),tm,z00,uz hr z02 hz,⟨_,_,rfl,?_⟩⟩;dsimp only;generalize upd H p0 (.tup [v,vy])=H1 at EH⊢;refine ir λc_ fS=>?_
 have rest:∀H2,Same H H2->c_ [some v,some vy,some (.str (PyData.tuple [d,y]).shown),some (.str (qJ d y)),none,none,none] H2:=by
  intro H2 s2;have ip:=th.same s2;have Qa:=ty.same s2;have gz:=TabOk.same tab s2
  have UU:∀j,fP d y=some j->Kind K Cs j:=λj hj=>kd j (by
   rcases zW (d:=d) (y:=y)with k|k|k
   .rw[k]at hj;cases hj;lia
   .rw[k]at hj;cases hj;lia
   .rw[k]at hj;cases hj)
  have vals:∀(j' i':Nat) (z:V),([0,1]:List Nat)[j']?=some i'->([v,vy]:List V)[j']?=some z->∀(x:L2.St),(some v::some vy::x:L2.St)[i']?=some (some z):=by rintro(_|_|_) i z e1 e2 x<;>cases e1<;>cases e2<;>rfl
  refine fS _ _ ?_;refine aC (aP ?_);refine fV ?_
  obtain⟨cl,jI⟩:∃cl,cl=cC (PyProof.Rows.envOfC AAj (az (top 90)) s.heap.objs.size f (.ref cc)).cells scLam.names []:=⟨_,rfl⟩
  have hR:∀H H' x,LamK P w K mg base Cs cl d y v vy H x->(∀b o,H b=some (held o)->H' b=some (held o))->LamK P w K mg base Cs cl d y v vy H' x:=λ_ _ _ h k=>h.keep k;refine⟨gz,λjS Mb Zk Zl H3 gX nN UW L1 Z1=>?_⟩
  have k1:LamK P w K mg base Cs cl d y v vy H3 (.ref jS):=⟨jS,_,_,rfl,L1,Z1,by rw[jI];rfl,λH2 h A' cb E' Q' iq out=>(let⟨S,t1,t2⟩:=h;⟨_,λs'=>gf c2 (iq.deeper _) z02 rfl mj rfl (aq (pv 0) (aq (pv 1) aj)),⟨v,rfl,vy,rfl,S,v,d,vy,y,rfl,t1,zz.1,t2,zz.2,out⟩⟩)⟩
  refine⟨zL,λpS tN=>?_⟩;refine aJ ?_;dsimp only
  have nS:H2 pS=none:=by
   cases e:H2 pS with
   |none=>rfl
   |some o=>
    by_cases z:pS=T0
    .obtain⟨ps,e3,_⟩:=nN;rw[z,e3]at tN;cases tN
    .rw[gX _ _ z e]at tN;cases tN
  refine gen_ts (λHc=>CallsAt T0 pS qnT (LamK P w K mg base Cs cl d y v vy) H2 Hc [.ref jS]) ⟨λb o n e=>Same.upd tN _ _ (gX b o n e),nN.same (Same.upd tN),aa,nS,λx hx=>by rw[Zad.mp hx];exact k1.keep λb o e=>Same.upd tN _ _ e⟩ λH4 GL=>?_;clear k1 L1 Z1 gX nN tN UW;refine aC ?_;refine⟨_,rfl,.inl ⟨rfl,_,SqL.of GL.el⟩,?_⟩;refine⟨GL.tb,λpz Mc Zm Zn H5 Qb EI UX L2 Z2=>?_⟩
  have k2:LamK P w K mg base Cs cl d y v vy H5 (.ref pz):=⟨pz,_,_,rfl,L2,Z2,by rw[jI];rfl,λH2 h A' cb E' Q' iq out=>(let⟨S,t1,t2⟩:=h;⟨_,λs'=>gf c3 (iq.deeper _) z02 rfl mj rfl (aq (pv 0) (aq (pv 1) aj)),⟨v,rfl,vy,rfl,S,v,d,vy,y,rfl,t1,zz.1,t2,zz.2,out⟩⟩)⟩
  obtain⟨e5,EJ⟩:=GL.push hR Qb EI k2;refine⟨pS,_,.ref pz,rfl,rfl,e5,(by show 1<sizeLine;decide),?_⟩;dsimp only;generalize upd H5 pS (.lst ([.ref jS]++[.ref pz]))=H6 at EJ⊢;clear k2 L2 Z2 Qb EI UX GL e5;refine aC ?_;refine⟨_,rfl,.inl ⟨rfl,_,SqL.of EJ.el⟩,?_⟩;refine⟨EJ.tb,λEK Zo Zp Zq H7 Qd EL UY L3 Z3=>?_⟩
  have k3:LamK P w K mg base Cs cl d y v vy H7 (.ref EK):=⟨EK,_,_,rfl,L3,Z3,by rw[jI];rfl,λH2 h A' cb E' Q' iq out=>(let⟨S,t1,t2⟩:=h;⟨_,λs'=>gf c4 (iq.deeper _) z02 rfl mj rfl (aq (pv 0) (aq (pv 1) aj)),⟨v,rfl,vy,rfl,S,v,d,vy,y,rfl,t1,zz.1,t2,zz.2,out⟩⟩)⟩
  obtain⟨e7,GN⟩:=EJ.push hR Qd EL k3;refine⟨pS,_,.ref EK,rfl,rfl,e7,(by show 2<sizeLine;decide),?_⟩;dsimp only;generalize upd H7 pS (.lst ([.ref jS]++[.ref pz]++[.ref EK]))=H8 at GN⊢;clear k3 L3 Z3 Qd EL UY EJ e7;generalize[V.ref jS]++[.ref pz]++[.ref EK]=xs at GN;refine aC ?_;refine⟨_,rfl,pS,rfl,⟨_,SqL.of GN.el⟩,?_⟩;refine gQ (xs:=xs) (λk σ Hc=>∃x5 x6,σ=[some v,some vy,some (.str (PyData.tuple [d,y]).shown),some (.str (qJ d y)),some (.ref pS),x5,x6]/\CallsAt T0 pS qnT (LamK P w K mg base Cs cl d y v vy) H2 Hc xs) ?_ ?_ ?_ ?_
  .exact⟨_,_,rfl,GN⟩
  .rintro k σ Hc hk ⟨x5,x6,rfl,ca⟩;exact SqL.of ca.el
  .rintro k x σ Hc hx ⟨x5,x6,rfl,ca⟩;obtain⟨fl,Zr,body,rfl,L,Z,ME,run⟩:=(ca.it _ (zB6 hx)).ex;have MG:=ip.tbl gz ca.kp;have MH:=Qa.tbl gz ca.kp;refine aJ (aC ?_);refine aP ?_;refine⟨_,rfl,[v,vy],rfl,λj' i' z e1 e2=>vals j' i' z e1 e2 _,λcs C=>?_⟩;refine wV (vs:=[v,vy]) (o:=fP d y) UU L Z (by rw[ME,jI];exact C) rfl (λA' cb E' Q' iq out=>run Hc ⟨S,MG,MH⟩ A' cb E' Q' iq out) λv1 H9 s9 f9=>?_;have no:NoC cs Hc:=C.no;have kU:=s9.er no;have Qe:=f9.keep λb xs e=>yX s9 (λ_ _ z=>by cases z) e;have EM:=ca.same hR kU;refine aJ ?_;dsimp only;generalize er H9 cs=HB at kU Qe EM⊢;refine Iv (K:=K) rfl rfl Qe ?_;refine aX ?_;exact⟨_,_,rfl,EM⟩
  .rintro σ Hc ⟨x5,x6,rfl,ca⟩;have MG:=ip.tbl gz ca.kp;have MH:=Qa.tbl gz ca.kp;dsimp only;refine aC (aP ?_);refine⟨ca.tb,λfl pm cv ct H9 MI ML nf L Z=>⟨[v],rfl,λj' i' z e1 e2=>?_,λcs C=>?_⟩⟩
   .rcases j' with _|j'
    .cases e1;cases e2;rfl
    .simp at e1
   have EG:=MG.tbl ca.tb MI;have UZ:=MH.tbl ca.tb MI;refine wV (o:=kindB d) (λj hj=>kd j (.inl (kB3 hj))) L Z C rfl (λA' cb E' Q' iq out=>⟨_,λs'=>gf c5 (iq.deeper _) z02 rfl mj rfl (aq (pv 0) aj),⟨v,rfl,S,v,d,rfl,EG,zz.1,out⟩⟩) λv1 HA sA fA=>?_;have no:NoC cs H9:=C.no;have sB:=sA.er no;have fB:=fA.keep λb xs e=>yX sA (λ_ _ z=>by cases z) e;refine aJ ?_;dsimp only;generalize er HA cs=HB at sB fB⊢;have U0:=EG.same sB;have tyB:=UZ.same sB;have EN:=ML.same sB;have kB:∀b o,b≠T0->H b=some o->HB b=some o:=λb o n e=>sB _ _ (MI b o n (ca.kp b o n (s2 _ _ e)));clear fA sA C L Z no
   have fin:∀p9,HB p9=none->Same HB (upd HB p9 (.tup [v,vy]))/\IsTh S (upd HB p9 (.tup [v,vy])) (.ref p9) (.tuple [d,y]):=λp9 lh=>⟨Same.upd lh,.tup aa (.cons (U0.same (Same.upd lh)) (.cons (tyB.same (Same.upd lh)) .nil))⟩
   refine aC ?_
   cases hb:cQ d with
   |false=>
    have e:qJ d y="book":=by unfold qJ fP;rw[zAz hb];rfl
    rw[show kindB d=some 3 by unfold kindB;rw[zAz hb]]at fB;cases(show v1=.str "book" from fB);rw[e];refine⟨_,rfl,"book",rfl,.inl ⟨"book",rfl,_,rfl,rfl,rfl,_,rfl,?_⟩⟩;refine aX ⟨_,rfl,_,rfl,zL,λp9 lh=>⟨.ref p9,.tuple [d,y],rfl,(fin p9 lh).2,tm,z00,uz hr z02 hz,_,rfl,rfl,_,rfl,?_⟩⟩;rw[zAu rfl];refine aX (bN ?_);dsimp only;refine dZ ?_;exact⟨_,rfl,rfl,_,rfl,bh (q _ (λb o n e=>(fin p9 lh).1 _ _ (kB b o n e)) (EN.same (fin p9 lh).1))⟩
   |true=>
    have e:decide (V.str (qJ d y)=V.str "book")=false:=by
     unfold qJ fP;rw[hb,zAy z02];by_cases hy:dN y 0 ((items (part d 0)).length-1)=false
     .rw[zAz hy];rfl
     .rw[zAy hy];rfl
    rw[show kindB d=none by unfold kindB;rw[hb];rfl]at fB;obtain⟨p,x,rfl,ep⟩:=fB;refine⟨_,rfl,"book",rfl,.inr ⟨p,_,rfl,SqT.of ep,_,rfl,rfl,rfl,_,rfl,?_⟩⟩;rw[e];refine aX ⟨_,rfl,_,rfl,zL,λp9 lh=>⟨.ref p9,.tuple [d,y],rfl,(fin p9 lh).2,tm,z00,uz hr z02 hz,_,rfl,rfl,_,rfl,?_⟩⟩;rw[zAu rfl];refine aX (bN ?_);dsimp only;refine dZ ?_;refine⟨_,rfl,rfl,_,rfl,?_⟩;rw[e];exact aX ⟨_,rfl,p,_,0,.str "told",rfl,rfl,SqT.of ((fin p9 lh).1 _ _ ep),rfl,rfl,q _ (λb o n e=>(fin p9 lh).1 _ _ (kB b o n e)) (EN.same (fin p9 lh).1)⟩
 refine⟨_,rfl,S,v,d,rfl,th.same EH,zz.1,lo,λH2 s2=>⟨_,rfl,?_⟩⟩;have GO:=EH.trans s2
 cases hb:cQ d with
 |false=>
  have e:qJ d y="book":=by unfold qJ fP;rw[zAz hb];rfl
  refine aX (bN ?_);have:=rest H2 GO;rw[e]at this;exact this
 |true=>
  obtain⟨bk,ac,xc,cs,ap,xp,ps,af,xs,ss,rfl,rfl,B⟩:=p8 (th.same GO) hb
  have hl:(items (part (.tuple [fG cs,fG ps,fG ss]) 0)).length=xc.length:=by
   show(cs.map rowD).length=_;rw[zA1,B.rc.l]
  refine bh (aP ?_);refine⟨_,rfl,_,rfl,bk,_,0,.ref ac,rfl,rfl,SqT.of B.e,rfl,ac,_,rfl,.inr (SqT.of B.rc.e),_,_,rfl,rfl,S,vy,y,0,_,rfl,ty.same GO,zz.2,λH3 s3=>⟨_,rfl,?_⟩⟩;have:=rest H3 (GO.trans s3);unfold qJ fP at this;rw[hb,zAy z02,hl]at this
  cases e:dN y 0 ((xc.length:Int)-1)with
  |true=>
   rw[e,zAy z02]at this;exact bh (aJ this)
  |false=>
   rw[e,zAz rfl]at this;exact aX (aJ this)
theorem tu:∀(is:UV),szs (is.map PyData.int)=is.length
 |[]=>rfl
 |i::is=>by
  show 1+szs (is.map PyData.int)=is.length+1;rw[tu is];lia
theorem rows_szs:∀{rs:PK},(∀r∈rs,r.length=k)->szs (rs.map rowD)=(k+1)*rs.length
 |[],_=>rfl
 |r::rs,h=>by
  show(1+szs (r.map PyData.int))+szs (rs.map rowD)=(k+1)*(rs.length+1);rw[tu,h r (.head _),rows_szs λq hq=>h q (.tail _ hq),Nat.mul_add];lia
theorem okP_sm(h:okP r):∀i∈r,-10<=i/\i<=2000000:=by
 obtain⟨h0,h1,h2,h3,h4,h5⟩:=h;rw[six_row h0];intro i hi;simp only[List.mem_cons,List.not_mem_nil,or_false]at hi;rcases hi with rfl|rfl|rfl|rfl|rfl|rfl<;>lia
theorem els_ths:∀{xs:List V} {rs:PK},Els H xs rs->IsThs S H xs (rs.map rowD)
 |[],[],_=>.nil
 |[],_::_,h=>by have:=h.1;simp at this
 |_::_,[],h=>by have:=h.1;simp at this
 |x::xs,r::rs,h=>by
  obtain⟨t,e1,e2⟩:=h.2 0 r rfl;cases e1;refine .cons (.tup e2 (IsThs.ints r)) (els_ths ⟨by have:=h.1;simpa using this,λi q e=>?_⟩);obtain⟨u,g1,g2⟩:=h.2 (i+1) q (by rw[Za9];exact e);exact⟨u,g1,g2⟩
end K33
namespace K33P
open PySem L2
theorem Ga{xs:List V}{r:Int}(h0:0<=r)(h1:r<xs.length):∃u,atI xs r=some u/\u∈xs:=by
 have hr:r.toNat<xs.length:=z00
 have e:xs[r.toNat]?=some xs[r.toNat]:=zA0 hr;have:=dD e;rw[show((r.toNat:Nat):Int)=r by lia]at this;exact⟨_,this,zAh hr⟩
theorem Gb(t:TabOk H T q)(sa:iU H st)(g:Dr st H H'):TabOk H' T q:=by
 obtain⟨x,y,z,e,_⟩:=sa;refine t.keep (λps e'=>g.bt _ _ e' λz=>?_) λb o e'=>g.bt _ _ e' λz=>?_
 .rw[z,e]at e';cases e'
 .rw[z,e]at e';cases e'
structure Wk(T st c ac ap af lo:Addr)(qn:Str)(xc its:List V)(d:PyData)(H0 H:Hp):Prop where
 kp:∀b o,b≠T->b≠st->H0 b=some o->H b=some o
 sa:iU H st
 tb:TabOk H T qn
 eb:H c=some (.tup [.ref ac,.ref ap,.ref af])
 ec:H ac=some (.tup xc)
 th:IsTh (SS st) H (.ref c) d
 el:H lo=some (.lst its)
 nl:lo≠st
 it:∀u∈its,∃d,IsTh (SS st) H u d/\Gd 990 d
section
theorem Wk.dr(a:Wk T st c ac ap af lo qn xc its d H0 H)(g:Dr st H H'):Wk T st c ac ap af lo qn xc its d H0 H':=
 ⟨λb o n1 n2 e=>g.bt _ _ (a.kp b o n1 n2 e) n2,g.sa,Gb a.tb a.sa g,g.tups a.sa _ _ a.eb,g.tups a.sa _ _ a.ec,g.thS a.sa a.th,g.bt _ _ a.el a.nl,a.nl,λu hu=>(let⟨d,t,b⟩:=a.it u hu;⟨d,g.thS a.sa t,b⟩)⟩
theorem Wk.same(a:Wk T st c ac ap af lo qn xc its d H0 H)(s:Same H H'):Wk T st c ac ap af lo qn xc its d H0 H':=a.dr (Dr.same (Dr.refl a.sa) s)
theorem Wk.right(a:Wk T st c ac ap af lo qn xc its d H0 H)(k:∀b o,b≠T->H b=some o->H' b=some o)(t:TabOk H' T qn):Wk T st c ac ap af lo qn xc its d H0 H':=by
 obtain⟨ps,e',_⟩:=id a.tb
 have nn:∀{b o},H b=some o->(∀ps,o≠HO.tbl ps)->b≠T:=λe n z=>by
  rw[z,e']at e;cases e;exact n _ rfl
 refine⟨λb o n1 n2 e=>k b o n1 (a.kp b o n1 n2 e),?_,t,k _ _ (nn a.eb nofun) a.eb,k _ _ (nn a.ec nofun) a.ec,a.th.tbl a.tb k,k _ _ (nn a.el nofun) a.el,a.nl,λu hu=>(let⟨d,th,b⟩:=a.it u hu;⟨d,th.tbl a.tb k,b⟩)⟩;obtain⟨x,y,z,e,r⟩:=a.sa;exact⟨x,y,z,k _ _ (nn e nofun) e,r⟩
end
def Sc(u:V):Prop:=∃d,(∀S H,IsTh S H u d)/\tame d=true/\sz d<=1
theorem Sc.int(h:i.natAbs<2^128):Sc (.int i):=⟨.int i,λ_ _=>.int i,zAu h,zA3 _⟩
theorem Sc.non:Sc .non:=⟨.none,λ_ _=>.non,rfl,zA3 _⟩
theorem Sc.bl(b:Bool):Sc (.bl b):=⟨.bool b,λ_ _=>.bl b,rfl,zA3 _⟩
theorem Sc.str:Sc (.str "0"):=⟨.str "0",λ_ _=>.str _,by decide +kernel,zA3 _⟩
theorem qK{rs:PK}(h:∀r∈rs,r.length<=80/\∀i∈r,-10<=i/\i<=2000000):j4 (rs.map K33.rowD)=true:=by
 have EO:∀r:UV,(∀i∈r,-10<=i/\i<=2000000)->j4 (r.map PyData.int)=true:=λr=>by
  induction r with
  |nil=>intro _;rfl
  |cons i r ih=>
   intro h;have h1:=h i (.head _);show((decide (-10<=i)&&decide (i<=2000000))&&j4 (r.map PyData.int))=true;rw[zAu h1.1,zAu h1.2,ih λj hj=>h j (.tail _ hj)];rfl
 induction rs with
 |nil=>rfl
 |cons r rs ih=>
  have h1:=h r (.head _);show((decide ((r.map PyData.int).length<=80)&&j4 (r.map PyData.int))&&j4 (rs.map K33.rowD))=true;rw[zA1,zAu h1.1,EO r h1.2,ih λq hq=>h q (.tail _ hq)];rfl
theorem uO{α:Type}{xs:List α}{y:α}:∀{n:Nat},y∈(List.replicate n xs).flatten->y∈xs
 |0,h=>by cases h
 |n+1,h=>by
  rcases zA6.mp h with h|h
  .exact h
  .exact uO h
theorem uP(ds:List PyData):∀n,szs (List.replicate n ds).flatten=n*szs ds
 |0=>by rw[Nat.zero_mul];rfl
 |n+1=>by rw[List.replicate_succ,List.flatten_cons,fD,uP ds n,Nat.succ_mul,Nat.add_comm]
theorem uQ(h:IsThs S H xs ds):∀n,IsThs S H (List.replicate n xs).flatten (List.replicate n ds).flatten
 |0=>.nil
 |n+1=>by
  exact h.append (uQ h n)
theorem qL{rs:PK}(h:K33.RowsAt H a xs rs):IsThs S H xs (rs.map K33.rowD):=K33.els_ths ⟨h.l,h.g⟩
def _root_.K33.spLaw(K:Frag)(T:Addr):Sp:=λvs H Q _=>∃(a:Addr) (ns:UV),vs=[.ref a]/\SqL K H a (ns.map V.int)/\ns.length<=63/\TabOk H T K33.qnT/\∀H',Q (.bl true) H'
section
theorem scL:FnScope [AAc,AAo,AAa,"_law_book_here","_law_odd","_law_turn",AAb,AAd] [AAc] (az (top 91)):=fQS
theorem ok_law(F:Fun K "law" "law" (top 91) f fd)(T:Mg mg)(Tr:mg "range"=none)(Tm:mg "max"=none)(Tn:mg "min"=none)(Tl:mg "list"=none)
  (c1:Cal P w K mg base 2 "_law_state" [AAc,AAo] (zc K)) (c2:Cal P w K mg base 3 "_law_book" [AAa,AAi,AAf] K33Q.spBook) (c3:Cal P w K mg base 1 AAg [AAa,AAh] dU) (c4:Cal P w K mg base 7 AAn [AAa,AAb,AAl] (spB 5))
  (c5:Cal P w K mg base 62 AAj [AAb,AAd] (K33.spRight T0 K33.qnT)):
  FnOk P w K mg base CX0 63 f fd [AAc] (K33.spLaw K T0):=by
 refine F.oq scL λcdv A outer s H vs Q E hr h=>?_;obtain⟨a,ns,rfl,hS,hl,tab,q⟩:=h
 refine ok_b (aH ⟨cG zB7 rfl (cY rfl Tr (aq (aK (jG rfl) rfl Tm nF (aq au (aq (aK (iI rfl) rfl Tn nG (aq (aK aZ rfl T.len PySem.boot_len (aq (pv 0) aj)) (aq au aj))) aj))) aj)) (pgn 1 scL.nd)
   (jU (aH (fU 2 scL.nd ⟨aG (hjk:=z00) c1 hr (aq (pv 0) (aq (pv 1) aj))⟩)
   (aH (fU 3 scL.nd ⟨aG (hjk:=z00) c2 hr (aq (pv 2) (aq au (aq au aj)))⟩)
   (aH (fU 4 scL.nd (cz (aQ ⟨pv 3⟩ (aQ ⟨pv 3⟩ (aQ uc (aQ ⟨cu dF (pv 3) cR (cU au)⟩ (aQ ⟨cH jT rfl Tl boot_list (aq (pv 3) aj)⟩ (aQ (gZ (aQ (gZ bu) (aQ ⟨pX bj (pv 3) au⟩ (aQ ⟨pX bj (pv 3) au⟩ bu))))
     (aQ (gZ (aQ ⟨pX bj (pv 3) au⟩ (aQ ⟨pX bj (pv 3) au⟩ (aQ (gZ (aQ (gZ (aQ fj (aQ fj (aQ fj (aQ fj (aQ fj bu)))))) bu)) bu)))) bu)))))))))
   (aH (fU 4 scL.nd (il j9 ⟨pv 4⟩ (cz (aQ (gZ (aQ ⟨pX bj (pv 3) au⟩ (aQ ⟨pX bj (pv 3) au⟩ (aQ (il za ⟨pX bj (pv 3) au⟩ fj) bu))))
     (aQ (gZ (aQ ⟨cu dF (aO za (pX bj (pv 3) au) au) cR (cU au)⟩ (aQ ⟨pX bj (pv 3) au⟩ (aQ ⟨pX bj (pv 3) au⟩ bu)))) bu)))))
   (bx ⟨cG zB7 rfl (cY rfl Tr (aq au aj)) (pgn 5 scL.nd)
     (jU (aH (fU 6 scL.nd (lK bM ⟨pv 4⟩ ⟨aG (hjk:=z00) c3 hr (aq (pv 2) (aq au aj))⟩ (λ_ _=>rfl)))
     (aH (K33.bs_if ⟨aW iH (aG (hjk:=z00) c3 hr (aq (pv 2) (aq au aj))) au (aU _)⟩ (bx (fU 6 scL.nd ⟨aG (hjk:=z00) c4 hr (aq (pv 2) (aq (pv 3) (aq au aj)))⟩)) K33.bss_nil)
     (aH (fU 7 scL.nd (lK bM (cz (aQ fj (aQ ⟨aO dY (aK aZ rfl T.len PySem.boot_len (aq (pX bj (pv 3) au) aj)) au⟩ (aQ ⟨aK aZ rfl T.len PySem.boot_len (aq (pX bj (pv 3) au) aj)⟩ (aQ JH (aQ uc (aQ rY (aQ d9 (aQ fj bu))))))))) ⟨aG (hjk:=z00) c3 hr (aq (pv 2) (aq au aj))⟩ (λ_ _=>rfl)))
     (bx (K33.bs_if ⟨cg (bL (aG (hjk:=z00) c5 hr (aq (pv 6) (aq (pv 7) aj))))⟩ (bx (fQ rY)) K33.bss_nil))))))⟩))))))⟩
  (bx (fQ rY))) ?_
 refine aC ?_;have AM:(ns.map V.int).length<=63:=by rw[zA1];exact hl
 refine⟨_,rfl,a,_,rfl,.inl hS,_,_,rfl,_,_,rfl,_,rfl,?_,?_,?_⟩
 .split<;>split<;>lia
 .split<;>split<;>lia
 refine eQ (lo:=0) (λi σ Hc=>∃x1 x2 x3 x4 x5 x6 x7,σ=[some (.ref a),x1,x2,x3,x4,x5,x6,x7]/\(∀b o,b≠T0->H b=some o->Hc b=some o)/\TabOk Hc T0 K33.qnT) ?_ ?_ ?_
 .exact⟨none,none,none,none,none,none,none,rfl,λ_ _ _ e=>e,tab⟩
 .rintro i σ H1 hi ⟨x1,x2,x3,x4,x5,x6,x7,rfl,k1,yT⟩
  have U1:SqL K H1 a (ns.map V.int):=by
   obtain⟨ps,eT,_⟩:=tab;rcases hS with(h|⟨o,h⟩)|h
   .exact .inl (.inl (k1 _ _ (λz=>by rw[z,eT]at h;cases h) h))
   .exact .inl (.inr ⟨o,k1 _ _ (λz=>by rw[z,eT]at h;cases h) h⟩)
   .exact .inr h
  refine aJ ?_;refine K33.rd_E λDe rq=>?_;refine aC (aP ?_);refine⟨_,rfl,_,rfl,a,ns,_,rfl,U1,z00,λst x y z hn KP U2 xt=>?_⟩
  have nT:st≠T0:=λz=>by
   obtain⟨ps,eT,_⟩:=yT;rw[z,eT]at hn;cases hn
  have U3:H st=none:=by
   cases e:H st with
   |none=>rfl
   |some o=>
    rw[k1 st o nT e]at hn;cases hn
  refine aJ ?_;dsimp only;refine K33.gen_ts (λH2=>(∀b o,b≠T0->b≠st->H b=some o->H2 b=some o)/\iU H2 st/\TabOk H2 T0 K33.qnT) ⟨λb o n1 n2 e=>by rw[aA n2];exact k1 b o n1 e,⟨x,y,z,aa,KP,U2,xt⟩,TabOk.same yT (Same.upd hn)⟩ λH2=>?_;rintro⟨qB,MM,gz⟩;refine aC (aP ?_);refine⟨_,rfl,st,5,5,rfl,MM,by decide,by decide,by decide,by decide,λbk ac xc cs ap xp ps af xs ss H3 d3 eb rc OW OX okc rp lp okp rs ls ej yy=>?_⟩
  have oC:j4 (cs.map K33.rowD)=true:=qK λr hr=>⟨by rw[(okc r hr).1];decide,λi hi=>by have:=(okc r hr).2 i hi;lia⟩
  have oP:j4 (ps.map K33.rowD)=true:=qK λr hr=>⟨by rw[(okp r hr).1];decide,K33.okP_sm (okp r hr)⟩
  have oS:j4 (ss.map K33.rowD)=true:=qK λr hr=>⟨by rw[(ej r hr).1];decide,(ej r hr).2⟩
  have zC:szs (cs.map K33.rowD)<=20:=by rw[K33.rows_szs λr hr=>(okc r hr).1];lia
  have zP:szs (ps.map K33.rowD)<=35:=by rw[K33.rows_szs λr hr=>(okp r hr).1];lia
  have zS:szs (ss.map K33.rowD)<=36:=by rw[K33.rows_szs λr hr=>(ej r hr).1];lia
  have nC:(cs.map K33.rowD).length<=80:=by rw[zA1];lia
  have nP:(ps.map K33.rowD).length<=80:=by rw[zA1];lia
  have nS:(ss.map K33.rowD).length<=80:=by rw[zA1];lia
  have Zs:xc.length=cs.length:=rc.l;have Zt:xs.length=ss.length:=rs.l;have tC:=qL (S:=SS st) rc;have tP:=qL (S:=SS st) rp;have tS:=qL (S:=SS st) rs;have ec:=rc.e;have ep:=rp.e;have es:=rs.e;clear rc rp rs okc okp ej yy;generalize cs.map K33.rowD=C at oC zC nC tC;generalize ps.map K33.rowD=PP at oP zP nP tP;generalize ss.map K33.rowD=ff at oS zS nS tS;have gC:=λd hd=>qI (j5 oC d hd);have gP:=λd hd=>qI (j5 oP d hd);have gS:=λd hd=>qI (j5 oS d hd);have gX:∀b o,b≠T0->b≠st->H b=some o->H3 b=some o:=λb o n1 n2 e=>d3.bt _ _ (qB b o n1 n2 e) n2;have nN:=Gb gz MM d3;have MO:=d3.sa;refine aJ ?_;dsimp only;clear qB MM gz d3;refine aC (aP ?_);refine fV ?_;have tD:∀{Hx},Same H3 Hx->IsThs (SS st) Hx [.ref ac,.ref ap,.ref af] [.tuple C,.tuple PP,.tuple ff]:=λm=>.cons (.tup (m _ _ ec) (tC.same m)) (.cons (.tup (m _ _ ep) (tP.same m)) (.cons (.tup (m _ _ es) (tS.same m)) .nil))
  have gU:∀{ds:List PyData},(∀d∈ds,tame d=true/\K33.lowD d=true)->tame (.tuple ds)=true/\K33.lowD (.tuple ds)=true:=λh=>(let g:=eO h (zA3 _);⟨g.1,g.2.1⟩)
  have gD:∀d∈[PyData.tuple C,.tuple PP,.tuple ff],tame d=true/\K33.lowD d=true:=λd hd=>by grind
  have zD:szs [PyData.tuple C,.tuple PP,.tuple ff]<=94:=by
   show(1+szs C)+((1+szs PP)+((1+szs ff)+0))<=94;lia
  refine⟨_,rfl,_,rfl,_,rfl,2,rfl,bk,_,rfl,eb,λq4 H4 s4 e4=>?_⟩;refine⟨_,rfl,bk,_,rfl,SqT.of (s4 _ _ eb),λq5 GS U4=>?_⟩;have s5:=s4.updR (o:=.lst [.ref ac,.ref ap,.ref af]) GS;have e5:=aa (H:=H4) (a:=q5) (o:=.lst [.ref ac,.ref ap,.ref af])
  replace e4:=Same.upd (o:=.lst [.ref ac,.ref ap,.ref af]) GS _ _ e4
  have MQ:q5≠st:=((Dr.refl MO).same s4).ne GS;generalize upd H4 q5 (.lst [.ref ac,.ref ap,.ref af])=H5 at s5 e5 e4⊢;clear s4 GS;refine⟨zL,λz6 Qf=>?_⟩;have m6:=Same.upd (o:=.tup []) Qf;have ez6:=aa (H:=H5) (a:=z6) (o:=.tup []);generalize upd H5 z6 (.tup [])=H6 at m6 ez6⊢;refine⟨_,rfl,bk,_,1,.ref ap,rfl,rfl,SqT.of (m6 _ _ (s5 _ _ eb)),rfl,_,rfl,bk,_,2,.ref af,rfl,rfl,SqT.of (m6 _ _ (s5 _ _ eb)),rfl,zL,λq6 MR=>?_⟩;have s6:=(s5.trans m6).updR (o:=.tup [.ref z6,.ref ap,.ref af]) MR;have e6:=aa (H:=H6) (a:=q6) (o:=.tup [.ref z6,.ref ap,.ref af]);have n6:=Same.upd (o:=.tup [.ref z6,.ref ap,.ref af]) MR
  replace ez6:=n6 _ _ ez6
  replace e4:=n6 _ _ (m6 _ _ e4)
  replace e5:=n6 _ _ (m6 _ _ e5)
  generalize upd H6 q6 (.tup [.ref z6,.ref ap,.ref af])=H7 at s6 e6 ez6 e4 e5⊢;clear m6 n6 s5 Qf MR;refine⟨_,rfl,bk,_,0,.ref ac,rfl,rfl,SqT.of (s6 _ _ eb),rfl,_,rfl,bk,_,1,.ref ap,rfl,rfl,SqT.of (s6 _ _ eb),rfl,?_⟩;refine⟨zL,λr7 Qg=>⟨zL,λt7 MU=>⟨zL,λq7 GU=>?_⟩⟩⟩;have m8:=Same.upd (o:=.tup [.int 0,.int 0,.int 0,.int 1,.int 0]) Qg;have er7:=aa (H:=H7) (a:=r7) (o:=.tup [.int 0,.int 0,.int 0,.int 1,.int 0]);generalize upd H7 r7 (.tup [.int 0,.int 0,.int 0,.int 1,.int 0])=H8 at m8 er7 MU GU⊢;have m9:=Same.upd (o:=.tup [.ref r7]) MU;have et7:=aa (H:=H8) (a:=t7) (o:=.tup [.ref r7]);generalize upd H8 t7 (.tup [.ref r7])=H9 at m9 et7 GU⊢;have ER:=Same.upd (o:=.tup [.ref ac,.ref ap,.ref t7]) GU;have e7:=aa (H:=H9) (a:=q7) (o:=.tup [.ref ac,.ref ap,.ref t7]);generalize upd H9 q7 (.tup [.ref ac,.ref ap,.ref t7])=MD at ER e7⊢;have kH:=m8.trans (m9.trans ER);have kU:=s6.trans kH
  replace er7:=ER _ _ (m9 _ _ er7)
  replace et7:=ER _ _ et7
  replace e4:=kH _ _ e4
  replace e5:=kH _ _ e5
  replace e6:=kH _ _ e6
  replace ez6:=kH _ _ ez6
  clear m8 m9 ER kH s6 Qg MU GU;refine⟨zL,λL hL=>?_⟩;have Qh:L≠st:=((Dr.refl MO).same kU).ne hL;have mL:=Same.upd (o:=.lst [.ref bk,.ref bk,.non,.ref q4,.ref q5,.ref q6,.ref q7]) hL;refine aJ ?_;dsimp only;have fg:=kU.trans mL
  have gw:Wk T0 st bk ac ap af L K33.qnT xc [.ref bk,.ref bk,.non,.ref q4,.ref q5,.ref q6,.ref q7] (.tuple [.tuple C,.tuple PP,.tuple ff]) H (upd MD L (.lst [.ref bk,.ref bk,.non,.ref q4,.ref q5,.ref q6,.ref q7])):=by
   refine⟨λb o n1 n2 e=>fg _ _ (gX b o n1 n2 e),((Dr.refl MO).same fg).sa,nN.same fg,fg _ _ eb,fg _ _ ec,.tup (fg _ _ eb) (tD fg),aa,Qh,λu hu=>?_⟩
   replace er7:=mL _ _ er7
   replace et7:=mL _ _ et7
   replace e4:=mL _ _ e4
   replace e5:=mL _ _ e5
   replace e6:=mL _ _ e6
   replace e7:=mL _ _ e7
   replace ez6:=mL _ _ ez6
   have tD:=tD fg;generalize upd MD L (.lst [.ref bk,.ref bk,.non,.ref q4,.ref q5,.ref q6,.ref q7])=Qi at er7 et7 e4 e5 e6 e7 ez6 tD fg⊢
   have gB:∃d,IsTh (SS st) Qi (.ref bk) d/\Gd 990 d:=⟨_,.tup (fg _ _ eb) tD,eO gD z00⟩
   simp only[List.mem_cons,List.not_mem_nil,or_false]at hu;rcases hu with rfl|rfl|rfl|rfl|rfl|rfl|rfl
   .exact gB
   .exact gB
   .exact⟨.none,.non,rfl,rfl,by decide⟩
   .exact⟨_,.tup e4 (dG tD _ _),eO (λd hd=>gD d (mJ hd)) (by have:=mK [PyData.tuple C,.tuple PP,.tuple ff] none (some 2);lia)⟩
   .exact⟨.list [.tuple C,.tuple PP,.tuple ff],.lst ⟨MQ,U4⟩ e5 tD,(gU gD).1,rfl,by show 1+szs [PyData.tuple C,.tuple PP,.tuple ff]<=990;lia⟩
   .refine⟨.tuple [.tuple [],.tuple PP,.tuple ff],.tup e6 (.cons (.tup ez6 .nil) (.cons (.tup (fg _ _ ep) (tP.same fg)) (.cons (.tup (fg _ _ es) (tS.same fg)) .nil))),eO (λd hd=>?_) ?_⟩
    .rcases zAo.mp hd with rfl|hd
     .exact⟨rfl,rfl⟩
     .exact gD d (.tail _ hd)
    .show 1+(1+((1+szs PP)+((1+szs ff)+0)))<=990;lia
   .refine⟨.tuple [.tuple C,.tuple PP,.tuple [.tuple [.int 0,.int 0,.int 0,.int 1,.int 0]]],.tup e7 (.cons (.tup (fg _ _ ec) (tC.same fg)) (.cons (.tup (fg _ _ ep) (tP.same fg)) (.cons (.tup et7 (.cons (.tup er7 (.cons (.int 0) (.cons (.int 0) (.cons (.int 0) (.cons (.int 1) (.cons (.int 0) .nil)))))) .nil)) .nil))),eO (λd hd=>?_) ?_⟩
    .simp only[List.mem_cons,List.not_mem_nil,or_false]at hd;rcases hd with rfl|rfl|rfl
     .exact gU gC
     .exact gU gP
     .exact⟨by decide +kernel,by decide +kernel⟩
    .show 1+((1+szs C)+((1+szs PP)+(7+0)))<=990;lia
  generalize eI:[V.ref bk,.ref bk,.non,.ref q4,.ref q5,.ref q6,.ref q7]=its at gw⊢;have li:its.length=7:=by rw[<-eI];rfl
  refine K33.gen_ts (λHx=>Same H3 Hx/\Wk T0 st bk ac ap af L K33.qnT xc its (.tuple [.tuple C,.tuple PP,.tuple ff]) H Hx) ⟨by rw[<-eI];exact fg,gw⟩ λQi=>?_;rintro⟨fg,wk⟩;clear gw e4 e5 e6 e7 ez6 er7 et7 mL hL kU Qh eI;refine aC (aP ?_);refine⟨_,rfl,?_⟩;refine fV ?_;refine⟨_,rfl,bk,_,0,.ref ac,rfl,rfl,SqT.of wk.eb,rfl,_,rfl,bk,_,1,.ref ap,rfl,rfl,SqT.of wk.eb,rfl,_,rfl,bk,_,2,.ref af,rfl,rfl,SqT.of wk.eb,rfl,af,13,xs,rfl,rfl,fg _ _ es,z00,by decide,by decide,λp1 Qj Qk e12=>⟨zL,λq8 MV=>?_⟩⟩;have ES:=Qk.updR (o:=.tup [.ref ac,.ref ap,.ref p1]) MV;have e8:=aa (H:=Qj) (a:=q8) (o:=.tup [.ref ac,.ref ap,.ref p1])
  replace e12:=Same.upd (o:=.tup [.ref ac,.ref ap,.ref p1]) MV _ _ e12
  generalize upd Qj q8 (.tup [.ref ac,.ref ap,.ref p1])=Zu at ES e8 e12⊢;clear Qk MV;refine⟨_,rfl,bk,_,0,.ref ac,rfl,rfl,SqT.of (ES _ _ wk.eb),rfl,ac,21,xc,rfl,rfl,ES _ _ wk.ec,z00,by decide,by decide,λp2 Zv MW Ql=>⟨21,rfl,p2,_,rfl,Ql,λp3 Qm MX e15=>?_⟩⟩;have kf:=ES.trans (MW.trans MX);have nV:=MW.trans MX;refine⟨_,rfl,bk,_,1,.ref ap,rfl,rfl,SqT.of (kf _ _ wk.eb),rfl,_,rfl,bk,_,2,.ref af,rfl,rfl,SqT.of (kf _ _ wk.eb),rfl,zL,λq9 Qn=>?_⟩;have AN:=Same.upd (o:=.tup [.ref p3,.ref ap,.ref af]) Qn;have e9:=aa (H:=Qm) (a:=q9) (o:=.tup [.ref p3,.ref ap,.ref af]);generalize upd Qm q9 (.tup [.ref p3,.ref ap,.ref af])=Qo at AN e9⊢;have nX:=kf.trans AN
  replace e15:=AN _ _ e15
  replace e12:=AN _ _ (nV _ _ e12)
  replace e8:=AN _ _ (nV _ _ e8)
  clear ES MW MX kf nV AN Qn Ql;refine⟨zL,λl2 cx=>⟨L,l2,_,[.ref q8,.ref q9],rfl,rfl,Same.upd cx _ _ (nX _ _ wk.el),aa,(by rw[li];show 9<=sizeLine;decide),λlo mf=>?_⟩⟩;have mL:=(Same.upd (o:=.lst [.ref q8,.ref q9]) cx).updR (o:=.lst (its++[.ref q8,.ref q9])) mf;have mA:=nX.trans mL;have lI:=fg.trans mA;have U5:lo≠st:=((Dr.refl wk.sa).same (nX.updR (o:=.lst [.ref q8,.ref q9]) cx)).ne mf;refine aJ ?_;dsimp only;have tT:=wk.same mA
  have gw:Wk T0 st bk ac ap af lo K33.qnT xc (its++[.ref q8,.ref q9]) (.tuple [.tuple C,.tuple PP,.tuple ff]) H (upd (upd Qo l2 (.lst [.ref q8,.ref q9])) lo (.lst (its++[.ref q8,.ref q9]))):=by
   refine⟨tT.kp,tT.sa,tT.tb,tT.eb,tT.ec,tT.th,aa,U5,λu hu=>?_⟩;rcases zA6.mp hu with hu|hu
   .exact tT.it u hu
   replace e15:=mL _ _ e15
   replace e12:=mL _ _ e12
   replace e8:=mL _ _ e8
   replace e9:=mL _ _ e9
   generalize upd (upd Qo l2 (.lst [.ref q8,.ref q9])) lo (.lst (its++[.ref q8,.ref q9]))=Zw at e15 e12 e8 e9 lI⊢;simp only[List.mem_cons,List.not_mem_nil,or_false]at hu;rcases hu with rfl|rfl
   .refine⟨.tuple [.tuple C,.tuple PP,.tuple (List.replicate 13 ff).flatten],.tup e8 (.cons (.tup (lI _ _ ec) (tC.same lI)) (.cons (.tup (lI _ _ ep) (tP.same lI)) (.cons (.tup e12 (uQ (tS.same lI) 13)) .nil))),eO (λd hd=>?_) ?_⟩
    .simp only[List.mem_cons,List.not_mem_nil,or_false]at hd;rcases hd with rfl|rfl|rfl
     .exact gU gC
     .exact gU gP
     .exact gU λd hd=>gS d (uO hd)
    .have:=uP ff 13;show 1+((1+szs C)+((1+szs PP)+((1+szs (List.replicate 13 ff).flatten)+0)))<=990;lia
   .refine⟨.tuple [.tuple (cutD (List.replicate 21 C).flatten none (some 21)),.tuple PP,.tuple ff],.tup e9 (.cons (.tup e15 (dG (uQ (tC.same lI) 21) _ _)) (.cons (.tup (lI _ _ ep) (tP.same lI)) (.cons (.tup (lI _ _ es) (tS.same lI)) .nil))),eO (λd hd=>?_) ?_⟩
    .rcases zAo.mp hd with rfl|hd
     .exact gU λd hd=>gC d (uO (mJ hd))
     .exact gD d (.tail _ hd)
    .have h1:=mK (List.replicate 21 C).flatten none (some 21);have h2:=uP C 21;show 1+((1+szs (cutD (List.replicate 21 C).flatten none (some 21)))+((1+szs PP)+((1+szs ff)+0)))<=990;lia
  have la:(its++[V.ref q8,.ref q9]).length=9:=by rw[zA2,li];rfl
  have oB:okT (.tuple [.tuple C,.tuple PP,.tuple ff])=true:=by
   show(decide (3<=80)&&((decide (C.length<=80)&&j4 C)&&((decide (PP.length<=80)&&j4 PP)&&((decide (ff.length<=80)&&j4 ff)&&true))))=true;rw[zAu nC,zAu nP,zAu nS,oC,oP,oS];rfl
  have zB:sz (.tuple [.tuple C,.tuple PP,.tuple ff])<=95:=by
   show 1+szs [PyData.tuple C,.tuple PP,.tuple ff]<=95;lia
  generalize its++[V.ref q8,.ref q9]=yY at la gw⊢;generalize PyData.tuple [.tuple C,.tuple PP,.tuple ff]=d0 at gw oB zB;refine K33.gen_ts (λHx=>Wk T0 st bk ac ap af lo K33.qnT xc yY d0 H Hx) gw λZx wk=>?_;clear gw tT mA mL lI fg e8 e9 e12 e15 tD gU gD zD tC tP tS gC gP gS oC oP oS zC zP zS nC nP nS;refine⟨8,rfl,by decide,by decide,?_⟩;refine eQ (lo:=0) (λj σ Hc=>∃x1 x5 x6 x7,σ=[some (.ref a),x1,some (.ref st),some (.ref bk),some (.ref lo),x5,x6,x7]/\Wk T0 st bk ac ap af lo K33.qnT xc yY d0 H Hc) ?_ ?_ ?_
  .exact⟨_,_,_,_,rfl,wk⟩
  .clear wk;rintro j σ H1 hj ⟨x1,x5,x6,x7,rfl,wk⟩;refine aJ ?_;refine K33.rd_E λDe rq=>?_;refine aC (aP ?_);refine⟨_,rfl,_,rfl,st,9,rfl,wk.sa,by decide,by decide,λr a1 b1 e1 r0 U6 h1 h2 h3=>?_⟩;have ua:=wk.dr ((Dr.refl wk.sa).draw (c:=e1) h1 h2 h3);obtain⟨u,hu,mu⟩:=Ga (xs:=yY) r0 (by rw[la];exact U6);refine⟨lo,yY,r,u,rfl,rfl,SqL.of ua.el,hu,?_⟩;refine aJ ?_;dsimp only;refine K33.gen_ts (λH2=>Wk T0 st bk ac ap af lo K33.qnT xc yY d0 H H2) ua λH2 ua=>?_;clear wk;obtain⟨d1,t1,U7⟩:=ua.it u mu;refine ir λcont ET=>?_
   have rest:∀v d H3,Wk T0 st bk ac ap af lo K33.qnT xc yY d0 H H3->IsTh (SS st) H3 v d->Gd 990 d->cont [some (.ref a),x1,some (.ref st),some (.ref bk),some (.ref lo),some (.int (0+j)),some v,x7] H3:=by
    intro v d H3 lP t3 U8;obtain⟨md,ld,zd⟩:=U8;refine ET _ _ ?_;refine aC (aP ?_);refine⟨_,rfl,bk,_,0,.ref ac,rfl,rfl,SqT.of lP.eb,rfl,ac,xc,rfl,.inr (SqT.of lP.ec),_,_,rfl,rfl,_,rfl,bk,_,0,.ref ac,rfl,rfl,SqT.of lP.eb,rfl,ac,xc,rfl,.inr (SqT.of lP.ec),1,rfl,zL,λL hL=>?_⟩;have sL:=Same.upd (o:=.lst [.int 0,.int (xc.length-1),.int xc.length,.int (-1),.non,.bl true,.str "0",.int 20]) hL;have EU:=lP.same sL;have nL:L≠st:=(Dr.refl lP.sa).ne hL;refine⟨_,rfl,st,8,rfl,EU.sa,by decide,by decide,λr5 a5 b5 e5 k0 Qp h4 h5 h6=>?_⟩;have g5:=(Dr.refl EU.sa).draw (c:=e5) h4 h5 h6;have GV:=EU.dr g5;have t5:=g5.thS EU.sa (t3.same sL);obtain⟨un,yy,Qq⟩:=Ga (xs:=[V.int 0,.int (xc.length-1),.int xc.length,.int (-1),.non,.bl true,.str "0",.int 20]) k0 Qp;refine⟨L,_,r5,un,rfl,rfl,SqL.of (by rw[aA nL];exact aa),yy,?_⟩
    have sc:Sc un:=by
     simp only[List.mem_cons,List.not_mem_nil,or_false]at Qq;rcases Qq with rfl|rfl|rfl|rfl|rfl|rfl|rfl|rfl
     .exact Sc.int z02
     .exact Sc.int z00
     .exact Sc.int z00
     .exact Sc.int z02
     .exact Sc.non
     .exact Sc.bl true
     .exact Sc.str
     .exact Sc.int z02
    obtain⟨nd,tn,mn,zn⟩:=sc;refine aJ ?_;dsimp only;refine K33.gen_ts (λH5=>Wk T0 st bk ac ap af lo K33.qnT xc yY d0 H H5/\IsTh (SS st) H5 v d) ⟨GV,t5⟩ λH5=>?_;rintro⟨GV,t5⟩;clear lP EU t3;refine⟨_,rfl,_,rfl,SS st,v,d,un,nd,rfl,λz=>z.2 rfl,t5,tn _ _,?_,?_,ld,GV.tb,λH' k' t'=>⟨true,rfl,?_⟩⟩
    .show(tame d&&(tame nd&&true))=true;rw[md,mn];rfl
    .show 1+(sz d+(sz nd+0))<=1000;lia
    .refine aX ?_;refine rq _ _ ?_;exact⟨_,_,_,_,rfl,GV.right k' t'⟩
   refine⟨_,rfl,st,3,rfl,ua.sa,by decide,by decide,λr3 a3 b3 e3 k0 Qp h4 h5 h6=>⟨rfl,_,rfl,?_⟩⟩;have g3:=(Dr.refl ua.sa).draw (c:=e3) h4 h5 h6;have lP:=ua.dr g3;have t3:=g3.thS ua.sa t1;refine Cy (λ_=>?_) (λ_=>bN (rest u d1 _ lP t3 U7));refine⟨_,rfl,_,rfl,st,_,d0,rfl,lP.sa,lP.th,oB,λv d H4 g4 b4 t4=>?_⟩;exact aJ (rest v d H4 (lP.dr g4) t4 ⟨b4.1,b4.2.1,by have h:sz d<=2*(4*sz d0)+2*sz d0+20+4:=b4.2.2;lia⟩)
  .rintro σ Hc ⟨x1,x5,x6,x7,rfl,wk⟩;refine rq _ _ ?_;exact⟨_,_,_,_,_,_,_,rfl,λb o n e=>wk.kp b o n (aD e U3) e,wk.tb⟩
 .rintro σ Hc ⟨x1,x2,x3,x4,x5,x6,x7,rfl,k1,yT⟩;exact q _
end
end K33P
structure PySem.W.Fast:Prop where
 (tw17992522663333269536 tw5671199729343927328 tw13704159428182724640 tw9684121515173810304 tw16713097654840648832 tw8768805329655558336 tw10774344144810309920 tw3537456029683080512 tw11237782831773368736 tw5418593572784949792 tw628936629193363008 tw1023855184365388416 tw6476181547711538816 tw5904383444586739456 tw18009019231685405440 tw5798447452167786561 tw1531513418446482529 tw9870927575288942721 tw13550724808609787073 tw8168816660955712769 tw11773489796865328417 tw71723409991530817 tw4789583925774511457 tw9316752616989390177 tw11229722365504653697 tw16997470310018544001 tw6872577864106743265 tw15327049497606476257 tw1540575682316356097 tw8252773590102464033 tw11553553593902348929 tw117881919215424193 tw4279246628111492865 tw13756978022491035393 tw13530763888973026113 tw10683089344353310529 tw8047122681043340097 tw3517846704278164321 tw12791564915763473281 tw9682037770420271106 tw13474863474336744450 tw15793980403628538882 tw5090390359360337954 tw14546621028803900546 tw8032252009461263554 tw15190472990616956130 tw18108311915397553442 tw3855371864747323714 tw15318748472223117666 tw3935700181959260738 tw18123206465864005186 tw10751406916411724386 tw458883642442634914 tw1355461507394861730 tw15370915156633351138 tw9836272904241351683 tw9319541756446465123 tw10791440120441437347 tw16835081843852516579 tw4925647742557188355 tw10893882159245740419 tw15743258060280680835 tw5588709269388901955 tw9720363974813379203 tw7784706596827120291 tw1128209630145009443 tw823229695149725635 tw15318347867560449028 tw6662702941388369924 tw13746524447578993796 tw2301580401170206884 tw11078671975367735876 tw7534469238256430948 tw3975170925278900100 tw3203962072827032484 tw13621904749398025156 tw6822923240863200196 tw3892910348160310244 tw14906236455560354021 tw11347649747225135397 tw3437095283803165029 tw6718900715548538245 tw5831247592475052517 tw7047865165788442149 tw9529876593365742117 tw18412211619890029125 tw12002471105375787653 tw4229276548239947397 tw13974669507054505637 tw5362045177406423749 tw15497462945701755717 tw7558419453888574309 tw1495705352551533574 tw11562498367721979910 tw8929259037772106790 tw16572335695883594790 tw17859000182176826438 tw12158546531335825510 tw5045800447381924998 tw6002120264027119910 tw4370262476667627878 tw13347985465607337318 tw8507252486111202982 tw803675280908037830 tw11078249096774714118 tw3056885803541790566 tw15123546704351276199 tw12430203117323061447 tw12757578103894977767 tw12562787938652001575 tw10244568510811452711 tw3370619119372821831 tw17018770521890753095 tw7509196038443622055 tw14210052533949849319 tw7200605055684162311 tw7490534002449434375 tw17060212911006063431 tw2232651332994314055 tw6362450359184869255 tw3910611525021820839 tw8272446514015253479 tw1612126104887446503 tw15084171067189447655 tw10250182153024788520 tw6706692560576166152 tw12122567701533556104 tw12786536191879207368 tw6358582868160217576 tw15127722836207853064 tw10818479672196184648 tw13383534958449471144 tw13812766279745797800 tw3641316727357300552 tw12506428282068093832 tw2219128024830376936 tw11310264765296799753 tw9606621270909943849 tw16183916237428097065 tw17675545837534566473 tw10802009326215911497 tw8108579798284261513 tw15956654244952244457 tw13360595583593362697 tw3935276234739259753 tw14668028077444443017 tw3512752750976586826 tw198590783869573322 tw8903862880008350922 tw5571123755935302890 tw4480892256339308874 tw18435671127377887690 tw6057127099703139914 tw599417603412271722 tw849976338441073322 tw2182705551770539882 tw8463244789331226602 tw16620904775047657579 tw11874637413744327915 tw16153141672868856171 tw3696822222300706155 tw11919362131085972139 tw1583085398438189803 tw8438550466683920107 tw6205074353819699979 tw186871933537751883 tw13073249786203485003 tw8659879889895203691 tw3700515410352390091 tw8230628837815925868 tw6732410508176915660 tw17330337821312435628 tw18019969985420510860 tw2416627405033924460 tw4251179720767321036 tw5448038845504899052 tw16366117088112116749 tw15142356208198431981 tw17631857749271001357 tw5338208609138663725 tw18305972741286159053 tw9854295326531100397 tw2599591683591906125 tw11331255589316423629 tw15015558619771334926 tw4398744281832141102 tw14012773730405453166 tw11641543426818060686 tw9847402800035288494 tw6097293349796312590 tw9525846503056192174 tw7262539390626612910 tw12676442192436746958 tw9635742231136691279 tw1047352568201518191 tw4746781137251355759 tw10251653048883258639 tw3270870258264043823 tw8366896793226034543 tw14232541025785103727 tw12594872383058238927 tw8436220675170816559 tw17016400243384832623 tw2344035116862224047 tw12706324510019705615 tw10504849049793145711 tw11519393342523491279 tw12067834330328196079 tw3963259395085847568 tw9395164854662716496 tw14124177201068000400 tw15466824287054428432 tw14206236303989557584 tw5115615791791189328 tw1360082509648174480 tw1858423797029215313 tw4165290874283899025 tw13567734138181953713 tw8866209582794506481 tw6338265593967659281 tw10878119215779889489 tw6827836766454094193 tw8820427459499793777 tw11057560296215477873 tw12433113970413174385 tw13192674380793719441 tw14979172894075762353 tw13040570869411954449 tw5432508403000909617 tw1582986062750704497 tw4558521990528629713 tw4763370411066042418 tw9171913593976768562 tw8735689463341516882 tw10826210969748084914 tw6488751764972575954 tw3887283999960459634 tw5712775113289486738 tw13974413946861939122 tw139416688337692082 tw11228114992108946866 tw7750590803918666194 tw3234281804089943538 tw10379765129553347122 tw4665206271894492722 tw13124353890671380178 tw4062009667388137170 tw4952788914575541010 tw1993023827184821010 tw2799474290367329042 tw1387494434254693266 tw16158422719603845074 tw260476195121973331 tw11410192105047909619 tw15421021627512688947 tw3775127209951652211 tw7708878010879453683 tw1502320954107158099 tw11573585703158546035 tw15817017302381218515 tw16693512196889634611 tw6680671236390695092 tw3254391299157530964 tw15832859028974990740 tw14775190776070709652 tw11237459401253932468 tw656067627271204308 tw15406685353795823220 tw12114943753757712052 tw12046669127863595700 tw10017076386934528788 tw8449500110072230997 tw8994344833049172341 tw5760513549141467541 tw2234852379177507317 tw5828309416758427381 tw1304086494132296437 tw9095144860210789141 tw7149613249570299765 tw5762202076365336533 tw5965739736929918998 tw1443775012564170774 tw2503233293300673910 tw4023195606988040598 tw17734968671755056598 tw3862383403100450262 tw17782579431954878038 tw17826105928980907670 tw15754794279048379062 tw15391643815355891510 tw3241944757472227158 tw7974903437803148150 tw14164826519223672822 tw15097139681298870455 tw18035333545276162423 tw13791062898010220119 tw15322716974643028599 tw11705946275661617943 tw9479959373305089911 tw1681468072603661175 tw4712157322255807351 tw11689939019946596408 tw5868606643519783000 tw11450967443490616408 tw17179807593618948312 tw6076606002578155736 tw9733678034132430072 tw1151706685756302680 tw1255913626282910040 tw14500728702367861112 tw15339260382755866040 tw4011148802997524952 tw753010355316286040 tw10184618669053414168 tw2888121303305336600 tw143132399727924120 tw16832385944516606968 tw13323494308335457272 tw4046920083448247385 tw15235853481958113401 tw13586154047427851481 tw16666903972759295257 tw4065532578918452665 tw7853248804675392089 tw11645704766100328057 tw4150959492081814169 tw697151228685434649 tw9378172485752797081 tw10811987906298163290 tw16507448148381557082 tw14127029929490565530 tw13781548963194133946 tw2113343753714140666 tw7249009534498355802 tw206115031654896410 tw2315307709523290938 tw4166687304318032955 tw1615134501591473371 tw1393339846929363227 tw8298908121491900827 tw5856967984559997403 tw8003572130235537883 tw10917146525626113627 tw14969983294544303963 tw8032539029253835675 tw9161694919867593659 tw4344447168469268443 tw7541247113622755291 tw16733503486150605884 tw7290851923977238652 tw2831500239208101084 tw13229197637097465084 tw9980104197266349308 tw3677343231511444860 tw6117714050248796540 tw7184081279768090012 tw12785707073266376092 tw4672576916842317308 tw2782131973683844636 tw13486069221959332668 tw5858979201217090460 tw7278150765279577020 tw3357318018589619261 tw8458967196857539677 tw17877423281365456381 tw9006968825736164957 tw15163139057605340893 tw15033276861410708221 tw3682688734438422429 tw15975781759745892382 tw16134554090680166526 tw8830158614064497822 tw7131169908200072382 tw9639201019484810462 tw7582898733269686622 tw14276027340236798302 tw2483922718168024478 tw6720907565102038558 tw14162993732376100414 tw9603587191457247998 tw18098408778319340607 tw12929863579616871519 tw10713270790617089151 tw12540964447638352191 tw18272924508506680767 tw3482949763088880191 tw8100903541639533119 tw6514767935905031743 tw17341174091451825759 tw6090185096225290879 tw5127344379624617695 tw16720773675081735935 tw12099432070081688479 tw2567898781150076611:True)
namespace K33
open PySem L2
theorem elZ{C:List Value->Prop}(h:C []):∀us,us.length=0->C us:=by
 intro us e
 cases us with
 |nil=>exact h
 |cons _ _=>cases e
theorem elS{C:List Value->Prop}(h:∀a,∀us,us.length=n->C (a::us)):∀us,us.length=n+1->C us:=by
 intro us e
 cases us with
 |nil=>cases e
 |cons a r=>exact h a r (Nat.succ.inj e)
theorem el1{C:List Value->Prop}(h:∀a0,C [a0]):∀us,us.length=1->C us:=elS (λa0=>elZ (h a0))
theorem el2{C:List Value->Prop}(h:∀a0 a1,C [a0,a1]):∀us,us.length=2->C us:=elS (λa0=>elS (λa1=>elZ (h a0 a1)))
theorem el3{C:List Value->Prop}(h:∀a0 a1 a2,C [a0,a1,a2]):∀us,us.length=3->C us:=elS (λa0=>elS (λa1=>elS (λa2=>elZ (h a0 a1 a2))))
theorem el4{C:List Value->Prop}(h:∀a0 a1 a2 a3,C [a0,a1,a2,a3]):∀us,us.length=4->C us:=elS (λa0=>elS (λa1=>elS (λa2=>elS (λa3=>elZ (h a0 a1 a2 a3)))))
theorem el5{C:List Value->Prop}(h:∀a0 a1 a2 a3 a4,C [a0,a1,a2,a3,a4]):∀us,us.length=5->C us:=elS (λa0=>elS (λa1=>elS (λa2=>elS (λa3=>elS (λa4=>elZ (h a0 a1 a2 a3 a4))))))
def Has(K:Frag)(x:Str)(st:Stmt):Prop:=∃f od an sl oc kV dc pm cd ct,PySem.W.nsIn K mainGlobals x=some (some (.ref f)) /\
 K.lookup f=some ⟨oc,od,.func (PySem.W.fnOf x x (gH st) (cB st) (az st) .none kV dc pm an cd ct),sl⟩/\PySem.W.codeIn K cd x=true/\PySem.W.keepIn K (.ref f)=true
theorem has_mk{oc kV dc pm cd ct:Value}(a:PySem.W.nsIn K mainGlobals x=some (some (.ref f)))
  (l:K.lookup f=some ⟨oc,od,.func (PySem.W.fnOf x x (gH st) (cB st) (az st) .none kV dc pm an cd ct),sl⟩) (c:PySem.W.codeIn K cd x=true) (k:PySem.W.keepIn K (.ref f)=true):Has K x st:=⟨f,od,an,sl,oc,kV,dc,pm,cd,ct,a,l,c,k⟩
theorem Has.get(H:Has K x st)(X:K.In h)(G:h.Ns mainGlobals mg):∃f fd,Fun K x x st f fd/\mg x=some (.ref f):=by
 obtain⟨f,od,an,sl,oc,kV,dc,pm,cd,ct,a,l,c,k⟩:=H;exact⟨f,_,Cw (st:=st) l c k,PySem.W.mg_of X G a⟩
abbrev Bd(x:Str)(st:Stmt)(ps:List Str)(us:List Value):Prop:=∀kV doc pm an cdv ct,bindArgs (PySem.W.fnOf x x (gH st) (cB st) (az st) .none kV doc pm an cdv ct) ⟨us,[]⟩=pure (ps.zip us)
theorem Has.g(H:Has K x st)(X:K.In h)(G:h.Ns mainGlobals mg)(ps:List Str)(hb:∀us,us.length=ps.length->Bd x st ps us):∃f fd,Fun K x x st f fd/\mg x=some (.ref f)/\Binds K fd ps []:=by
 obtain⟨f,fd,F,m⟩:=H.get X G;exact⟨f,fd,F,m,F.binds λa b c d e g us l=>hb us l a b c d e g⟩
theorem aR(P:Program)(w:World)(base:Heap)(F:FnOk P w K mg base CX0 k f fd ps sp)(m:mg x=some (.ref f))(kp:PySem.W.keepIn K (.ref f)=true)(b:Binds K fd ps []):Cal P w K mg base k x ps sp:=⟨f,fd,F,m,kp,b⟩
theorem ji(F:FnOk P w K mg base (CX1 P w) k f fd ps sp)(m:mg x=some (.ref f))(kp:PySem.W.keepIn K (.ref f)=true)(b:Binds K fd ps []):oR P w K mg base k x ps sp:=⟨f,fd,F,m,kp,b⟩
theorem Iw(F:FnOkU P w K mg base CX0 k f fd ps sp)(m:mg x=some (.ref f))(kp:PySem.W.keepIn K (.ref f)=true)(b:Binds K fd ps []):HY P w K mg base k x ps sp:=⟨f,fd,F,m,kp,b⟩
theorem Iz(X:K.In h)(G:h.Ns mainGlobals mg)(F:Fun K x qual st f fd)(m:mg x=some (.ref f))(t:PySem.W.tabIn K x=some (c,T)):fd.code=.ref c:=by
 obtain⟨oc,od,kV,doc,pm,an,cdv,ct,kM,rfl,lk,_⟩:=F.ex;exact PySem.W.law_code X G t m (X _ _ lk) rfl
theorem Has.g1(H:Has K x st)(X:K.In h)(G:h.Ns mainGlobals mg)(a0:Str)(hb:∀u0,Bd x st [a0] [u0]:=by exact λ_ _ _ _ _ _ _=>rfl):∃f fd,Fun K x x st f fd/\mg x=some (.ref f)/\Binds K fd [a0] []:=H.g X G [a0] (el1 hb)
theorem Has.g2(H:Has K x st)(X:K.In h)(G:h.Ns mainGlobals mg)(a0 a1:Str)(hb:∀u0 u1,Bd x st [a0,a1] [u0,u1]:=by exact λ_ _ _ _ _ _ _ _=>rfl):∃f fd,Fun K x x st f fd/\mg x=some (.ref f)/\Binds K fd [a0,a1] []:=H.g X G [a0,a1] (el2 hb)
theorem Has.g3(H:Has K x st)(X:K.In h)(G:h.Ns mainGlobals mg)(a0 a1 a2:Str)(hb:∀u0 u1 u2,Bd x st [a0,a1,a2] [u0,u1,u2]:=by exact λ_ _ _ _ _ _ _ _ _=>rfl):∃f fd,Fun K x x st f fd/\mg x=some (.ref f)/\Binds K fd [a0,a1,a2] []:=H.g X G [a0,a1,a2] (el3 hb)
theorem Has.g4(H:Has K x st)(X:K.In h)(G:h.Ns mainGlobals mg)(a0 a1 a2 a3:Str)(hb:∀u0 u1 u2 u3,Bd x st [a0,a1,a2,a3] [u0,u1,u2,u3]:=by exact λ_ _ _ _ _ _ _ _ _ _=>rfl):∃f fd,Fun K x x st f fd/\mg x=some (.ref f)/\Binds K fd [a0,a1,a2,a3] []:=H.g X G [a0,a1,a2,a3] (el4 hb)
theorem Has.g5(H:Has K x st)(X:K.In h)(G:h.Ns mainGlobals mg)(a0 a1 a2 a3 a4:Str)(hb:∀u0 u1 u2 u3 u4,Bd x st [a0,a1,a2,a3,a4] [u0,u1,u2,u3,u4]:=by exact λ_ _ _ _ _ _ _ _ _ _ _=>rfl):∃f fd,Fun K x x st f fd/\mg x=some (.ref f)/\Binds K fd [a0,a1,a2,a3,a4] []:=H.g X G [a0,a1,a2,a3,a4] (el5 hb)
theorem all_mk{l:PySem.W.OpenLaw}(X:K.In h)(G:h.Ns mainGlobals mg)(Vc:mg "law"=some (.ref fa))
  (h20:Has K "is_whole" (top 20))
  (h21:Has K "is_whole_from" (top 21))
  (h22:Has K "is_tuple_of" (top 22))
  (h23:Has K "are_wholes" (top 23))
  (h34:Has K "is_clip" (top 34))
  (h35:Has K "are_clips" (top 35))
  (h36:Has K "is_promise" (top 36))
  (h37:Has K "are_promises" (top 37))
  (h38:Has K "are_sales" (top 38))
  (h39:Has K "held_in" (top 39))
  (h40:Has K "is_sale_between" (top 40))
  (h41:Has K "sale_holds" (top 41))
  (h42:Has K "first_unheld" (top 42))
  (h43:Has K "is_book" (top 43))
  (h44:Has K "refuse_no_book" (top 44))
  (h48:Has K "are_weights" (top 48))
  (h49:Has K "refuse_unpartable" (top 49))
  (h50:Has K "places_by_rest" (top 50))
  (h51:Has K "parts_of" (top 51))
  (h52:Has K "parted" (top 52))
  (h54:Has K "sacks_of" (top 54))
  (h55:Has K "claims_in" (top 55))
  (h56:Has K "shares_of" (top 56))
  (h57:Has K "made_good" (top 57))
  (h58:Has K "sort_given" (top 58))
  (h59:Has K "year_given" (top 59))
  (h60:Has K "years_given" (top 60))
  (h61:Has K "refuse_no_year_of" (top 61))
  (h62:Has K "refuse_no_year" (top 62))
  (h64:Has K "owed_behind" (top 64))
  (h65:Has K "by_holder" (top 65))
  (h66:Has K "claims_to" (top 66))
  (h67:Has K "owed_by" (top 67))
  (h68:Has K "sums_by" (top 68))
  (h69:Has K "pence_owed" (top 69))
  (h70:Has K "paid_before" (top 70))
  (h72:Has K "_law_cell_at" (top 72))
  (h73:Has K "_law_state" (top 73))
  (h74:Has K AAg (top 74))
  (h79:Has K "_law_rows" (top 79))
  (h80:Has K "_law_clips" (top 80))
  (h81:Has K "_law_promise" (top 81))
  (h82:Has K "_law_sale" (top 82))
  (h83:Has K "_law_book" (top 83))
  (h76:Has K ABb (top 76))
  (h77:Has K AAq (top 77))
  (h85:Has K AAz (top 85))
  (h86:Has K AAn (top 86))
  (h87:Has K ABd (top 87))
  (h88:Has K "_law_are" (top 88))
  (h89:Has K "_law_is_book" (top 89))
  (h90:Has K AAj (top 90))
  (aL:PySem.W.nsIn K mainGlobals "law"=some (some (.ref fL))) (lL:K.lookup fL=some ⟨Vb,U9,.func (PySem.W.fnOf "law" "law" (gH (top 91)) (cB (top 91)) (az (top 91)) .none Qs Qt zt Qr MY Qu),Va⟩) (cL:PySem.W.codeIn K MY "law"=true) (kL:PySem.W.keepIn K (.ref fL)=true)
  (n0:PySem.W.nsIn K mainGlobals "SORTS"=some (some (.int 3 t0)))
  (n1:PySem.W.nsIn K mainGlobals "HOLDERS"=some (some (.int 8 t1)))
  (n2:PySem.W.nsIn K mainGlobals "LAST_YEAR"=some (some (.int 19 t2)))
  (n3:PySem.W.nsIn K mainGlobals "MOST_CLIPS"=some (some (.int 20 t3)))
  (n4:PySem.W.nsIn K mainGlobals "MOST_PROMISES"=some (some (.int 10 t4)))
  (n5:PySem.W.nsIn K mainGlobals "MOST_WOOL"=some (some (.int 999 t5)))
  (n6:PySem.W.nsIn K mainGlobals "MOST_SACKS"=some (some (.int 99 t6)))
  (n7:PySem.W.nsIn K mainGlobals "MOST_PRICE"=some (some (.int 1000000 t7)))
  (n8:PySem.W.nsIn K mainGlobals "MOST_SALES"=some (some (.int 12 t8)))
  (n9:PySem.W.nsIn K mainGlobals "MOST_WEIGHTS"=some (some (.int 80 t9)))
  (n10:PySem.W.nsIn K mainGlobals "MOST_WEIGHT"=some (some (.int 99 Qv)))
  (cw:PySem.W.nsIn K mainGlobals "isinstance"=some none)
  (ui:PySem.W.nsIn K mainGlobals "int"=some none)
  (om:PySem.W.nsIn K mainGlobals "bool"=some none)
  (kg:PySem.W.nsIn K mainGlobals "tuple"=some none)
  (oo:PySem.W.nsIn K mainGlobals "len"=some none)
  (uj:PySem.W.nsIn K mainGlobals "all"=some none)
  (aI:PySem.W.nsIn K mainGlobals "range"=some none)
  (fF:PySem.W.nsIn K mainGlobals "list"=some none)
  (ki:PySem.W.nsIn K mainGlobals "max"=some none)
  (ko:PySem.W.nsIn K mainGlobals "min"=some none)
  (ot:PySem.W.nsIn K mainGlobals "zip"=some none)
  (aS:PySem.W.nsIn K mainGlobals "enumerate"=some none)
  (gE:PySem.W.nsIn K mainGlobals "sorted"=some none)
  (gI:PySem.W.nsIn K mainGlobals "sum"=some none)
  (y6:PySem.W.nsIn K mainGlobals "repr"=some none)
  (y7:PySem.W.nsIn K mainGlobals "dict"=some none)
  (gL:PySem.W.nsIn K mainGlobals "str"=some none)
  (fI:PySem.W.nsIn K mainGlobals "ValueError"=some none)
  (k0:PySem.W.nsIn K mainGlobals "NoClips"=some (some (.ref C0)))
  (k1:PySem.W.nsIn K mainGlobals "NoPromises"=some (some (.ref C1)))
  (k2:PySem.W.nsIn K mainGlobals "NoSales"=some (some (.ref C2)))
  (k3:PySem.W.nsIn K mainGlobals "NoBook"=some (some (.ref C3)))
  (k4:PySem.W.nsIn K mainGlobals "NoNumber"=some (some (.ref C4)))
  (k5:PySem.W.nsIn K mainGlobals "NoYear"=some (some (.ref C5)))
  (k6:PySem.W.nsIn K mainGlobals "NoWeights"=some (some (.ref C6)))
  (k7:PySem.W.nsIn K mainGlobals "NoPaper"=some (some (.ref C7)))
  (k8:PySem.W.nsIn K mainGlobals "NoGrowth"=some (some (.ref C8)))
  (k9:PySem.W.nsIn K mainGlobals "NoPromise"=some (some (.ref C9)))
  (k10:PySem.W.nsIn K mainGlobals "NoSort"=some (some (.ref AO)))
  (k11:PySem.W.nsIn K mainGlobals "NoClip"=some (some (.ref AQ)))
  (k12:PySem.W.nsIn K mainGlobals "NoSale"=some (some (.ref AR)))
  (k13:PySem.W.nsIn K mainGlobals "NoDeed"=some (some (.ref AS)))
  (k14:PySem.W.nsIn K mainGlobals "NoText"=some (some (.ref AU)))
  (k15:PySem.W.nsIn K mainGlobals "NoLine"=some (some (.ref AV)))
  (k16:PySem.W.nsIn K mainGlobals "TooMany"=some (some (.ref AW)))
  (k17:PySem.W.nsIn K mainGlobals "WoolError"=some (some (.ref AX)))
  (e3:PySem.W.excIn K C3 VE "ValueError.__new__"=true) (d3:Ia K [C0,C1,C2,C3,C4,C5,C6,C7,C8,C9,AO,AQ,AR,AS,AU,AV,AW,AX] 3=true)
  (e5:PySem.W.excIn K C5 VE "ValueError.__new__"=true) (d5:Ia K [C0,C1,C2,C3,C4,C5,C6,C7,C8,C9,AO,AQ,AR,AS,AU,AV,AW,AX] 5=true)
  (tb:PySem.W.tabIn K AAj=some (cT,T0))
  : ∃fd,(∀s v,BindsTo s fd ⟨[v],[]⟩ [(AAc,v)])/\∀base,K.In base->base.Ns mainGlobals mg->PySem.W.CodeHd base cT T0->base.BuiltinsAt mg T0->FnOk l.prog w K mg base CX0 63 fa fd [AAc] (spLaw K T0):=by
 have e:=Vc.symm.trans (PySem.W.mg_of X G aL);cases e;have FL:=Cw (st:=top 91) lL cL kL;obtain⟨Zy,Vd,Qx,Ve,Vf⟩:=h20.g1 X G "thing";obtain⟨Zz,Vg,Qy,Vh,Vi⟩:=h21.g3 X G "thing" "least" "most";obtain⟨ZA,Vj,Qz,Vk,Vl⟩:=h22.g3 X G "thing" "fewest" "most";obtain⟨ZC,Vm,QA,Vn,Vo⟩:=h23.g2 X G "thing" "many";obtain⟨ZD,Vp,QB,Vq,Vr⟩:=h34.g1 X G "thing";obtain⟨ZE,Vs,QC,Vt,Vu⟩:=h35.g1 X G "thing";obtain⟨ZF,Vv,QD,Vw,Vx⟩:=h36.g1 X G "thing";obtain⟨ZG,Vy,QE,Vz,VA⟩:=h37.g1 X G "thing";obtain⟨ZH,VB,QF,VC,VD⟩:=h38.g1 X G "thing";obtain⟨ZI,VF,QG,VG,VH⟩:=h39.g4 X G "promises" "sales" "number" "year";obtain⟨ZJ,VI,QH,VJ,VL⟩:=h40.g2 X G "promises" "sale";obtain⟨ZK,VM,QI,VN,VO⟩:=h41.g3 X G "promises" "ahead" "sale";obtain⟨ZL,VP,QJ,VQ,VR⟩:=h42.g2 X G "promises" "sales";obtain⟨ZM,VS,QK,VT,VU⟩:=h43.g1 X G "thing";obtain⟨ZN,VW,GW,QL,QM⟩:=h44.g1 X G "thing";obtain⟨ZO,VX,QN,VY,VZ⟩:=h48.g1 X G "thing";obtain⟨ZQ,V0,QO,V1,V2⟩:=h49.g2 X G "sacks" "weights";obtain⟨ZR,V3,QP,V4,V5⟩:=h50.g1 X G "rests";obtain⟨ZS,V6,QQ,V7,V8⟩:=h51.g2 X G "sacks" "weights";obtain⟨ZU,V9,QR,Wa,Wb⟩:=h52.g2 X G "sacks" "weights";obtain⟨ZV,Wc,QS,Wd,We⟩:=h54.g1 X G "rows";obtain⟨ZW,Wf,QT,Wg,Wh⟩:=h55.g4 X G "promises" "sales" "sort" "year";obtain⟨ZX,Wi,QU,Wj,Wl⟩:=h56.g2 X G "wool" "claims";obtain⟨ZY,Wm,QV,Wn,Wo⟩:=h57.g2 X G "wool" "owed";obtain⟨ZZ,Wq,QW,Wr,Ws⟩:=h58.g3 X G "wool" "claims" "owed";obtain⟨Z0,Wt,QX,Wu,Wv⟩:=h59.g3 X G "book" "year" "owed";obtain⟨Z4,Ww,QY,Wx,Wy⟩:=h60.g2 X G "book" "year";obtain⟨Z5,Wz,GY,QZ,Q0⟩:=h61.g2 X G "clips" "year";obtain⟨Z6,WA,G0,Q3,Q4⟩:=h62.g2 X G "book" "year";obtain⟨Z7,WB,Q5,WC,WD⟩:=h64.g2 X G "book" "year";obtain⟨Z8,WE,Q6,WG,WH⟩:=h65.g1 X G "rows";obtain⟨Z9,WI,Q7,WJ,WK⟩:=h66.g2 X G "book" "year";obtain⟨f67,WL,MZ,WM,WN⟩:=h67.g2 X G "book" "year";obtain⟨f68,WO,M0,WQ,WR⟩:=h68.g2 X G "book" "year";obtain⟨f69,WS,Na,WT,WU⟩:=h69.g2 X G "book" "year";obtain⟨f70,WV,Nd,WW,WX⟩:=h70.g1 X G "book";obtain⟨f72,WY,Q8,WZ,W0⟩:=h72.g2 X G AAc AAo;obtain⟨f73,W2,Q9,W3,W4⟩:=h73.g2 X G AAc AAo;obtain⟨f74,W5,Ra,W6,W7⟩:=h74.g2 X G AAa AAh;obtain⟨f79,W8,Rb,W9,Xa⟩:=h79.g2 X G AAe AAu;obtain⟨f80,Xb,Rc,Xc,Xd⟩:=h80.g2 X G AAa AAf;obtain⟨f81,Xe,Rf,Xf,Xg⟩:=h81.g2 X G AAa AAi;obtain⟨f82,Xh,Rg,Xi,Xj⟩:=h82.g2 X G AAa AAe;obtain⟨f83,Xk,Rh,Xl,Xm⟩:=h83.g3 X G AAa AAi AAf;obtain⟨f76,Xn,Ri,Xo,Xp⟩:=h76.g1 X G AAp;obtain⟨f77,Xq,Rj,Xr,Xs⟩:=h77.g1 X G AAm;obtain⟨f85,Xt,Rk,Xu,Xv⟩:=h85.g2 X G AAa AAy;obtain⟨Xw,Nl,oz,AY,AZ⟩:=h86.g3 X G AAa AAb AAl;obtain⟨f87,Xx,Rl,Xy,Xz⟩:=h87.g3 X G AAb AAv AAr;obtain⟨f88,XA,Rm,XC,XD⟩:=h88.g3 X G AAb AAf AAx;obtain⟨f89,XE,Rn,XF,XG⟩:=h89.g1 X G AAb;obtain⟨f90,XH,Nn,Ro,XI⟩:=h90.g2 X G AAb AAd
 have T:Mg mg:=⟨(zAw X G cw),(zAw X G ui),(zAw X G om),(zAw X G kg),(zAw X G oo),(zAw X G uj)⟩
 have TP:K33P.Mg mg:=⟨(zAw X G cw),(zAw X G ui),(zAw X G om),(zAw X G kg),(zAw X G oo),(zAw X G uj)⟩
 have N:Nums mg:=⟨⟨t0,PySem.W.mg_of X G n0⟩,⟨t1,PySem.W.mg_of X G n1⟩,⟨t2,PySem.W.mg_of X G n2⟩,⟨t3,PySem.W.mg_of X G n3⟩,⟨t4,PySem.W.mg_of X G n4⟩,⟨t5,PySem.W.mg_of X G n5⟩,⟨t6,PySem.W.mg_of X G n6⟩,⟨t7,PySem.W.mg_of X G n7⟩⟩
 have NP:K33P.Nums mg:=⟨⟨t9,PySem.W.mg_of X G n9⟩,⟨Qv,PySem.W.mg_of X G n10⟩⟩
 have N2:MS mg:=⟨⟨t8,PySem.W.mg_of X G n8⟩⟩
 refine⟨PySem.W.fnOf "law" "law" (gH (top 91)) (cB (top 91)) (az (top 91)) .none Qs Qt zt Qr MY Qu,λs v=>.of_eq rfl,λbase kb _ hC hB=>?_⟩
 have L:Clss mg (λi=>[C0,C1,C2,C3,C4,C5,C6,C7,C8,C9,AO,AQ,AR,AS,AU,AV,AW,AX].getD i 0):=⟨PySem.W.mg_of X G k0,PySem.W.mg_of X G k1,PySem.W.mg_of X G k2,PySem.W.mg_of X G k3,PySem.W.mg_of X G k4,PySem.W.mg_of X G k5,PySem.W.mg_of X G k6,PySem.W.mg_of X G k7,PySem.W.mg_of X G k8,PySem.W.mg_of X G k9,PySem.W.mg_of X G k10,PySem.W.mg_of X G k11,PySem.W.mg_of X G k12,PySem.W.mg_of X G k13,PySem.W.mg_of X G k14,PySem.W.mg_of X G k15,PySem.W.mg_of X G k16,PySem.W.mg_of X G k17⟩
 have O3:=Do (mg:=mg) kb L.n3 e3;have K3:=Je d3;have O5:=Do (mg:=mg) kb L.n5 e5;have K5:=Je d5;have dv:=Iz X G Nn Ro tb;have Rq:=aR l.prog w base (wu Qx T) Ve Qx.kp Vf;have He:=aR l.prog w base (rB Qy Rq) Vh Qy.kp Vi;have A0:=aR l.prog w base (qx Qz T) Vk Qz.kp Vl;have Nw:=aR l.prog w base (qZ QA T Rq A0) Vn QA.kp Vo;have XJ:=aR l.prog w base (yd QB T N Nw) Vq QB.kp Vr;have XM:=aR l.prog w base (uw QC T N XJ A0) Vt QC.kp Vu;have XN:=aR l.prog w base (rm QD T N Nw) Vw QD.kp Vx;have Rr:=aR l.prog w base (oN QE T N XN A0) Vz QE.kp VA;have Rt:=aR l.prog w base (uB QF T N2 Nw A0) VC QF.kp VD;have Ru:=aR l.prog w base (Hr QG N) VG QG.kp VH;have XO:=aR l.prog w base (Hs QH T N) VJ QH.kp VL;have XQ:=aR l.prog w base (Ei QI T (zAw X G aI) XO Ru) VN QI.kp VO;have XR:=aR l.prog w base (Ej QJ (zAw X G aS) Rr Rt XQ) VQ QJ.kp VR;have Rv:=aR l.prog w base (ok_book QK A0 XM Rr Rt XR) VT QK.kp VU;have Rw:=aR l.prog w base (HJ GW Rv) QL GW.kp QM;have XB:=ji (P:=l.prog) (w:=w) (base:=base) (FP (Cs:=λi=>[C0,C1,C2,C3,C4,C5,C6,C7,C8,C9,AO,AQ,AR,AS,AU,AV,AW,AX].getD i 0) GW O3 Rv) QL GW.kp QM;have XS:=aR l.prog w base (K33P.ok_are_weights QN TP NP He A0) VY QN.kp VZ;have XT:=aR l.prog w base (K33P.ok_refuse QO (zAw X G gI) XS He) V1 QO.kp V2;have XU:=aR l.prog w base (K33P.ok_places QP (zAw X G aS) (zAw X G gE)) V4 QP.kp V5;have XW:=aR l.prog w base (K33P.ok_parts QQ TP (zAw X G gI) XU) V7 QQ.kp V8;have XX:=aR l.prog w base (K33P.ok_parted QR XT XW) Wa QR.kp Wb;have XY:=aR l.prog w base (Ek QS (zAw X G gI)) Wd QS.kp We;have Rx:=aR l.prog w base (BP QT (zAw X G aS) Ru) Wg QT.kp Wh;have XZ:=aR l.prog w base (BK QU T (zAw X G gI) XX) Wj QU.kp Wl;have X0:=aR l.prog w base (Ht QV (zAw X G ko)) Wn QV.kp Wo;have X1:=aR l.prog w base (En QW (zAw X G gI) (zAw X G fF) (zAw X G ot) XZ X0) Wr QW.kp Ws;have X2:=aR l.prog w base (HF QX T N (zAw X G aI) (zAw X G gE) Rx X1 XY) Wu QX.kp Wv;have Ry:=aR l.prog w base (Fe QY (zAw X G aI) X2) Wx QY.kp Wy;have X3:=aR l.prog w base (HN GY T He) QZ GY.kp Q0;have X4:=ji (P:=l.prog) (w:=w) (base:=base) (FQ (Cs:=λi=>[C0,C1,C2,C3,C4,C5,C6,C7,C8,C9,AO,AQ,AR,AS,AU,AV,AW,AX].getD i 0) GY T O5 He) QZ GY.kp Q0;have NA:=aR l.prog w base (Fg G0 Rw X3) Q3 G0.kp Q4;have NC:=ji (P:=l.prog) (w:=w) (base:=base) (BZ G0 XB X4) Q3 G0.kp Q4;have ND:=aR l.prog w base (Fi Q5 Ry) WC Q5.kp WD;have X5:=aR l.prog w base (Ku Q6 N) WG Q6.kp WH;have X6:=aR l.prog w base (Ih Q7 N (zAw X G aI) Rx) WJ Q7.kp WK;have X7:=ji (P:=l.prog) (w:=w) (base:=base) (uM (R:=sX) (λ_ _ _ _ _ _ h _ _ _ H' s' _ _ _ _ _=>h _ H' s') (HS MZ NA ND) (FT MZ NC)) WM MZ.kp WN;have X8:=ji (P:=l.prog) (w:=w) (base:=base) (uM (R:=HR) (λ_ _ _ _ _ _ h=>h) (Ii M0 (zAw X G fF) (zAw X G ot) NA Ry X6 ND X5) (FW M0 NC)) WQ M0.kp WR;have X9:=ji (P:=l.prog) (w:=w) (base:=base) (uM (R:=HR) (λ_ _ _ _ _ _ h=>h) (Fy Na N NA ND) (Ca Na NC)) WT Na.kp WU;have Ya:=ji (P:=l.prog) (w:=w) (base:=base) (Cd (Ig Nd N Rw) (FZ Nd XB)) WW Nd.kp WX;have Yb:=aR l.prog w base (K33P.ok_cell Q8 TP) WZ Q8.kp W0;have Yc:=aR l.prog w base (K33P.ok_state Q9 (zAw X G ki) Yb) W3 Q9.kp W4;have oI:=aR l.prog w base (K33P.ok_choice Ra) W6 Ra.kp W7;have Rz:=aR l.prog w base (Hy Rb T (zAw X G aS) (zAw X G aI) (zAw X G ko) (zAw X G ki)) W9 Rb.kp Xa;have Yd:=aR l.prog w base (K33Q.ok_clips Rc TP (zAw X G aI) oI) Xc Rc.kp Xd;have Ye:=aR l.prog w base (K33Q.ok_prom Rf (zAw X G ko) oI) Xf Rf.kp Xg;have Yf:=aR l.prog w base (K33Q.ok_sale Rg T (zAw X G ki) oI) Xi Rg.kp Xj;have Yg:=aR l.prog w base (K33Q.ok_book Rh TP (zAw X G aI) (zAw X G oo) oI Yd Ye Yf Rz) Xl Rh.kp Xm;have Yh:=Iw (P:=l.prog) (w:=w) (base:=base) (Fv Ri T L) Xo Ri.kp Xp;have Yi:=aR l.prog w base (Ie (kk:=13) Rj T (zAw X G fI) L Yh) Xr Rj.kp Xs;have EV:=aR l.prog w base (K33P.ok_rowG Rk TP (zAw X G fF) (zAw X G y7) oI) Xu Rk.kp Xv;have B0:=aR l.prog w base (K33P.ok_bent00 (k:=2) (f:=Xw) (fd:=Nl)) AY oz.kp AZ;have B1:=aR l.prog w base (K33P.ok_bentD (n:=0) (j:=0) oz TP (zAw X G gL) oI EV B0) AY oz.kp AZ;have B2:=aR l.prog w base (K33P.ok_bentD (n:=1) (j:=1) oz TP (zAw X G gL) oI EV B1) AY oz.kp AZ;have B3:=aR l.prog w base (K33P.ok_bentD (n:=2) (j:=2) oz TP (zAw X G gL) oI EV B2) AY oz.kp AZ;have B4:=aR l.prog w base (K33P.ok_bentD (n:=3) (j:=3) oz TP (zAw X G gL) oI EV B3) AY oz.kp AZ;have B5:=aR l.prog w base (K33P.ok_bentD (n:=4) (j:=4) oz TP (zAw X G gL) oI EV B4) AY oz.kp AZ;have RA:=aR l.prog w base (Ce Rl T) Xy Rl.kp Xz;have Yj:=aR l.prog w base (Ky Rm T (zAw X G ot) RA) XC Rm.kp XD;have Yk:=aR l.prog w base (KC Rn T Yj Rz) XF Rn.kp XG;have Yl:=aR l.prog w base (G9 Nn dv hC hB T (zAw X G y6) (λj hj=>by rcases hj with rfl|rfl;exact K3;exact K5) Yi X7 X8 X9 Ya Yk RA) Ro Nn.kp XI;exact K33P.ok_law FL TP (zAw X G aI) (zAw X G ki) (zAw X G ko) (zAw X G fF) Yc Yg oI B5 Yl
theorem walk{l:PySem.W.OpenLaw}{K:Params->Frag}(hn:l.most=some 63)(qh:d.params.defaults=[])
  (hY:∀w h,YP w h->(K w.params).In h) (KL:(PyProof.Rows.recsOf q).find? (λe=>e.name==(AAj:Str))=some dr) (CL:∀p,PySem.W.tabIn (K p) AAj=some (c,T0)) (Au:∀p,PySem.W.noTabs (K p)=true)
  (F:∀w mg fa h,(K w.params).In h->h.Ns mainGlobals mg->mg d.name=some (.ref fa)->
   ∃fd,(∀s u,BindsTo s fd ⟨[u],[]⟩ [(AAc,u)])/\∀base,(K w.params).In base->base.Ns mainGlobals mg->PySem.W.CodeHd base c T0->base.BuiltinsAt mg T0->FnOk l.prog w (K w.params) mg base CX0 63 fa fd [AAc] (spLaw (K w.params) T0)):
  PySem.W.WalkO q loose XP YP l.row.toRowW d [] (λf vs=>PySem.call f vs):=
 L2.walk_ofT (n:=63) (k:=63) (x:=AAc) (nm:=AAj) (qn:=qnT) (CX:=λ_=>CX0) (sp:=λw=>spLaw (K w.params) T0) hn z02 qh ⟨rfl,by decide,by decide,rfl⟩ hY KL CL Au F (λ_ _ a ns hl hS hT=>⟨a,ns,rfl,hS,hl,hT,λ_=>rfl⟩) λ_ _ _ _ _ z=>z
end K33
open PySem PySem.W PyProof.Rows
set_option maxRecDepth 100000 in
set_option maxHeartbeats 0 in
theorem PySem.Challenge.cw_woolyears_k33_owing_refused_holds : PySem.Challenge.rw_woolyears_k33_owing_refused.Holds := by
 w_on;o_law;k_head;(case hw=>w_witness2)
 k_fill
 refine' K33.walk (l:=PySem.Challenge.rw_woolyears_k33_owing_refused) rfl rfl (λw h Y=>PySem.W.km_in_of Y) ?fd ?tb ?nt ?F
 case fd=>exact rfl
 case tb =>
  intro p
  refine' K33.tab_mk ?a ?l ?c ?m ?v
  (case a=>k_is);(case l=>k_is);(case c=>exact rfl);(case m=>k_is);(case v=>exact rfl)
 case nt =>
  intro p
  kernel_rfl
 case F =>
  intro w mg fa h KX G hmg
  refine' K33.all_mk KX G hmg ?h20 ?h21 ?h22 ?h23 ?h34 ?h35 ?h36 ?h37 ?h38 ?h39 ?h40 ?h41 ?h42 ?h43 ?h44 ?h48 ?h49 ?h50 ?h51 ?h52 ?h54 ?h55 ?h56 ?h57 ?h58 ?h59 ?h60 ?h61 ?h62 ?h64 ?h65 ?h66 ?h67 ?h68 ?h69 ?h70 ?h72 ?h73 ?h74 ?h79 ?h80 ?h81 ?h82 ?h83 ?h76 ?h77 ?h85 ?h86 ?h87 ?h88 ?h89 ?h90 ?aL ?lL ?cL ?kL ?n0 ?n1 ?n2 ?n3 ?n4 ?n5 ?n6 ?n7 ?n8 ?n9 ?n10 ?z0 ?z1 ?z2 ?z3 ?z4 ?z5 ?z6 ?z7 ?z8 ?z9 ?z10 ?z11 ?z12 ?z13 ?z14 ?z15 ?z16 ?z17 ?k0 ?k1 ?k2 ?k3 ?k4 ?k5 ?k6 ?k7 ?k8 ?k9 ?k10 ?k11 ?k12 ?k13 ?k14 ?k15 ?k16 ?k17 ?e3 ?d3 ?e5 ?d5 ?tb
  case h20|h21|h22|h23|h34|h35|h36|h37|h38|h39|h40|h41|h42|h43|h44|h48|h49|h50|h51|h52|h54|h55|h56|h57|h58|h59|h60|h61|h62|h64|h65|h66|h67|h68|h69|h70|h72|h73|h74|h79|h80|h81|h82|h83|h76|h77|h85|h86|h87|h88|h89|h90=>
   refine' K33.has_mk ?a ?l ?c ?k
   case a|l|c|k=>k_is
  case aL|lL|cL|kL|n0|n1|n2|n3|n4|n5|n6|n7|n8|n9|n10|z0|z1|z2|z3|z4|z5|z6|z7|z8|z9|z10|z11|z12|z13|z14|z15|z16|z17|k0|k1|k2|k3|k4|k5|k6|k7|k8|k9|k10|k11|k12|k13|k14|k15|k16|k17=>k_is
  case e3|d3|e5|d5=>kernel_rfl
  case tb =>
   refine' K33.tab_mk ?a ?l ?c ?m ?v
   (case a=>k_is);(case l=>k_is);(case c=>exact rfl);(case m=>k_is);(case v=>exact rfl)
