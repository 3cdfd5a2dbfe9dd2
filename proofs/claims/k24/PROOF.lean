import PyProof.Rows.All
import Wide.All
import OpenK.AllK
import Wide.FinOn
import Lean
import PyProof.EqAt
import PyProof.EqKinds
import PyProof.TupleCall
import PyProof.StrLawsRepr
import PyProof.ZipIter
import PySem.Challenge.RW_woolyears_k24_what_is_refused_of_years
import PyProof.Rows.SortRunsK
import PyProof.AttrMissHeap
import PyProof.SeqRoads
import PyProof.ListOps
import PyProof.StationsW
import KE.KItemsList
import PyProof.ListNew
import PyProof.ListRange
import KE.KRevSl
import KE.KRevIter
import PyProof.ExcBaseAll.ValueError
set_option compiler.extract_closed false
set_option Elab.async false
set_option linter.all false
set_option maxRecDepth 100000
set_option maxHeartbeats 4000000
noncomputable section
abbrev gV:=PySem.Value->PySem.Shared->Prop
abbrev Qa0:=PySem.Str->Option PySem.Value
abbrev Qa1:=List (PySem.Addr×PySem.Obj)
abbrev Qa3:=List PySem.PyData
abbrev Qa4:=List PySem.Value
abbrev Qa5:=Array PySem.Value
abbrev Qa6:=List PySem.Expr
abbrev Qa7:=List PySem.Str
abbrev Qa9:=List PySem.Addr
def Zaa:=@PyProof.Rows.wpS_bind
def Zab:=@PyProof.Rows.wpS_pure
def Zac:=@PySem.wpAny_newObj_type
def Zad:=@List.mem_singleton
def Zae:=@List.all_eq_true
def Zaf:=@Nat.le_trans
def Zag:=@List.sum_cons
def Zah:=@List.length_range
def Zai:=@List.mem_cons_of_mem
def Zaj:=@Nat.lt_irrefl
def Zak:=@Array.toList_append
def Zal:=@List.take_of_length_le
def Zam:=@Nat.ne_of_gt
def Zan:=@List.mem_cons_self
def Zao:=@Nat.le_succ
def Zap:=@List.length_drop
def Zaq:=@Nat.le_of_ble_eq_true
def Zar:=@Nat.mul_le_mul_right
def Zas:=@List.mem_append_left
def Zat:=@List.getElem?_range
def Zau:=@Array.getElem?_eq_getElem
def Zav:=@List.length_set
def Zaw:=@Bool.eq_iff_iff
def Zax:=@Option.isSome_iff_exists
def Zay:=@List.lookup_cons
def Zaz:=@List.getElem_of_mem
def Za0:=@List.getElem?_set_self
def Za1:=@List.getElem?_eq_none
def Za2:=@Array.getElem?_toList
def Za3:=@List.mem_range
def Za4:=@List.filterMap_cons
def Za5:=@Int.emod_lt_of_pos
def Za6:=@Int.le_refl
def Za7:=@Nat.le_of_lt
def Za8:=@List.range_succ
def Za9:=@List.length_replicate
def Zba:=@Nat.lt_succ_of_lt
def Zbb:=@Array.perm_iff_toList_perm
def Zbc:=@List.mem_of_mem_take
def Zbd:=@List.mem_of_mem_drop
def Zbe:=@List.drop_eq_getElem_cons
def Zbf:=@List.length_reverse
def Zbg:=@Int.zero_add
def Zbh:=@Int.emod_nonneg
def Zbi:=@Int.natCast_nonneg
abbrev AAa:PySem.Str:="_law_state_here"
abbrev AAb:PySem.Str:="_law_thing"
abbrev AAc:PySem.Str:="_law_promises_here"
abbrev AAd:PySem.Str:="_law_script"
abbrev AAe:PySem.Str:="_law_sales_here"
abbrev AAf:PySem.Str:="_law_most"
abbrev AAg:PySem.Str:="_law_rows"
abbrev AAh:PySem.Str:="_law_right"
abbrev AAi:PySem.Str:="_law_many"
abbrev AAj:PySem.Str:="_law_year"
abbrev AAk:PySem.Str:="_law_sale"
abbrev AAl:PySem.Str:="_law_years"
abbrev AAm:PySem.Str:="_law_book_here"
abbrev AAn:PySem.Str:="_law_take"
abbrev AAo:PySem.Str:="_law_one"
abbrev AAp:PySem.Str:="_law_high"
abbrev AAq:PySem.Str:="_law_found"
abbrev AAr:PySem.Str:="_law_low"
abbrev AAs:PySem.Str:="_law_k"
abbrev AAt:PySem.Str:="_law_between"
abbrev AAu:PySem.Str:="_law_number"
abbrev AAv:PySem.Str:="_law_deep"
abbrev AAw:PySem.Str:="_law_call"
abbrev AAx:PySem.Str:="_law_are_promises"
abbrev AAy:PySem.Str:="_law_whole"
abbrev AAz:PySem.Str:="_law_is_promise"
abbrev ABa:PySem.Str:="_law_spoilt"
abbrev ABb:PySem.Str:="_law_seller"
abbrev ABc:PySem.Str:="_law_are_clips"
abbrev ABd:PySem.Str:="_law_are_sales"
abbrev ABe:PySem.Str:="_law_promises"
abbrev ABf:PySem.Str:="_law_any_sale"
abbrev UV:=List (List Int)
abbrev WF:=List Int
theorem z00{p:Prop}(h:p:=by lia):p:=h
theorem z01{p:Prop}(h:p:=by simp):p:=h
theorem z02{p:Prop}(h:p:=by decide):p:=h
theorem z03{p:Prop}(h:p:=by omega):p:=h
theorem z04{p:Prop}(h:p:=by decide+kernel):p:=h
theorem z05{p:Prop}(h:p:=by rw[sizeLine_eq];lia):p:=h
def z17:=@decide_eq_true_eq
open PySem.W (Frag)
def zAt:=@PySem.wpAny_bind
def zAu:=@PySem.Heap.get?_push_of_some
def zAv:=@PySem.W.mg_none_of
def zAw:=@decide_eq_true
def zAx:=@PySem.wpAny_pure
def zAy:=@if_neg
def zAz:=@if_pos
def zB0:=@PySem.Heap.lt_size
def zB1:=@PySem.Heap.get?_push_size
def zB2:=@List.mem_append_right
def zB3:=@Nat.lt_of_lt_of_le
def zB4:=@PySem.F.plainAttrs_list
def zB5:=@List.mem_of_getElem?
def zB6:=@decide_eq_false
def zB7:=@Nat.ne_of_lt
def zB8:=@PySem.PassesOwn.never
def zB9:=@PySem.F.type_list_append
def zBa:=@PySem.F.slot_list_append
def zBb:=@List.getElem?_append_left
def zBc:=@List.getElem?_append_right
def zBd:=@of_decide_eq_true
def zBe:=@List.take_append_drop
def zBf:=@List.filter_cons_of_neg
def zBg:=@List.filter_cons_of_pos
def zA0:=@List.getElem?_eq_getElem
def zA1:=@List.length_map
def zA2:=@List.length_append
def zA3:=@Nat.le_refl
def zA4:=@List.map_append
def zA5:=@List.mem_map
def zA6:=@List.mem_append
def zA7:=@List.getD_eq_getElem?_getD
def zA8:=@List.size_toArray
def zA9:=@Array.length_toList
def zAa:=@List.getElem?_eq_some_iff
def zAb:=@List.getElem?_map
def zAc:=@Bool.and_eq_true
def zAd:=@List.length_take
def zAe:=@List.length_cons
def zAf:=@List.append_assoc
def zAg:=@Bool.false_ne_true
def zAh:=@List.getElem_mem
def zAi:=@Int.toNat_natCast
def zAj:=@List.take_add_one
def zAk:=@List.map_cons
def zAl:=@Option.some.inj
def zAm:=@List.take_length
def zAn:=@List.append_nil
def zAo:=@List.mem_cons
def zAp:=@Nat.zero_le
def zAq:=@List.mem_filter
def zAr:=@List.map_map
def zAs:=@List.length_zip
namespace L2
open PySem PySem.Spec PyProof.Rows
abbrev Key:=Sum Int Str
def pK:Key->Value->Bool|.inl k,v=>Value.isInt k v|.inr x,v=>Value.isStrOf x v
def Qf(w:World):Key->Int|.inl k=>hashInt k|.inr x=>hashStr w x
theorem cM:∀{k:Key}{v:Value},pK k v=true->(∃i t,k=Sum.inl i/\v=Value.int i t)\/(∃x t,k=Sum.inr x/\v=Value.str x t)|.inl i,v,h=>by obtain⟨t,e⟩:=Value.isInt_shape (k:=i) (v:=v) h;exact .inl ⟨i,t,rfl,e⟩;|.inr x,v,h=>by obtain⟨t,e⟩:=Value.isStrOf_shape (x:=x) (v:=v) h;exact .inr ⟨x,t,rfl,e⟩
theorem Bw(i:Int)(t:Tok):pK (.inl i) (.int i t)=true:=by simp[pK,Value.isInt]
theorem By(x:Str)(t:Tok):pK (.inr x) (.str x t)=true:=by simp[pK,Value.isStrOf]
theorem KJ(a b:Int):decide ((Sum.inl a:Key)=Sum.inl b)=(a==b):=by grind
theorem KN(a b:Str):decide ((Sum.inr a:Key)=Sum.inr b)=decide (a=b):=by simp
theorem KQ(a:Int)(b:Str):decide ((Sum.inl a:Key)=Sum.inr b)=false:=zB6 (λq=>nomatch q)
theorem KR(a:Str)(b:Int):decide ((Sum.inr a:Key)=Sum.inl b)=false:=zB6 (λq=>nomatch q)
def cH(prog:Program)(w:World):PySem.KeyKind prog w Key where
 is:=pK;hash:=Qf w;inj:=λv a b ha hb=>by
  rcases cM ha with⟨i,t,rfl,rfl⟩|⟨x,t,rfl,rfl⟩
  .rcases cM hb with⟨j,u,rfl,e⟩|⟨y,u,rfl,e⟩;.injection e with e1 _;rw[e1]
   .exact nomatch e
  .rcases cM hb with⟨j,u,rfl,e⟩|⟨y,u,rfl,e⟩;.exact nomatch e
   .injection e with e1 _;rw[e1]
 byValue:=λk v h=>by rcases cM h with⟨i,t,rfl,rfl⟩|⟨x,t,rfl,rfl⟩<;>rfl
 pyHash:=λhv h=>by
  rcases cM hv with⟨i,t,rfl,rfl⟩|⟨x,t,rfl,rfl⟩;.exact wpAny_pyHash_int h
  .exact wpAny_pyHash_str h
 eqBool:=λhu hv h=>by
  rcases cM hu with⟨i,t,rfl,rfl⟩|⟨x,t,rfl,rfl⟩
  .rcases cM hv with⟨j,u,rfl,rfl⟩|⟨y,u,rfl,rfl⟩;.rw[KJ]at h;exact wpAny_eqBool_int h
   .rw[KQ]at h;exact SeqAt.EqAt.int_str i t y u _ _ _ _ h
  .rcases cM hv with⟨j,u,rfl,rfl⟩|⟨y,u,rfl,rfl⟩;.rw[KR]at h;exact SeqAt.EqAt.str_int x t j u _ _ _ _ h
   .rw[KN]at h;exact wpAny_eqBool_str h
 «strs»:=λk x t v h=>by
  rcases cM h with⟨i,u,rfl,e⟩|⟨y,u,rfl,e⟩;.exact nomatch e
  .injection e with e1 _;subst e1;cases v<;>rfl
theorem vI(prog:Program)(w:World)(i:Int)(t:Tok):(cH prog w).is (.inl i) (.int i t)=true:=Bw i t
theorem vJ(prog:Program)(w:World)(x:Str)(t:Tok):(cH prog w).is (.inr x) (.str x t)=true:=By x t
inductive V where|non|bl(b:Bool)|int(i:Int)|str(x:Str)|byt(b:Array UInt8)|flt(b:UInt64)|ref(a:Addr)|ty(n:String)deriving DecidableEq
def RelV:V->Value->Prop|.non,u=>u=Value.none|.bl b,u=>u=Value.bool b|.int i,u=>∃t,u=Value.int i t|.str x,u=>∃t,u=Value.str x t|.byt b,u=>∃t,u=Value.bytes b t|.flt b,u=>∃t,u=Value.float b t|.ref a,u=>u=Value.ref a|.ty n,u=>u=Value.type n
abbrev Vals:List V->Qa4->Prop:=Paired RelV
theorem Vals.length(r:Vals xs us):xs.length=us.length:=Paired.length r
theorem Vals.get:∀{xs:List V}{us:Qa4}{i:Nat}{x:V},Vals xs us->xs[i]?=some x->∃u,us[i]?=some u/\RelV x u|_,_,_,_,.nil,e=>by simp at e;|_,_,0,_,.cons r _,e=>by simp at e;subst e;exact⟨_,rfl,r⟩;|_,_,i+1,x,.cons _ t,e=>by obtain⟨u,h1,h2⟩:=Vals.get (i:=i) (x:=x) t (by simpa using e);exact⟨u,by simpa using h1,h2⟩
theorem Vals.set(r:RelV x u):∀{xs:List V}{us:Qa4}i,Vals xs us->Vals (xs.set i x) (us.set i u)|_,_,_,.nil=>.nil|_,_,0,.cons _ t=>.cons r t|_,_,i+1,.cons q t=>.cons q (Vals.set r i t)
theorem Vals.append:∀{xs ys:List V}{us ws:Qa4},Vals xs us->Vals ys ws->Vals (xs++ys) (us++ws)|_,_,_,_,.nil,s=>s|_,_,_,_,.cons r t,s=>.cons r (Vals.append t s)
theorem Vals.take:∀{xs:List V}{us:Qa4}n,Vals xs us->Vals (xs.take n) (us.take n)|_,_,0,_=>.nil|_,_,_+1,.nil=>.nil|_,_,n+1,.cons r t=>.cons r (Vals.take n t)
theorem Vals.drop:∀{xs:List V}{us:Qa4}n,Vals xs us->Vals (xs.drop n) (us.drop n)|_,_,0,r=>r|_,_,_+1,.nil=>.nil|_,_,n+1,.cons _ t=>Vals.drop n t
def RelO:Option V->Option Value->Prop|some v,some u=>RelV v u|none,none=>True|_,_=>False
def KV:List (κ×V)->List (κ×Value)->Prop:=Paired λp q=>p.1=q.1/\RelV p.2 q.2
def kV:Key->V|.inl i=>.int i|.inr x=>.str x
inductive HO where|lst(xs:List V)|tup(xs:List V)|dK(z07:List (Key×V))|dT(z07:List (List Key×V))|set(S:Int->Bool)(n:Nat)|ins(C dx:Addr)(fs:List (Str×V))|own(x:Addr)|xd(fs:List (Str×V))|met(f x:Addr)|rng(lo hi:Int)|frz(o:Obj)(u:HO)|tbl(ps:Qa5)|ext(φ:Heap->Prop)
abbrev Hp:=Addr->Option HO
def upd(H:Hp)(a:Addr)(o:HO):Hp:=λb=>if b=a then some o else H b
theorem ao:upd H a o a=some o:=by unfold upd;rw[zAz rfl]
theorem aD(h:b≠a):upd H a o b=H b:=by unfold upd;rw[zAy h]
theorem Np{H:Hp}(h:H a=some o)(h':H b=some u)(d:o≠u):a≠b:=by intro e;subst e;rw[h]at h';exact d (zAl h')
theorem aH{H:Hp}(h:H a=some o)(h':H b=none):a≠b:=by intro e;subst e;rw[h]at h';cases h'
section
variable(P:Program)(w:World)
def ObjOk(H:Hp)(h:Heap)(a:Addr):HO->Prop|.lst xs=>xs.length<=sizeLine/\∃z08 n,Vals xs z08/\h.get? a=some {cls:=.type "list",data:=.seq z08.toArray n}|.tup xs=>xs.length<=sizeLine/\∃z08,Vals xs z08/\IsTup h a z08.toArray|.dK z07=>z07.length<=sizeLine/\(a==sysModules)=false/\∃vs,KV z07 vs/\h.DictOf (cH P w) a vs|.dT z07=>z07.length<=sizeLine/\(a==sysModules)=false/\∃xs,Paired (λp q=>p.1=q.1/\H q.2.1=some (.tup (p.1.map kV))/\RelV p.2 q.2.2) z07 xs/\∃o es ep,h.get? a=some o/\o.ExactDict/\o.data=.dict es ep/\es.toList=xs.map (entryOfKey (tupleKind (cH P w)))/\(xs.map (·.1)).Nodup|.set S n=>h.SetOf (intKind P w) a S n|.ins C dx fs=>H dx=some (.own a)/\fs.length<=1000/\dx≠a/\h.get? a=some (PySem.W.instObj C dx)/\∃mA,h.Ns1 dx mA/\(∀f,RelO (fs.lookup f) (mA f))/\PySem.Within mA (fs.map (·.1))|.own _=>∃o,h.get? a=some o|.xd fs=>∃mA,h.Ns1 a mA/\∀f,RelO (fs.lookup f) (mA f)|.rng lo hi=>∃t u v,h.get? a=some {cls:=.type "range",data:=.fields #[.int lo t,.int hi u,.int 1 v]}|.frz o u=>h.get? a=some o/\ObjOk H h a u|.tbl ps=>h.get? a=some {cls:=.none,data:=.fields ps}|.met f x=>h.get? a=some (PySem.W.methodObj (.ref f) (.ref x))|.ext φ=>φ h/\(∃o,h.get? a=some o)/\∀h1 h2,φ h1->(∀o,h1.get? a=some o->h2.get? a=some o)->φ h2
def HOk(H:Hp)(h:Heap):Prop:=∀a o,H a=some o->ObjOk P w H h a o
end
section
variable{a:Addr}
theorem ObjOk.lt(x:ObjOk P w H h a o):a<h.objs.size:=by cases o with|lst xs=>obtain⟨_,_,_,_,e⟩:=x;exact zB0 e;|tup xs=>obtain⟨_,_,_,p⟩:=x;exact p.lt;|dK z07=>obtain⟨_,_,_,_,o,_,_,e,_⟩:=x;exact zB0 e;|dT z07=>obtain⟨_,_,_,_,o,_,_,e,_⟩:=x;exact zB0 e;|set S n=>obtain⟨o,_,_,_,e,_⟩:=x;exact zB0 e;|ins C dx fs=>obtain⟨_,_,_,e,_⟩:=x;exact zB0 e;|own y=>obtain⟨_,e⟩:=x;exact zB0 e;|xd fs=>obtain⟨_,⟨_,_,_,e,_⟩,_⟩:=x;exact zB0 e;|rng lo hi=>obtain⟨_,_,_,e⟩:=x;exact zB0 e;|frz ob u=>obtain⟨e,_⟩:=x;exact zB0 e;|tbl ps=>exact zB0 (x);|met f y=>exact zB0 (x);|ext φ=>obtain⟨_,⟨_,e⟩,_⟩:=x;exact zB0 e
theorem Paired.mapP:∀{AH:List α}{AI:List β},Paired F AH AI->(∀a b,F a b->G a b)->Paired G AH AI|_,_,.nil,_=>.nil|_,_,.cons r t,f=>.cons (f _ _ r) (Paired.mapP t f)
theorem ObjOk.stay(x:ObjOk P w H h a o)(k:∀b u,(b=a\/H b=some (.own a))->h.get? b=some u->h'.get? b=some u)(ho:∀b,H b=some (.own a)->H' b=some (.own a))(ht:∀b xs,H b=some (.tup xs)->H' b=some (.tup xs)):ObjOk P w H' h' a o:=by induction o with|lst xs=>obtain⟨z,z08,n,r,e⟩:=x;exact⟨z,z08,n,r,k _ _ (.inl rfl) e⟩;|tup xs=>obtain⟨z,z08,r,ob,e,c⟩:=x;exact⟨z,z08,r,ob,k _ _ (.inl rfl) e,c⟩;|dK z07=>obtain⟨z,y,vs,r,ob,es,ep,e,c⟩:=x;exact⟨z,y,vs,r,ob,es,ep,k _ _ (.inl rfl) e,c⟩;|dT z07=>obtain⟨z,y,xs,r,ob,es,ep,e,c⟩:=x;exact⟨z,y,xs,Paired.mapP r λp q z=>⟨z.1,ht _ _ z.2.1,z.2.2⟩,ob,es,ep,k _ _ (.inl rfl) e,c⟩;|set S n=>obtain⟨ob,es,ep,t,e,c⟩:=x;exact⟨ob,es,ep,t,k _ _ (.inl rfl) e,c⟩;|ins C dx fs=>obtain⟨d,z,ne,e,mA,⟨od,es,ep,e2,c⟩,r⟩:=x;exact⟨ho _ d,z,ne,k _ _ (.inl rfl) e,mA,⟨od,es,ep,k _ _ (.inr d) e2,c⟩,r⟩;|own y=>obtain⟨ob,e⟩:=x;exact⟨ob,k _ _ (.inl rfl) e⟩;|xd fs=>obtain⟨mA,⟨od,es,ep,e,c⟩,r⟩:=x;exact⟨mA,⟨od,es,ep,k _ _ (.inl rfl) e,c⟩,r⟩;|rng lo hi=>obtain⟨t,u,v,e⟩:=x;exact⟨t,u,v,k _ _ (.inl rfl) e⟩;|frz ob u ih=>obtain⟨e,q⟩:=x;exact⟨k _ _ (.inl rfl) e,ih q⟩;|tbl ps=>have e:h.get? a=some {cls:=.none,data:=.fields ps}:=x;exact k a _ (.inl rfl) e;|met f y=>have e:h.get? a=some (PySem.W.methodObj (.ref f) (.ref y)):=x;exact k a _ (.inl rfl) e;|ext φ=>obtain⟨p,⟨o,e⟩,st⟩:=x;exact⟨st _ _ p λo q=>k _ _ (.inl rfl) q,⟨o,k _ _ (.inl rfl) e⟩,st⟩
theorem HOk.lt(x:HOk P w H h)(e:H a=some o):a<h.objs.size:=(x a o e).lt
theorem HOk.fresh(x:HOk P w H h)(e:h.objs.size<=a):H a=none:=by cases q:H a with|none=>rfl;|some u=>exact absurd (zB3 (x.lt q) e) (Zaj _)
theorem HOk.kept(x:HOk P w H h)(k:∀b u,h.get? b=some u->h'.get? b=some u):HOk P w H h':=λa o e=>(x a o e).stay (λb u _ q=>k b u q) (λ_ q=>q) λ_ _ q=>q
theorem HOk.laid(x:HOk P w H h)(k:∀b u,h.get? b=some u->h'.get? b=some u)(hp:h.objs.size<=a)(new:ObjOk P w (upd H a o) h' a o):HOk P w (upd H a o) h':=λb u e=>by
 have hn:=x.fresh hp;by_cases hb:b=a;.subst hb;rw[ao]at e;cases e;exact new
 .rw[aD hb]at e;exact(x b u e).stay (λc v _ q=>k c v q) (λc q=>by rw[aD (aH q hn)];exact q) λc xs q=>by rw[aD (aH q hn)];exact q
end
def Rd(H:Hp)(a:Addr)(u:HO):Prop:=H a=some u\/∃o,H a=some (.frz o u)
theorem Rd.ok(r:Rd H a u)(x:HOk P w H h):ObjOk P w H h a u:=by
 rcases r with r|⟨o,r⟩;.exact x a u r
 .obtain⟨_,q⟩:=x a _ r;exact q
def Mut:Option HO->Prop|some (.lst _)=>True|some (.dK _)=>True|some (.dT _)=>True|some (.set _ _)=>True|some (.ins _ _ _)=>True|some (.ext _)=>True|_=>False
section
theorem HOk.write(ok:HOk P w H h)(mu:Mut (H x))(he:e=x\/H e=some (.own x))(k:∀b u,b≠e->h.get? b=some u->h'.get? b=some u)(yb:∃u,h'.get? e=some u)(new:ObjOk P w (upd H x o') h' x o'):HOk P w (upd H x o') h':=λb u q=>by
 have AJ:∀c y,H c=some (.own y)->c≠x:=λc y r z=>by subst z;rw[r]at mu;exact mu
 have FV:∀c xs,H c=some (.tup xs)->c≠x:=λc xs r z=>by subst z;rw[r]at mu;exact mu
 by_cases hb:b=x;.subst hb;rw[ao]at q;cases q;exact new
 .rw[aD hb]at q;by_cases AK:b=e
  .have q':H b=some (.own x):=by grind
   rw[q]at q';cases q';obtain⟨v,hv⟩:=yb;exact⟨v,by rw[AK];exact hv⟩
  .refine(ok b u q).stay (λc v hc r=>k c v ?_ r) (λc r=>by rw[aD (AJ c b r)];exact r) λc xs r=>by rw[aD (FV c xs r)];exact r
   rcases hc with rfl|hc;.exact AK
   .rintro rfl;rcases he with z|z;.exact AJ c b hc z
    .rw[hc]at z;cases z;exact hb rfl
end
structure Un(fs ex:Qa9)(H H':Hp)(h h':Heap):Prop where
 keep:∀b o,h.get? b=some o->H b=none->b∉fs->b∉ex->h'.get? b=some o
 slot:∀b o,h.get? b=some o->H b=none->b∈fs->b∉ex->∃sl,h'.get? b=some {o with slots:=sl}free:∀b o,h.get? b=some o->H b=none->b∉ex->H' b=none
 there:∀b o,h.get? b=some o->b∉ex->∃o',h'.get? b=some o'
 tups:∀b xs,H b=some (.tup xs)->H' b=some (.tup xs)frzs:∀b o u,H b=some (.frz o u)->H' b=some (.frz o u)tbls:∀b ps,H b=some (.tbl ps)->∃more,H' b=some (.tbl (ps++more))
section
variable{h h1 h2 h':Heap}{a x e:Addr}
theorem Un.any(u:Un fs ex H H1 h h1)(q:h.get? b=some ob)(n:H b=none)(hx:b∉ex):∃sl,h1.get? b=some {ob with slots:=sl}:=by
 by_cases hb:b∈fs;.exact u.slot b ob q n hb hx
 .exact⟨ob.slots,u.keep b ob q n hb hx⟩
theorem Un.kept(k:∀b u,h.get? b=some u->h'.get? b=some u):Un fs ex H H h h':=⟨λb ob q _ _ _=>k b ob q,λb ob q _ _ _=>⟨ob.slots,k b ob q⟩,λ_ _ _ n _=>n,λb ob q _=>⟨ob,k b ob q⟩,λ_ _ q=>q,λ_ _ _ q=>q,λ_ ps q=>⟨#[],by rw[q];simp⟩⟩
theorem Un.refl:Un fs ex H H h h:=Un.kept λ_ _ q=>q
theorem Un.laid(k:∀b u,h.get? b=some u->h'.get? b=some u)(hp:h.objs.size<=a)(hn:H a=none):Un fs ex H (upd H a o) h h' where
 keep:=λb u q _ _ _=>k b u q;slot:=λb u q _ _ _=>⟨u.slots,k b u q⟩;free:=λb u q n _=>by rw[aD (zB7 (zB3 (zB0 q) hp))];exact n
 there:=λb u q _=>⟨u,k b u q⟩;tups:=λb xs q=>by rw[aD (aH q hn)];exact q
 frzs:=λb u xs q=>by rw[aD (aH q hn)];exact q
 tbls:=λb ps q=>⟨#[],by rw[aD (aH q hn),q];simp⟩
theorem Un.write(mu:Mut (H x))(he:e=x\/H e=some (.own x))(k:∀b u,b≠e->h.get? b=some u->h'.get? b=some u)(yb:∃u,h'.get? e=some u):Un fs ex H (upd H x o) h h':=by
 have hx:∀b,H b=none->b≠x:=λb n z=>by subst z;rw[n]at mu;exact mu
 have hb:∀b,H b=none->b≠e:=λb n z=>by
  subst z;rcases he with r|r;.exact hx b n r
  .rw[n]at r;cases r
 have hm:∀b u,H b=some u->¬Mut (some u)->b≠x:=λb u q nm z=>by subst z;rw[q]at mu;exact nm mu
 refine⟨λb u q n _ _=>k b u (hb b n) q,λb u q n _ _=>⟨u.slots,k b u (hb b n) q⟩,λb u q n _=>by rw[aD (hx b n)];exact n,λb u q _=>?_,λb xs q=>by rw[aD (hm b _ q λz=>z)];exact q,λb u xs q=>by rw[aD (hm b _ q λz=>z)];exact q,λb ps q=>⟨#[],by rw[aD (hm b _ q λz=>z),q];simp⟩⟩;by_cases AK:b=e;.subst AK;exact yb
 .exact⟨u,k b u AK q⟩
end
def trk(h:Heap)(H:Hp):Qa9:=(List.range h.objs.size).filter λa=>(H a).isSome
def pL(h:Heap)(H:Hp):Heap:=PySem.W.hideAll h (trk h H)
theorem BJ(h:Heap)(H:Hp):(pL h H).objs.size=h.objs.size:=PySem.W.hideAll_size _ _
theorem Dv(e:h.get? b=some o)(n:H b=none):(pL h H).get? b=some o:=PySem.W.hideAll_get _ e λhm=>by have q:(H b).isSome=true:=(zAq.mp hm).2;rw[n]at q;simp at q
theorem Ie(e:(pL h H).get? b=some o):h.get? b=some o/\H b=none:=by have e':h.get? b=some o:=PySem.W.of_hideAll (trk h H) e;refine⟨e',?_⟩;cases q:H b with|none=>rfl;|some x=>have hm:b∈trk h H:=zAq.mpr ⟨Za3.mpr (zB0 e'),by simp[q]⟩;have z:(pL h H).get? b=none:=PySem.W.hideAll_none (trk h H) hm;rw[z]at e;cases e
structure Mod(K:Frag)(mg:Qa0)(base:Heap):Prop where
 kin:K.In base
 glob:base.Ns mainGlobals mg
 blt:∃mb,base.Ns builtinsNs mb/\∀x:Str,x≠"__name__"->mb x=bootBuiltins x
 nolimit:base.NoLimit
structure Cx where
 prog:Program
 w:World
 K:Frag
 mg:Qa0
 base:Heap
 A:Around
 N:Qa7
 s₀:Shared
 H₀:Hp
 env:Env
 outer:List Env
 stack:List Env
 ex:Qa9
 fn:Str->Bool
 calm:Bool
 pn:Qa1
 xe:gV
def frs(l:List Env):Qa9:=l.filterMap (·.frame)
abbrev Cx.fs(X:Cx):Qa9:=frs X.outer
def Vis(sc:Scope)(x:Str):Prop:=sc.names.lookup x=some .local\/sc.names.lookup x=some .cell\/sc.names.lookup x=some .free
def Loc(sc:Scope)(x:Str):Prop:=sc.names.lookup x=some .local\/sc.names.lookup x=some .cell
def Look(env:Env)(h:Heap)(m:Qa0)(x:Str)(u:Value):Prop:=(env.kindOf x=some .local/\m x=some u)\/((env.kindOf x=some .cell\/env.kindOf x=some .free)/\∃c,env.cells.lookup x=some c/\h.IsCell c (some u))
structure Cx.Ok(X:Cx):Prop where
 mod:Mod X.K X.mg X.base
 kind:X.env.scope.kind=.function
 glob:X.env.globals=mainGlobals
 blt:X.env.builtins=builtinsNs
 above:X.s₀.heap.objs.size<=X.env.locals
 inj:∀x y c,X.env.cells.lookup x=some c->X.env.cells.lookup y=some c->x=y
 has:∀x,(X.env.kindOf x=some .cell\/X.env.kindOf x=some .free)->∃c,X.env.cells.lookup x=some c
 cab:∀x c,X.fn x=true->X.env.cells.lookup x=some c->X.s₀.heap.objs.size<=c
 hd:X.calm=true->X.A.handled=none
 frames:X.A.frames=some X.stack
 stk:X.stack=X.outer\/(X.stack=X.env::X.outer/\X.env.frame=some X.env.locals)exf:∀b∈X.ex,b≠X.env.locals/\∀x c,X.env.cells.lookup x=some c->c≠b
 bs:∀b o,X.base.get? b=some o->X.s₀.heap.get? b=some o/\X.H₀ b=none
 bsz:X.base.objs.size<=X.s₀.heap.objs.size
 noex:∀b o,X.base.get? b=some o->b∉X.ex
 exfs:∀b∈X.ex,b∉X.fs
 funs:X.s₀.heap.FunFrames X.base X.outer
 frf:∀b∈X.fs,X.H₀ b=none
structure Inv(X:Cx)(z06:Qa1)(σ:List (Option V))(H:Hp)(s:Shared):Prop where
 ok:X.Ok
 os:s.os=X.s₀.os
 bare:AllBare s.gens
 base:Un X.fs X.ex X.H₀ H X.s₀.heap s.heap
 loc:∃m,s.heap.Ns X.env.locals m/\∀(i:Nat)x v,X.N[i]?=some x->σ[i]?=some (some v)->Vis X.env.scope x->∃u,RelV v u/\Look X.env s.heap m x u
 cell:∀x c,X.env.cells.lookup x=some c->∃v,s.heap.IsCell c v
 free:H X.env.locals=none
 freeC:∀x c,X.env.cells.lookup x=some c->H c=none
 pin:∀p∈X.pn++z06,s.heap.get? p.1=some p.2/\H p.1=none/\p.1≠X.env.locals/\p.1∉X.fs/\∀v,p.2.data≠.cell v
 hok:HOk X.prog X.w H s.heap
 len:σ.length=X.N.length
section
variable{X:Cx}
theorem Cx.Ok.nofr(ok:X.Ok)(e:X.base.get? b=some o):b∉X.fs:=λhb=>by have:=(ok.funs.mem hb).1;rw[e]at this;cases this
theorem Inv.bs(I:Inv X z06 σ H s):∀b o,X.base.get? b=some o->s.heap.get? b=some o/\H b=none:=λb o e=>⟨I.base.keep b o (I.ok.bs b o e).1 (I.ok.bs b o e).2 (I.ok.nofr e) (I.ok.noex b o e),I.base.free b o (I.ok.bs b o e).1 (I.ok.bs b o e).2 (I.ok.noex b o e)⟩
theorem Inv.bk(I:Inv X z06 σ H s):∀b o,X.base.get? b=some o->s.heap.get? b=some o:=λb o e=>(I.bs b o e).1
theorem Inv.mod(I:Inv X z06 σ H s):Mod X.K X.mg X.base:=I.ok.mod
theorem Inv.kIn(I:Inv X z06 σ H s):X.K.In s.heap:=I.ok.mod.kin.keeps I.bk
theorem Inv.lt(I:Inv X z06 σ H s):X.env.locals<s.heap.objs.size:=by obtain⟨_,hn,_⟩:=I.loc;exact hn.lt
theorem Inv.sz(I:Inv X z06 σ H s):X.s₀.heap.objs.size<=s.heap.objs.size:=Zaf I.ok.above (Za7 I.lt)
theorem Inv.nofs(I:Inv X z06 σ H s){a:Addr}(h:s.heap.objs.size<=a):a∉X.fs:=λhb=>by obtain⟨_,o,ho,_⟩:=I.ok.funs.mem hb;exact absurd (zB3 (zB0 ho) (Zaf I.sz h)) (Zaj _)
theorem Inv.cne(I:Inv X z06 σ H s):∀x c,X.env.cells.lookup x=some c->c≠X.env.locals:=λx c e z=>by obtain⟨v,o,ho,hd⟩:=I.cell x c e;obtain⟨m,⟨o',es,ep,kz,SJ,_⟩,_⟩:=I.loc;rw[z,kz]at ho;cases ho;rw[SJ]at hd;cases hd
theorem Inv.funs(I:Inv X z06 σ H s):s.heap.FunFrames X.base X.outer:=by
 have all:∀(l:List Env),(∀b∈frs l,b∈X.fs)->X.s₀.heap.FunFrames X.base l->s.heap.FunFrames X.base l:=by intro l;induction l with|nil=>intro _ _;trivial;|cons env r ih=>intro hs hl;obtain⟨hk,⟨L,o,hf,hn,ho,hd⟩,hr⟩:=hl;have hL:L∈X.fs:=hs L (by unfold frs;rw[Za4,hf];exact Zan);obtain⟨sl,e⟩:=I.base.slot L o ho (I.ok.frf L hL) hL λz=>I.ok.exfs L z hL;exact⟨hk,⟨L,_,hf,hn,e,hd⟩,ih (λb hb=>hs b (by unfold frs;rw[Za4,hf];exact Zai _ hb)) hr⟩
 exact all X.outer (λ_ hb=>hb) I.ok.funs
theorem Inv.stack(I:Inv X z06 σ H s):s.heap.FunFrames X.base X.stack:=by
 rcases I.ok.stk with e|⟨e,hf⟩;.rw[e];exact I.funs
 .rw[e];obtain⟨m,hn,_⟩:=I.loc;refine .cons (by rw[I.ok.kind];decide) hf hn ?_ I.funs;exact Heap.get?_none_of_le (Zaf I.ok.bsz I.ok.above)
theorem Inv.stkSub(I:Inv X z06 σ H s):∀b∈frs X.stack,b∈X.env.locals::X.fs:=λb hb=>by
 rcases I.ok.stk with e|⟨e,hf⟩;.rw[e]at hb;exact Zai _ hb
 .rw[e]at hb;unfold frs at hb;rw[Za4,hf]at hb;exact hb
theorem Inv.stkFree(I:Inv X z06 σ H s):∀b∈frs X.stack,H b=none:=λb hb=>by
 rcases zAo.mp (I.stkSub b hb)with e|hb;.rw[e];exact I.free
 .obtain⟨_,o,ho,_⟩:=I.ok.funs.mem hb;exact I.base.free b o ho (I.ok.frf b hb) λz=>I.ok.exfs b z hb
theorem Inv.step{ch:Qa9}(I:Inv X z06 σ H s)(mT:∀b∈ch,(b∈X.ex\/X.s₀.heap.objs.size<=b)/\b≠X.env.locals/\(∀x c,X.env.cells.lookup x=some c->c≠b)/\∀p∈X.pn++z06,p.1≠b)(keep:∀b o,b≠X.env.locals->b∉X.fs->b∉ch->s.heap.get? b=some o->H b=none->h'.get? b=some o)(slot:∀b o,b≠X.env.locals->b∈X.fs->b∉ch->s.heap.get? b=some o->H b=none->∃sl,h'.get? b=some {o with slots:=sl})(free:∀b o,b∉ch->s.heap.get? b=some o->H b=none->H' b=none)(there:∀b o,b∉ch->s.heap.get? b=some o->∃o',h'.get? b=some o')(tups:∀b xs,H b=some (.tup xs)->H' b=some (.tup xs))(frzs:∀b o u,H b=some (.frz o u)->H' b=some (.frz o u))(tbls:∀b ps,H b=some (.tbl ps)->∃more,H' b=some (.tbl (ps++more)))(ns:∀m,s.heap.Ns X.env.locals m->h'.Ns X.env.locals m)(hok:HOk X.prog X.w H' h')(hg:AllBare g'):Inv X z06 σ H' {s with heap:=h',gens:=g',drawn:=d',toks:=t'}:=by
 have Ee:∀b o,X.s₀.heap.get? b=some o->b≠X.env.locals:=λb o e=>zB7 (zB3 (zB0 e) I.ok.above);have EA:∀b o,X.s₀.heap.get? b=some o->b∉X.ex->b∉ch:=λb o e hx hb=>by
  rcases(mT b hb).1 with z|z;.exact hx z
  .exact absurd (zB3 (zB0 e) z) (Zaj _)
 have cellK:∀x c,X.env.cells.lookup x=some c->∀v,s.heap.IsCell c v->h'.IsCell c v:=λx c e v hZ=>by
  obtain⟨o,ho,hd⟩:=hZ;have AL:c∉ch:=λz=>(mT c z).2.2.1 x c e rfl;by_cases hc:c∈X.fs;.obtain⟨sl,q⟩:=slot c o (I.cne x c e) hc AL ho (I.freeC x c e);exact⟨_,q,hd⟩
  .exact⟨o,keep c o (I.cne x c e) hc AL ho (I.freeC x c e),hd⟩
 refine⟨I.ok,I.os,hg,⟨λb o e n hb hx=>?_,λb o e n hb hx=>?_,λb o e n hx=>?_,λb o e hx=>?_,λb xs e=>tups b xs (I.base.tups b xs e),λb o xs e=>frzs b o xs (I.base.frzs b o xs e),λb ps e=>?_⟩,?_,λx c e=>?_,?_,λx c e=>?_,λp hp=>?_,hok,I.len⟩;.exact keep b o (Ee b o e) hb (EA b o e hx) (I.base.keep b o e n hb hx) (I.base.free b o e n hx)
 .obtain⟨sl,e1⟩:=I.base.slot b o e n hb hx;obtain⟨EB,e2⟩:=slot b _ (Ee b o e) hb (EA b o e hx) e1 (I.base.free b o e n hx);exact⟨EB,e2⟩
 .obtain⟨o',e1⟩:=I.base.there b o e hx;exact free b o' (EA b o e hx) e1 (I.base.free b o e n hx)
 .obtain⟨o',e1⟩:=I.base.there b o e hx;exact there b o' (EA b o e hx) e1
 .obtain⟨m1,e1⟩:=I.base.tbls b ps e;obtain⟨m2,e2⟩:=tbls b _ e1;exact⟨m1++m2,by rw[e2,Array.append_assoc]⟩
 .obtain⟨m,hn,hl⟩:=I.loc;refine⟨m,ns m hn,λi x v e1 e2 e3=>?_⟩;obtain⟨u,r,l⟩:=hl i x v e1 e2 e3;refine⟨u,r,?_⟩;rcases l with l|⟨k,c,e,z⟩;.exact .inl l
  .exact .inr ⟨k,c,e,cellK x c e _ z⟩
 .obtain⟨v,z⟩:=I.cell x c e;exact⟨v,cellK x c e v z⟩
 .obtain⟨m,⟨o,_,_,ho,_⟩,_⟩:=I.loc;exact free _ o (λz=>(mT _ z).2.1 rfl) ho I.free
 .obtain⟨v,o,ho,hd⟩:=I.cell x c e;exact free c o (λz=>(mT c z).2.2.1 x c e rfl) ho (I.freeC x c e)
 .obtain⟨e,n,ne,nf,d⟩:=I.pin p hp;have AL:p.1∉ch:=λz=>(mT p.1 z).2.2.2 p hp rfl;exact⟨keep p.1 p.2 ne nf AL e n,free p.1 p.2 AL e n,ne,nf,d⟩
theorem Inv.un(I:Inv X z06 σ H s)(u:Un X.fs [] H H' s.heap h')(hok:HOk X.prog X.w H' h'):Inv X z06 σ H' {s with heap:=h',toks:=t'}:=by obtain⟨m,⟨o,es,ep,ho,r⟩,_⟩:=id I.loc;obtain⟨sl,hL⟩:=u.any ho I.free z01;exact I.step (g':=s.gens) (d':=s.drawn) (ch:=[]) (λ_ z=>nomatch z) (λb o _ hb _ e n=>u.keep b o e n hb z01) (λb o _ hb _ e n=>u.slot b o e n hb z01) (λb o _ e n=>u.free b o e n z01) (λb o _ e=>u.there b o e z01) u.tups u.frzs u.tbls (λm' hm=>by obtain⟨o',iA,AM,kz,r'⟩:=hm;rw[ho]at kz;cases kz;exact⟨_,iA,AM,hL,r'⟩) hok I.bare
theorem Inv.call(I:Inv X z06 σ H s)(u:Un (frs X.stack) ch H H' s.heap h')(hok:HOk X.prog X.w H' h')(hg:AllBare g')(mT:∀b∈ch,(b∈X.ex\/X.s₀.heap.objs.size<=b)/\b≠X.env.locals/\(∀x c,X.env.cells.lookup x=some c->c≠b)/\∀p∈X.pn++z06,p.1≠b):Inv X z06 σ H' {s with heap:=h',gens:=g',drawn:=d',toks:=t'}:=by obtain⟨m,⟨o,es,ep,ho,r⟩,_⟩:=id I.loc;obtain⟨sl,hL⟩:=u.any ho I.free λz=>(mT _ z).2.1 rfl;exact I.step (ch:=ch) mT (λb o hL hb hc e n=>u.keep b o e n (λz=>(zAo.mp (I.stkSub b z)).elim hL hb) hc) (λb o _ _ hc e n=>u.any e n hc) (λb o hc e n=>u.free b o e n hc) (λb o hc e=>u.there b o e hc) u.tups u.frzs u.tbls (λm' hm=>by obtain⟨o',iA,AM,kz,r'⟩:=hm;rw[ho]at kz;cases kz;exact⟨_,iA,AM,hL,r'⟩) hok hg
theorem Inv.turned(I:Inv X z06 σ H s)(k:∀b o,b≠it->s.heap.get? b=some o->h'.get? b=some o)(hn:H it=none)(hL:it≠X.env.locals)(h1:it∈X.ex\/X.s₀.heap.objs.size<=it)(h2:∀x c,X.env.cells.lookup x=some c->c≠it)(h3:∀p∈X.pn++z06,p.1≠it):Inv X z06 σ H {s with heap:=h',toks:=t'}:=by
 have MQ:∀b u,H b=some u->b≠it:=λb u e z=>by rw[z,hn]at e;cases e
 refine I.step (g':=s.gens) (d':=s.drawn) (ch:=[it]) (λb hb=>?_) (λb o _ _ hc e _=>k b o (λz=>hc (by simp[z])) e) (λb o _ _ hc e _=>⟨o.slots,k b o (λz=>hc (by simp[z])) e⟩) (λ_ _ _ _ n=>n) (λb o hc e=>⟨o,k b o (λz=>hc (by simp[z])) e⟩) (λ_ _ e=>e) (λ_ _ _ e=>e) (λb ps e=>⟨#[],by rw[e];simp⟩) (λm hm=>?_) (λb u e=>?_) I.bare
 .have e:b=it:=by simpa using hb
  subst e;exact⟨h1,hL,h2,h3⟩
 .obtain⟨o,es,ep,ho,r⟩:=hm;exact⟨o,es,ep,k _ o (Ne.symm hL) ho,r⟩
 .refine(I.hok b u e).stay (λc v hc q=>k c v ?_ q) (λ_ q=>q) λ_ _ q=>q;rcases hc with z|z;.rw[z];exact MQ b u e
  .exact MQ c _ z
theorem Inv.tok(I:Inv X z06 σ H s)(t:Nat):Inv X z06 σ H {s with toks:=t}:=I.un (h':=s.heap) (t':=t) Un.refl I.hok
theorem Inv.kept(I:Inv X z06 σ H s)(k:∀b u,s.heap.get? b=some u->h'.get? b=some u):Inv X z06 σ H {s with heap:=h',toks:=t'}:=I.un (Un.kept k) (I.hok.kept k)
theorem Inv.laid{a:Addr}(I:Inv X z06 σ H s)(k:∀b u,s.heap.get? b=some u->h'.get? b=some u)(hp:s.heap.objs.size<=a)(new:ObjOk X.prog X.w (upd H a o) h' a o):Inv X z06 σ (upd H a o) {s with heap:=h',toks:=t'}:=I.un (Un.laid k hp (I.hok.fresh hp)) (I.hok.laid k hp new)
theorem Inv.write(I:Inv X z06 σ H s)(mu:Mut (H x))(he:e=x\/H e=some (.own x))(k:∀b u,b≠e->s.heap.get? b=some u->h'.get? b=some u)(yb:∃u,h'.get? e=some u)(new:ObjOk X.prog X.w (upd H x o) h' x o):Inv X z06 σ (upd H x o) {s with heap:=h',toks:=t'}:=I.un (Un.write mu he k yb) (I.hok.write mu he k yb new)
theorem Inv.pins_of(I:Inv X z06 σ H s)(h:∀p∈gN,s.heap.get? p.1=some p.2/\H p.1=none/\p.1≠X.env.locals/\p.1∉X.fs/\∀v,p.2.data≠.cell v):Inv X gN σ H s:=⟨I.ok,I.os,I.bare,I.base,I.loc,I.cell,I.free,I.freeC,λp hp=>(zA6.mp hp).elim (λz=>I.pin p (Zas _ z)) (h p),I.hok,I.len⟩
theorem vK{N:Qa7}(hN:N.Nodup){i j:Nat}(a:N[i]?=some x)(b:N[j]?=some x):i=j:=by obtain⟨h1,e1⟩:=zAa.mp a;obtain⟨h2,e2⟩:=zAa.mp b;exact(List.getElem_inj hN).mp (e1.trans e2.symm)
theorem jK(I:Inv X z06 σ H s)(hN:X.N.Nodup)(hi:X.N[i]?=some x)(hx:Loc X.env.scope x)(r:RelV v u)(h:∀s',Inv X z06 (σ.set i (some v)) H s'->(∃a,Heap.SameBut a s.heap s'.heap/\(a=X.env.locals\/X.env.cells.lookup x=some a))->Q () s')(hf:X.fn x=true\/X.env.scope.names.lookup x=some .local:=by first|exact .inl rfl|exact .inr rfl|assumption):wpAny M A (storeName X.env x u) Q E s:=by
 obtain⟨m,hn,hl⟩:=id I.loc;have FX:(X.env.scope.kind==.class||(X.env.scope.kind==.module&&X.env.locals !=X.env.globals))=false:=by rw[I.ok.kind];rfl
 have AN:i<σ.length:=by rw[I.len];exact(zAa.mp hi).1
 have cne:=I.cne;have tracked:∀{a:Addr}{h':Heap},(∃o,s.heap.get? a=some o/\H a=none)->Heap.SameBut a s.heap h'->HOk X.prog X.w H h':=λ{a h'}ha hs b ob e=>by
  obtain⟨_,_,hfree⟩:=ha;refine(I.hok b ob e).stay (λc w' hc q=>(hs.2 c ?_).trans q) (λ_ q=>q) λ_ _ q=>q;rintro rfl;rcases hc with rfl|hc;.rw[hfree]at e;cases e
  .rw[hfree]at hc;cases hc
 rcases hx with hk|hk
 .refine wpAny_storeName_local hk hn (λh' FY hs=>?_) FX;obtain⟨oL,_,_,SK,_⟩:=id hn;refine h _ ⟨I.ok,I.os,I.bare,⟨λb o e n hb hx=>?_,λb o e n hb hx=>?_,I.base.free,λb o e hx=>?_,I.base.tups,I.base.frzs,I.base.tbls⟩,⟨_,FY,λj y v' e1 e2 e3=>?_⟩,λy c e=>?_,I.free,I.freeC,λp hp=>?_,tracked ⟨oL,SK,I.free⟩ hs,by simpa using I.len⟩ ⟨_,hs,.inl rfl⟩;.exact(hs.2 b (zB7 (zB3 (zB0 e) I.ok.above))).trans (I.base.keep b o e n hb hx)
  .obtain⟨sl,e1⟩:=I.base.slot b o e n hb hx;exact⟨sl,(hs.2 b (zB7 (zB3 (zB0 e) I.ok.above))).trans e1⟩
  .obtain⟨o',e1⟩:=I.base.there b o e hx;exact⟨o',(hs.2 b (zB7 (zB3 (zB0 e) I.ok.above))).trans e1⟩
  .by_cases hj:j=i;.subst hj;rw[hi]at e1;cases e1;rw[Za0 AN]at e2;cases e2;exact⟨u,r,.inl ⟨hk,by simp⟩⟩
   .rw[List.getElem?_set_ne (Ne.symm hj)]at e2;obtain⟨u',r',q⟩:=hl j y v' e1 e2 e3;refine⟨u',r',?_⟩;rcases q with⟨k,e⟩|⟨k,c,e,z⟩;.refine .inl ⟨k,?_⟩;have:y≠x:=λe=>hj (vK hN e1 (e▸hi));simp[this,e]
    .exact .inr ⟨k,c,e,z.sameBut hs (cne y c e)⟩
  .obtain⟨w',z⟩:=I.cell y c e;exact⟨w',z.sameBut hs (cne y c e)⟩
  .obtain⟨e,n,ne,nf,d⟩:=I.pin p hp;exact⟨(hs.2 p.1 ne).trans e,n,ne,nf,d⟩
 .have nE:X.fn x=true:=by
   rcases hf with z|z;.exact z
   .rw[z]at hk;cases hk
  obtain⟨c,hc⟩:=I.ok.has x (.inl hk);obtain⟨w',z⟩:=I.cell x c hc;refine wpAny_storeName_cell I.ok.kind hk hc z (λh' bg hs=>?_);obtain⟨oc,EC,F0⟩:=id z;refine h {s with heap:=h'} ⟨I.ok,I.os,I.bare,⟨λb o e n hb hx=>?_,λb o e n hb hx=>?_,I.base.free,λb o e hx=>?_,I.base.tups,I.base.frzs,I.base.tbls⟩,⟨m,hn.sameBut hs (Ne.symm (cne x c hc)),λj y v' e1 e2 e3=>?_⟩,λy c' e=>?_,I.free,I.freeC,λp hp=>?_,tracked ⟨oc,EC,I.freeC x c hc⟩ hs,by simpa using I.len⟩ ⟨c,hs,.inr hc⟩;.exact(hs.2 b (zB7 (zB3 (zB0 e) (I.ok.cab x c nE hc)))).trans (I.base.keep b o e n hb hx)
  .obtain⟨sl,e1⟩:=I.base.slot b o e n hb hx;exact⟨sl,(hs.2 b (zB7 (zB3 (zB0 e) (I.ok.cab x c nE hc)))).trans e1⟩
  .obtain⟨o',e1⟩:=I.base.there b o e hx;exact⟨o',(hs.2 b (zB7 (zB3 (zB0 e) (I.ok.cab x c nE hc)))).trans e1⟩
  .by_cases hj:j=i;.subst hj;rw[hi]at e1;cases e1;rw[Za0 AN]at e2;cases e2;exact⟨u,r,.inr ⟨.inl hk,c,hc,bg⟩⟩
   .rw[List.getElem?_set_ne (Ne.symm hj)]at e2;obtain⟨u',r',q⟩:=hl j y v' e1 e2 e3;refine⟨u',r',?_⟩;rcases q with q|⟨k,c',e,z'⟩;.exact .inl q
    .refine .inr ⟨k,c',e,z'.sameBut hs ?_⟩;rintro rfl;exact hj (vK hN e1 (I.ok.inj _ _ _ e hc▸hi))
  .by_cases MR:c'=c;.subst MR;exact⟨_,bg⟩
   .obtain⟨w2,z2⟩:=I.cell y c' e;exact⟨w2,z2.sameBut hs MR⟩
  .obtain⟨e,n,ne,nf,d⟩:=I.pin p hp;refine⟨(hs.2 p.1 ?_).trans e,n,ne,nf,d⟩;intro q;rw[q,EC]at e;have q':oc=p.2:=zAl e;exact d w' (by rw[<-q'];exact F0)
theorem gh(I:Inv X z06 σ H s)(hN:X.N.Nodup)(hi:X.N[i]?=some x)(hx:Loc X.env.scope x)(r:RelV v u)(h:∀s',Inv X z06 (σ.set i (some v)) H s'->Q () s')(hf:X.fn x=true\/X.env.scope.names.lookup x=some .local:=by first|exact .inl rfl|exact .inr rfl|assumption):wpAny M A (storeName X.env x u) Q E s:=jK I hN hi hx r (λs' I' _=>h s' I') hf
theorem Inv.call'(I:Inv X z06 σ H s)(ho:s'.os=s.os)(u:Un (frs X.stack) ch H H' s.heap s'.heap)(hok:HOk X.prog X.w H' s'.heap)(hg:AllBare s'.gens)(mT:∀b∈ch,(b∈X.ex\/X.s₀.heap.objs.size<=b)/\b≠X.env.locals/\(∀x c,X.env.cells.lookup x=some c->c≠b)/\∀p∈X.pn++z06,p.1≠b):Inv X z06 σ H' s':=by obtain⟨h',g',d',t',o'⟩:=s';have e:o'=s.os:=ho;subst e;exact I.call (g':=g') (t':=t') (d':=d') u hok hg mT
end
abbrev XK:=Value->Option Addr->Hp->Prop
abbrev St:=List (Option V)
abbrev VK:=V->Hp->Prop
abbrev TE:=St->Hp->VK->Prop
abbrev TT:=St->Hp->(Bool->Hp->Prop)->Prop
abbrev TA:=St->Hp->(List V->Hp->Prop)->Prop
structure Ends where
 nx:St->Hp->Prop
 rt:VK
 bk:St->Hp->Prop:=λ_ _=>False
 ct:St->Hp->Prop:=λ_ _=>False
abbrev TS:=Ends->St->Hp->Prop
def EP(X:Cx)(z06:Qa1)(σ:St)(Q:VK)(u:Value)(s':Shared):Prop:=∃v H',Inv X z06 σ H' s'/\RelV v u/\Q v H'
def TP(X:Cx)(z06:Qa1)(σ:St)(Q:Bool->Hp->Prop)(b:Bool)(s':Shared):Prop:=∃H',Inv X z06 σ H' s'/\Q b H'
def AP(X:Cx)(z06:Qa1)(σ:St)(Q:List V->Hp->Prop)(us:Qa4)(s':Shared):Prop:=∃vs H',Inv X z06 σ H' s'/\Vals vs us/\Q vs H'
def SP(X:Cx)(z06:Qa1)(D:Ends)(f:Flow)(s':Shared):Prop:=match f with|.next=>∃ar H',Inv X z06 ar H' s'/\D.nx ar H'|.brk=>∃ar H',Inv X z06 ar H' s'/\D.bk ar H'|.cont=>∃ar H',Inv X z06 ar H' s'/\D.ct ar H'|.ret u=>∃v ar H',Inv X z06 ar H' s'/\RelV v u/\D.rt v H'
def PE(X:Cx)(e:Expr)(t:TE):Prop:=∀z06 s(σ:St)H Q,Inv X z06 σ H s->t σ H Q->wpAny (model X.prog X.w) X.A (eval e X.env) (EP X z06 σ Q) X.xe s
def PT(X:Cx)(e:Expr)(t:TT):Prop:=∀z06 s(σ:St)H Q,Inv X z06 σ H s->t σ H Q->wpAny (model X.prog X.w) X.A (isTrue e X.env (eval e X.env)) (TP X z06 σ Q) X.xe s
def PW(X:Cx)(e:Expr)(t:TT):Prop:=∀whole z06 s(σ:St)H Q,Inv X z06 σ H s->t σ H Q->wpAny (model X.prog X.w) X.A (isTrue e X.env whole) (TP X z06 σ Q) X.xe s
theorem PW.pt(h:PW X e t):PT X e t:=h _
def PA(X:Cx)(es:Qa6)(t:TA):Prop:=∀pos z06 s(σ:St)H Q,Inv X z06 σ H s->t σ H Q->wpAny (model X.prog X.w) X.A (spliced (backTo pos (starEach es X.env))) (AP X z06 σ Q) X.xe s
def PS(X:Cx)(st:Stmt)(t:TS):Prop:=∀z06 s(σ:St)H D,Inv X z06 σ H s->t D σ H->wpAny (model X.prog X.w) X.A (exec st X.env) (SP X z06 D) X.xe s
def PSs(X:Cx)(st:List Stmt)(t:TS):Prop:=∀z06 s(σ:St)H D,Inv X z06 σ H s->t D σ H->wpAny (model X.prog X.w) X.A (execs st X.env) (SP X z06 D) X.xe s
theorem thn{Q Q':α->Shared->Prop}(h:wpAny M A t Q E s)(hQ:∀a s,Q a s->Q' a s):wpAny M A t Q' E s:=wpAny_mono h hQ λ_ _ x=>x
section
variable{X:Cx}
theorem bin(ha:PE X a ta)(hb:PE X b tb){σ:St}{R:V->V->Hp->Prop}(I:Inv X z06 σ H s)(h:ta σ H λx H1=>tb σ H1 λy H2=>R x y H2){α:Type}{Q:α->Shared->Prop}{f:Value->Value->Sem α}(hf:∀v u s2 x y H2,Inv X z06 σ H2 s2->RelV x v->RelV y u->R x y H2->wpAny (model X.prog X.w) X.A (f v u) Q X.xe s2):wpAny (model X.prog X.w) X.A (eval a X.env) (λv s₁=>wpAny (model X.prog X.w) X.A (eval b X.env) (λu s₂=>wpAny (model X.prog X.w) X.A (f v u) Q X.xe s₂) X.xe s₁) X.xe s:=by refine thn (ha z06 s σ H _ I h) λv s1=>?_;rintro⟨x,H1,I1,r1,q1⟩;refine thn (hb z06 s1 σ H1 _ I1 q1) λu s2=>?_;rintro⟨y,H2,I2,r2,q2⟩;exact hf v u s2 x y H2 I2 r1 r2 q2
inductive TVarI(i:Nat)(σ:St)(H:Hp)(Q:VK):Prop|mk:∀v,(σ[i]?=some (some v))->(Q v H)->TVarI i σ H Q
def oX(i:Nat):TE:=λσ H Q=>TVarI i σ H Q
def tC(v:V):TE:=λ_ H Q=>Q v H
abbrev Qad(x:Str):Prop:=(x==("__debug__":Str))=false
theorem ye{pos:Pos}(hN:X.N[i]?=some x)(hv:Vis X.env.scope x)(hd:Qad x:=by decide)(ff:(x==("__classdict__":Str))=false:=by decide):PE X (.Name x pos) (oX i):=by
 intro z06 s σ H Q I h;obtain⟨v,e,h⟩:=h;obtain⟨m,hn,hl⟩:=I.loc;obtain⟨u,r,l⟩:=hl i x v hN e hv;have fin:EP X z06 σ Q u s:=⟨v,H,I,r,h⟩;rcases l with⟨hk,hm⟩|⟨hk,c,hc,hcell⟩;.exact wpAny_Name (wpAny_loadName_local I.ok.kind hk hn hm fin) hd
 .rcases hk with hk|hk;.exact wpAny_Name (wpAny_loadName_cell I.ok.kind hk hc hcell fin) hd
  .exact wpAny_Name (wpAny_loadName_free I.ok.kind hk hc hcell fin ff) hd
theorem aB{i j pos}:PE X (.Constant (.int i) j pos) (tC (.int i)):=λ_ _ _ H _ I h=>wpAny_Constant_int ⟨.int i,H,I.tok _,⟨_,rfl⟩,h⟩
theorem gj{b j pos}:PE X (.Constant (.bool b) j pos) (tC (.bl b)):=λ_ _ _ H _ I h=>Constant_bool ⟨.bl b,H,I,rfl,h⟩
theorem iw{j pos}:PE X (.Constant .none j pos) (tC .non):=λ_ _ _ H _ I h=>Constant_none ⟨.non,H,I,rfl,h⟩
theorem pM{x j pos}:PE X (.Constant (.str x) j pos) (tC (.str x)):=λ_ _ _ H _ I h=>Calls.Constant_str ⟨.str x,H,I.tok _,⟨_,rfl⟩,h⟩
def Gl(X:Cx)(x:Str):Prop:=X.env.kindOf x=some .globalImplicit
theorem jL{σ:St}(I:Inv X z06 σ H s)(hg:Gl X x)(hm:X.mg x=some u)(h:Q u s)(hd:Qad x:=by decide):wpAny (model X.prog X.w) X.A (eval (.Name x pos) X.env) Q E s:=Calls.Name_function_global I.ok.kind hg (Calls.loadGlobal_global (by rw[I.ok.glob];exact I.mod.glob.keeps I.bk) hm h) hd
theorem iy{E:gV}{σ:St}{u:Value}{pos:Pos}{Q:gV}(I:Inv X z06 σ H s)(hg:Gl X x)(hm:X.mg x=none)(hv:bootBuiltins x=some u)(h:Q u s)(hn:x≠"__name__":=by decide)(hd:Qad x:=by decide):wpAny (model X.prog X.w) X.A (eval (.Name x pos) X.env) Q E s:=by obtain⟨mb,h1,h2⟩:=I.mod.blt;exact Calls.Name_function_global I.ok.kind hg (Calls.loadGlobal_builtin (by rw[I.ok.glob];exact I.mod.glob.keeps I.bk) hm (by rw[I.ok.blt];exact h1.keeps I.bk) ((h2 x hn).trans hv) h) hd
theorem bM(hg:Gl X x)(hm:X.mg x=some u)(r:RelV v u)(hd:Qad x:=by decide):PE X (.Name x pos) (tC v):=λ_ _ _ H _ I h=>jL I hg hm ⟨v,H,I,r,h⟩ hd
theorem dB{pos:Pos}(hg:Gl X x)(hm:X.mg x=none)(hv:bootBuiltins x=some u)(r:RelV v u)(hn:x≠"__name__":=by decide)(hd:Qad x:=by decide):PE X (.Name x pos) (tC v):=λ_ _ _ H _ I h=>iy I hg hm hv ⟨v,H,I,r,h⟩ hn hd
def PC(X:Cx)(op:CmpOp)(a b:Expr)(t:TE):Prop:=∀z06 s(σ:St)H Q,Inv X z06 σ H s->t σ H Q->wpAny (model X.prog X.w) X.A (eval a X.env) (λv s₁=>wpAny (model X.prog X.w) X.A (eval b X.env) (λu s₂=>wpAny (model X.prog X.w) X.A (compareOp op v u) (EP X z06 σ Q) X.xe s₂) X.xe s₁) X.xe s
def tB(t:TE):TT:=λσ H Q=>t σ H λx H1=>∃c,x=.bl c/\Q c H1
theorem Qg(h:PC X op a b t)(h1:behindInMarks op b=false:=by first|exact nobehind _ z02 z02|rfl):PT X (.Compare a [op] [b] pos) (tB t):=by intro z06 s σ H Q I hw;refine wpAny_isTrue_Compare1 (thn (h z06 s σ H _ I hw) λv s1 h1=>thn h1 λu s2 h2=>thn h2 λc s3=>?_) h1;rintro⟨x,H1,I1,r1,q1⟩;obtain⟨d,rfl,q⟩:=q1;cases r1;exact wpAny_truthy_bool ⟨H1,I1,q⟩
theorem bY(h:PE X e t)(he:∀whole,isTrue e X.env whole=(do let v<-whole;standAt e.pos;holding [v] (truthy v)):=by intro _;rfl):PT X e (tB t):=by intro z06 s σ H Q I hw;refine isTrue_plain (thn (h z06 s σ H _ I hw) λv s1=>?_) (he _);rintro⟨x,H1,I1,r1,q1⟩;obtain⟨d,rfl,q⟩:=q1;cases r1;exact wpAny_truthy_bool ⟨H1,I1,q⟩
def Nq(t u:TT):TT:=λσ H Q=>t σ H λc H1=>if c=true then u σ H1 Q else Q false H1
def tOr(t u:TT):TT:=λσ H Q=>t σ H λc H1=>if c=true then Q true H1 else u σ H1 Q
def Nr(t:TT):TT:=λσ H Q=>t σ H λc H1=>Q (!c) H1
theorem ul(ha:PT X a tA):PW X (.BoolOp .And [a] pos) tA:=by intro wh z06 s σ H Q I h;refine isTrue_and (thn (ha z06 s σ H Q I h) λc s1 e=>?_);cases c with|true=>exact isTrue_and_nil e;|false=>exact e
theorem gC(ha:PT X a tA):PW X (.BoolOp .Or [a] pos) tA:=by intro wh z06 s σ H Q I h;refine isTrue_or (thn (ha z06 s σ H Q I h) λc s1 e=>?_);cases c with|false=>exact isTrue_or_nil e;|true=>exact e
theorem yf(ha:PT X a tA)(hb:PW X (.BoolOp .And (b::rest) pos) ED):PW X (.BoolOp .And (a::b::rest) pos) (Nq tA ED):=by intro wh z06 s σ H Q I h;refine isTrue_and (thn (ha z06 s σ H _ I h) λc s1=>?_);rintro⟨H1,I1,q1⟩;cases c with|true=>exact hb wh z06 s1 σ H1 Q I1 q1;|false=>exact⟨H1,I1,q1⟩
theorem gG(ha:PT X a tA)(hb:PW X (.BoolOp .Or (b::rest) pos) ED):PW X (.BoolOp .Or (a::b::rest) pos) (tOr tA ED):=by intro wh z06 s σ H Q I h;refine isTrue_or (thn (ha z06 s σ H _ I h) λc s1=>?_);rintro⟨H1,I1,q1⟩;cases c with|true=>exact⟨H1,I1,q1⟩;|false=>exact hb wh z06 s1 σ H1 Q I1 q1
theorem bH(ha:PT X a tA):PT X (.UnaryOp .Not a pos) (Nr tA):=by intro z06 s σ H Q I h;exact isTrue_not (ha z06 s σ H (λc H1=>Q (!c) H1) I h)
def Kf(ta tb:TE):TE:=λσ H Q=>ta σ H λx H1=>∃c,x=.bl c/\if c=true then tb σ H1 Q else Q (.bl false) H1
def Nt(ta:TE):TE:=λσ H Q=>ta σ H λx H1=>∃c,x=.bl c/\Q (.bl (!c)) H1
theorem dW{op}(h:PE X a t):PE X (.BoolOp op [a] pos) t:=λz06 s σ H Q I hw=>BoolOp_one (h z06 s σ H Q I hw)
theorem cC(ha:PE X a ta)(hb:PE X (.BoolOp .And (b::rest) pos) tb):PE X (.BoolOp .And (a::b::rest) pos) (Kf ta tb):=by intro z06 s σ H Q I h;refine BoolOp_and (thn (ha z06 s σ H _ I h) λv s1=>?_);rintro⟨x,H1,I1,r1,q1⟩;obtain⟨c,rfl,q1⟩:=q1;cases r1;refine wpAny_truthy_bool ?_;cases c with|true=>exact hb z06 s1 σ H1 Q I1 q1;|false=>exact⟨.bl false,H1,I1,rfl,q1⟩
theorem Dw(ha:PE X a ta):PE X (.UnaryOp .Not a pos) (Nt ta):=by intro z06 s σ H Q I h;refine UnaryOp_ (thn (ha z06 s σ H _ I h) λv s1=>?_);rintro⟨x,H1,I1,r1,q1⟩;obtain⟨c,rfl,q1⟩:=q1;cases r1;exact not_of (wpAny_truthy_bool ⟨.bl (!c),H1,I1,rfl,q1⟩)
def tIf(t:TT)(ta tb:TE):TE:=λσ H Q=>t σ H λc H1=>if c=true then ta σ H1 Q else tb σ H1 Q
theorem pN(hc:PT X c tA)(ha:PE X a ta)(hb:PE X b tb):PE X (.IfExp c a b pos) (tIf tA ta tb):=by intro z06 s σ H Q I h;refine wpAny_IfExp (thn (hc z06 s σ H _ I h) λd s1=>?_);rintro⟨H1,I1,q1⟩;cases d with|true=>exact ha z06 s1 σ H1 Q I1 q1;|false=>exact hb z06 s1 σ H1 Q I1 q1
end
def SqL(K:Frag)(H:Hp)(a:Addr)(xs:List V):Prop:=Rd H a (.lst xs)\/∃o z08 n,K.lookup a=some o/\o.cls=.type "list"/\o.dict=none/\o.data=.seq z08 n/\z08.size<=sizeLine/\Vals xs z08.toList
def SqT(K:Frag)(H:Hp)(a:Addr)(xs:List V):Prop:=Rd H a (.tup xs)\/∃o z08 n,K.lookup a=some o/\o.cls=.type "tuple"/\o.data=.seq z08 n/\z08.size<=sizeLine/\Vals xs z08.toList
def Qh:Value->Option V|.none=>some .non|.bool b=>some (.bl b)|.int i _=>some (.int i)|.str x _=>some (.str x)|.bytes b _=>some (.byt b)|.float b _=>some (.flt b)|.ref a=>some (.ref a)|.type n=>some (.ty n)|_=>none
theorem RelV.abs(r:RelV x u):Qh u=some x:=by cases x with|non=>cases r;rfl;|bl _=>cases r;rfl;|int _=>obtain⟨t,rfl⟩:=r;rfl;|str _=>obtain⟨t,rfl⟩:=r;rfl;|byt _=>obtain⟨t,rfl⟩:=r;rfl;|flt _=>obtain⟨t,rfl⟩:=r;rfl;|ref _=>cases r;rfl;|ty _=>cases r;rfl
theorem RelV.inj(r:RelV x u)(q:RelV y u):x=y:=zAl (r.abs.symm.trans q.abs)
theorem Vals.inj:∀{xs ys:List V}{us:Qa4},Vals xs us->Vals ys us->xs=ys|_,_,_,.nil,.nil=>rfl|_,_,_,.cons r t,.cons r' t'=>by rw[r.inj r',Vals.inj t t']
section
variable{σ:St}
theorem SqL.of{K:Frag}(h:H a=some (.lst xs)):SqL K H a xs:=.inl (.inl h)
theorem SqT.of{K:Frag}(h:H a=some (.tup xs)):SqT K H a xs:=.inl (.inl h)
theorem Inv.list(I:Inv X z06 σ H s)(h:SqL X.K H a xs):∃z08:Qa4,Vals xs z08/\PlainL s.heap a z08.toArray/\xs.length<=sizeLine:=by
 rcases h with h|⟨o,z08,n,hk,hc,hd,hs,hz,r⟩;.obtain⟨z,z08,n,r,e⟩:=h.ok I.hok;exact⟨z08,r,⟨_,n,e,rfl,rfl,rfl⟩,z⟩
 .refine⟨z08.toList,r,⟨o,n,I.kIn a o hk,hc,hd,by simpa using hs⟩,?_⟩;have e:=r.length;simp only[Array.length_toList]at e;lia
theorem Inv.tuple(I:Inv X z06 σ H s)(h:SqT X.K H a xs):∃z08:Qa4,Vals xs z08/\IsTup s.heap a z08.toArray/\xs.length<=sizeLine:=by
 rcases h with h|⟨o,z08,n,hk,hc,hs,hz,r⟩;.obtain⟨z,z08,r,p⟩:=h.ok I.hok;exact⟨z08,r,p,z⟩
 .refine⟨z08.toList,r,⟨o,I.kIn a o hk,hc,n,by simpa using hs⟩,?_⟩;have e:=r.length;simp only[Array.length_toList]at e;lia
theorem Inv.list_inj(I:Inv X z06 σ H s)(h:SqL X.K H a xs)(h':SqL X.K H a ys):xs=ys:=by
 obtain⟨z08,r,⟨o,n,e,_,_,d⟩,_⟩:=I.list h;obtain⟨its',r',⟨o',n',e',_,_,d'⟩,_⟩:=I.list h';rw[e]at e';cases e';rw[d]at d';injection d' with d1 _;have:z08=its':=by simpa using congrArg Array.toList d1
 subst this;exact r.inj r'
theorem Inv.tuple_inj(I:Inv X z06 σ H s)(h:SqT X.K H a xs)(h':SqT X.K H a ys):xs=ys:=by
 obtain⟨z08,r,⟨o,e,_,n,d⟩,_⟩:=I.tuple h;obtain⟨its',r',⟨o',e',_,n',d'⟩,_⟩:=I.tuple h';rw[e]at e';cases e';rw[d]at d';injection d' with d1 _;have:z08=its':=by simpa using congrArg Array.toList d1
 subst this;exact r.inj r'
end
abbrev Cx.wish(X:Cx)(E:gV):Cx:={X with xe:=E}
abbrev Cx.nox(X:Cx):Cx:=X.wish λ_ _=>False
theorem Cx.Ok.wish{X:Cx}(ok:X.Ok)(E:gV):(X.wish E).Ok:=⟨ok.mod,ok.kind,ok.glob,ok.blt,ok.above,ok.inj,ok.has,ok.cab,ok.hd,ok.frames,ok.stk,ok.exf,ok.bs,ok.bsz,ok.noex,ok.exfs,ok.funs,ok.frf⟩
theorem Cx.Ok.unwish{X:Cx}(ok:(X.wish E).Ok):X.Ok:=⟨ok.mod,ok.kind,ok.glob,ok.blt,ok.above,ok.inj,ok.has,ok.cab,ok.hd,ok.frames,ok.stk,ok.exf,ok.bs,ok.bsz,ok.noex,ok.exfs,ok.funs,ok.frf⟩
section
variable{σ:St}
theorem Inv.wish(I:Inv X z06 σ H s)(E:gV):Inv (X.wish E) z06 σ H s:=⟨I.ok.wish E,I.os,I.bare,I.base,I.loc,I.cell,I.free,I.freeC,I.pin,I.hok,I.len⟩
theorem Inv.unwish(I:Inv (X.wish E) z06 σ H s):Inv X z06 σ H s:=⟨I.ok.unwish,I.os,I.bare,I.base,I.loc,I.cell,I.free,I.freeC,I.pin,I.hok,I.len⟩
theorem SP.unwish(h:SP (X.wish E) z06 D f s'):SP X z06 D f s':=by cases f with|next=>obtain⟨ar,H',I,q⟩:=h;exact⟨ar,H',I.unwish,q⟩;|brk=>obtain⟨ar,H',I,q⟩:=h;exact⟨ar,H',I.unwish,q⟩;|cont=>obtain⟨ar,H',I,q⟩:=h;exact⟨ar,H',I.unwish,q⟩;|ret u=>obtain⟨v,ar,H',I,r,q⟩:=h;exact⟨v,ar,H',I.unwish,r,q⟩
theorem PSs.nox{st:List Stmt}(h:PSs X.nox st t):PSs X st t:=λz06 s σ H D I hw=>wpAny_mono (h z06 s σ H D (I.wish _) hw) (λ_ _ q=>q.unwish) λ_ _ z=>False.elim z
end
section
variable{st:Stmt}
def Dy:TS:=λD σ H=>D.nx σ H
def Ig(t u:TS):TS:=λD σ H=>t {D with nx:=u D} σ H
theorem bh:PSs X [] Dy:=λ_ _ σ H _ I h=>wpAny_execs_nil ⟨σ,H,I,h⟩
theorem aA(h1:PS X st t)(h2:PSs X rest u):PSs X (st::rest) (Ig t u):=by intro z06 s σ H D I h;refine wpAny_execs_cons (thn (h1 z06 s σ H {D with nx:=u D} I h) λf s1 q=>?_);cases f with|next=>obtain⟨ar,H',I',q⟩:=q;exact h2 z06 s1 ar H' D I' q;|ret v=>exact q;|brk=>exact q;|cont=>exact q
theorem aF(h1:PS X st t):PSs X [st] t:=by intro z06 s σ H D I h;refine wpAny_execs_cons (thn (h1 z06 s σ H D I h) λf s1 q=>?_);cases f with|next=>exact wpAny_execs_nil q;|ret v=>exact q;|brk=>exact q;|cont=>exact q
theorem Inv.quiet{σ:St}(I:Inv X z06 σ H s):interactive X.env=false:=by simp[interactive,I.ok.kind]
def Nu(te:TE):TS:=λD σ H=>te σ H λ_ H1=>D.nx σ H1
theorem bf(he:PE X e te)(hs:swapsWith e none pos.line X.env=pure false:=by rfl):PS X (.Expr e pos) (Nu te):=by intro z06 s σ H D I h;exact wpAny_Expr_any (thn (he z06 s σ H _ I h) λv s1=>by rintro⟨x,H1,I1,r1,q1⟩;exact⟨σ,H1,I1,q1⟩) I.quiet hs
def KY(te:TE):TS:=λD σ H=>te σ H D.rt
theorem aN(he:PE X e te):PS X (.Return (some e) pos) (KY te):=by intro z06 s σ H D I h;exact wpAny_Return_some (thn (he z06 s σ H _ I h) λv s1=>by rintro⟨x,H1,I1,r1,q1⟩;exact⟨x,σ,H1,I1,r1,q1⟩)
def Nv(c:TT)(t u:TS):TS:=λD σ H=>c σ H λb H1=>if b=true then t D σ H1 else u D σ H1
theorem bV(hc:PT X c tc)(ha:PSs X a t)(hb:PSs X b u):PS X (.If c a b pos) (Nv tc t u):=by intro z06 s σ H D I h;refine wpAny_If (thn (hc z06 s σ H _ I h) λd s1=>?_);rintro⟨H1,I1,q1⟩;cases d with|true=>exact ha z06 s1 σ H1 D I1 q1;|false=>exact hb z06 s1 σ H1 D I1 q1
def Dz:TS:=λ_ _ _=>False
theorem lD:PS X st Dz:=λ_ _ _ _ _ _ h=>h.elim
theorem dM:PSs X F2 Dz:=λ_ _ _ _ _ _ h=>h.elim
end
abbrev TG:=V->St->Hp->(St->Hp->Prop)->Prop
abbrev TGs:=List V->St->Hp->(St->Hp->Prop)->Prop
def PG(X:Cx)(target:Expr)(t:TG):Prop:=∀z06 s(σ:St)H v u Q,Inv X z06 σ H s->RelV v u->t v σ H Q->wpAny (model X.prog X.w) X.A (assign target X.env u) (λ_ s'=>∃ar H',Inv X z06 ar H' s'/\Q ar H') X.xe s
def PGs(X:Cx)(ts:Qa6)(t:TGs):Prop:=∀z06 s(σ:St)H vs us Q,Inv X z06 σ H s->Vals vs us->t vs σ H Q->wpAny (model X.prog X.w) X.A (assignInOrder ((assignEach ts X.env).map (·.2)) us) (λ_ s'=>∃ar H',Inv X z06 ar H' s'/\Q ar H') X.xe s
abbrev DG:=V->V->V->Hp->(Hp->Prop)->Prop
def KZ(X:Cx)(t:DG):Prop:=∀z06 s(σ:St)H o i v ov iv u Q,Inv X z06 σ H s->RelV o ov->RelV i iv->RelV v u->t o i v H Q->wpAny (model X.prog X.w) X.A (setItem ov iv u) (λ_ s'=>∃H',Inv X z06 σ H' s'/\Q H') X.xe s
abbrev TIp:=V->V->Hp->VK->Prop
def PIp(X:Cx)(op:Operator)(t:TIp):Prop:=∀z06 s(σ:St)H x y v u Q,Inv X z06 σ H s->RelV x v->RelV y u->t x y H Q->wpAny (model X.prog X.w) X.A (inplaceOp op v u) (EP X z06 σ Q) X.xe s
section
variable{pos:Pos}
def bR(i:Nat):TG:=λv σ H Q=>Q (σ.set i (some v)) H
theorem bC(hN:X.N.Nodup)(hi:X.N[i]?=some x)(hx:Loc X.env.scope x)(hf:X.fn x=true\/X.env.scope.names.lookup x=some .local:=by first|exact .inl rfl|exact .inr rfl|assumption):PG X (.Name x pos) (bR i):=by intro z06 s σ H v u Q I r h;exact wpAny_assign_Name (gh I hN hi hx r (λs' I'=>⟨_,H,I',h⟩) hf)
def mZ:TGs:=λvs σ H Q=>vs=[]/\Q σ H
def cG(t:TG)(u:TGs):TGs:=λvs σ H Q=>∃v r,vs=v::r/\t v σ H λar H'=>u r ar H' Q
theorem aX:PGs X [] mZ:=by intro z06 s σ H vs us Q I r h;obtain⟨e,h⟩:=h;exact assignInOrder_nil ⟨σ,H,I,h⟩
theorem az(h1:PG X e t)(h2:PGs X es u)(hs:(assignEach (e::es) X.env).map (·.2)=assign e X.env::(assignEach es X.env).map (·.2):=by rfl):PGs X (e::es) (cG t u):=by intro z06 s σ H vs us Q I r h;obtain⟨v,vr,e1,h⟩:=h;subst e1;cases r with|cons r rr=>rw[hs];refine assignInOrder_cons (thn (h1 z06 s σ H _ _ _ I r h) λ_ s1=>?_);rintro⟨AO,H1,I1,q1⟩;exact h2 z06 s1 AO H1 _ _ Q I1 rr q1
inductive GTupI(K:Frag)(n:Nat)(t:TGs)(v:V)(σ:St)(H:Hp)(Q:St->Hp->Prop):Prop|mk:∀a xs,(v=.ref a)->(SqT K H a xs)->(xs.length=n)->(t xs σ H Q)->GTupI K n t v σ H Q
def lE(K:Frag)(n:Nat)(t:TGs):TG:=λv σ H Q=>GTupI K n t v σ H Q
theorem bU{k:Nat}(hc:X.calm=true)(h:PGs X es t)(hn:(assignEach es X.env).length=n:=by rfl)(dP:(assignEach es X.env).findIdx? (·.1)=none:=by rfl):PG X (.Tuple es k pos) (lE X.K n t):=by intro z06 s σ H v u Q I r hw;obtain⟨a,xs,e1,hq,hl,hw⟩:=hw;subst e1;cases r;obtain⟨z08,rv,ht,hz⟩:=I.tuple hq;refine assign_Tuple_tuple (I.ok.hd hc) ht (by simp[hn,<-hl,rv.length]) dP λh' hx=>?_;have I1:Inv X z06 σ H {s with heap:=h'}:=I.kept (t':=s.toks) λb o e=>hx b o (zB7 (zB0 e)) e;exact h z06 _ σ H xs _ Q I1 (by simpa using rv) hw
def Qi(to ti:TE)(t:DG):TG:=λv σ H Q=>to σ H λo H1=>ti σ H1 λi H2=>t o i v H2 λH3=>Q σ H3
theorem um(ho:PE X o to)(hi:PE X i ti)(hs:KZ X t)(ha:∀v,assign (.Subscript o i pos) X.env v=(do
   let ov<-holding [v] (eval o X.env)let iv<-holding [v,ov] (eval i X.env)standAt pos
   holding [v,ov,iv] (setItem ov iv v)release [v,ov,iv] []):=by intro _;rfl):PG X (.Subscript o i pos) (Qi to ti t):=by intro z06 s σ H v u Q I r h;rw[ha];refine zAt (wpAny_holding (thn (ho z06 s σ H _ I h) λov s1=>?_));rintro⟨x,H1,I1,r1,q1⟩;refine zAt (wpAny_holding (thn (hi z06 s1 σ H1 _ I1 q1) λiv s2=>?_));rintro⟨y,H2,I2,r2,q2⟩;refine zAt (wpAny_standAt (zAt (wpAny_holding (thn (hs z06 s2 σ H2 x y v ov iv u _ I2 r1 r2 r q2) λ_ s3=>?_))));rintro⟨H3,I3,q3⟩;exact wpAny_release ⟨σ,H3,I3,q3⟩
def yg(te:TE)(g:TG):TS:=λD σ H=>te σ H λx H1=>g x σ H1 D.nx
theorem cO(he:PE X e te)(hg:PG X tg g)(hs:swapsWithSole [tg] e pos.line X.env=pure false:=by rfl)(hw:swappedStores [tg] e X.env=pure none:=by rfl)(h1:(assignEach [tg] X.env).map (·.2)=[assign tg X.env]:=by rfl):PS X (.Assign [tg] e pos) (yg te g):=by intro z06 s σ H D I h;refine wpAny_Assign_stores (thn (he z06 s σ H _ I h) λv s1=>?_) hs hw;rintro⟨x,H1,I1,r1,q1⟩;rw[h1];exact thn (hg z06 s1 σ H1 x v _ I1 r1 q1) λ_ s2 q=>q
theorem jo(hN:X.N.Nodup)(hi:X.N[i]?=some x)(hx:Loc X.env.scope x)(he:PE X e te)(hs:swapsWith e (some (.Name x pos')) pos.line X.env=pure false:=by rfl)(hf:X.fn x=true\/X.env.scope.names.lookup x=some .local:=by first|exact .inl rfl|exact .inr rfl|assumption):PS X (.Assign [.Name x pos'] e pos) (yg te (bR i)):=by intro z06 s σ H D I h;refine wpAny_Assign_Name (thn (he z06 s σ H _ I h) λv s1=>?_) hs;rintro⟨y,H1,I1,r1,q1⟩;exact gh I1 hN hi hx r1 (λs2 I2=>⟨_,H1,I2,q1⟩) hf
def Qj(i j:Nat)(ta:TA):TS:=λD σ H=>ta σ H λvs H1=>∃v w,vs=[v,w]/\D.nx ((σ.set i (some v)).set j (some w)) H1
theorem yh{kt k2 pt2}(hc:X.calm=true)(hN:X.N.Nodup)(hi:X.N[i]?=some x)(hj:X.N[j]?=some y)(sM:i≠j)(hx:X.env.scope.names.lookup x=some .local)(hy:X.env.scope.names.lookup y=some .local)(ha:PA X [a,b] ta)(hw:swappedStores [.Tuple [.Name x px,.Name y py] kt pt] (.Tuple [a,b] k2 pt2) X.env=pure (some [x,y]))(hs:swapsWithSole [.Tuple [.Name x px,.Name y py] kt pt] (.Tuple [a,b] k2 pt2) pos.line X.env=pure false:=by rfl):PS X (.Assign [.Tuple [.Name x px,.Name y py] kt pt] (.Tuple [a,b] k2 pt2) pos) (Qj i j ta):=by
 intro z06 s σ H D I h;rw[exec_Assign_arm];refine zAt (wpAny_standAt ?_);rw[hs];refine zAt (zAx ?_);rw[zAy z02];refine zAt (Tuple_ (thn (ha _ z06 s σ H _ I h) λus s1=>?_));rintro⟨vs,H1,I1,r1,q1⟩;obtain⟨v,w,e1,q1⟩:=q1;subst e1;obtain⟨u1,u2,rfl,rv,fg⟩:∃u1 u2,us=[u1,u2]/\RelV v u1/\RelV w u2:=by cases r1 with|cons p q=>cases q with|cons p' q'=>cases q';exact⟨_,_,rfl,p,p'⟩
 refine Zac ?_ (by show 2<=sizeLine;decide);have I2:Inv X z06 σ H1 {s1 with heap:=s1.heap.push {cls:=.type "tuple",data:=.seq [u1,u2].toArray}}:=I1.kept (t':=s1.toks) λb o e=>zAu _ e;rw[hw];refine zAt (zAx ?_);show wpAny (model X.prog X.w) X.A (do rule "assign.swapped-stores";let items<-unpackItems (.ref s1.heap.objs.size) 2 none;assignInOrder [λv=>bindName X.env y v,λv=>bindName X.env x v] items.reverse;pure Flow.next) _ _ _;refine zAt (wpAny_rule (zAt (unpackItems_tuple (items:=#[u1,u2]) (I.ok.hd hc) (IsTup.new s1.heap _) λh' dQ=>?_)));have I3:=I2.kept (h':=h') (t':=s1.toks) λb o e=>dQ b o (zB7 (zB0 e)) e;show wpAny _ _ (assignInOrder [λv=>bindName X.env y v,λv=>bindName X.env x v] [u2,u1]>>=λ_=>pure Flow.next) _ _ _;refine zAt (assignInOrder_cons (wpAny_bindName (gh I3 hN hj (.inl hy) fg (λs2 I4=>?_) (.inr hy))));refine assignInOrder_cons (wpAny_bindName (gh I4 hN hi (.inl hx) rv (λs3 I5=>assignInOrder_nil (zAx ?_)) (.inr hx)));rw[List.set_comm _ _ (Ne.symm sM)]at I5;exact⟨_,H1,I5,q1⟩
inductive TAugI(i:Nat)(te:TE)(ti:TIp)(D:Ends)(σ:St)(H:Hp):Prop|mk:∀x,(σ[i]?=some (some x))->(te σ H λy H1=>ti x y H1 λz H2=>D.nx (σ.set i (some z)) H2)->TAugI i te ti D σ H
def Qk(i:Nat)(te:TE)(ti:TIp):TS:=λD σ H=>TAugI i te ti D σ H
theorem jW(hN:X.N.Nodup)(hi:X.N[i]?=some x)(hx:Loc X.env.scope x)(he:PE X e te)(ho:PIp X op ti)(hf:X.fn x=true\/X.env.scope.names.lookup x=some .local:=by first|exact .inl rfl|exact .inr rfl|assumption):PS X (.AugAssign (.Name x pos') op e pos) (Qk i te ti):=by
 intro z06 s σ H D I h;obtain⟨v,e1,h⟩:=h;obtain⟨m,hn,hl⟩:=I.loc;have SM:Vis X.env.scope x:=by rcases hx with k|k;exact .inl k;exact .inr (.inl k)
 obtain⟨u,r,l⟩:=hl i x v hi e1 SM;refine wpAny_AugAssign_Name ?_;have go:wpAny (model X.prog X.w) X.A (eval e X.env) (λw s₂=>wpAny (model X.prog X.w) X.A (inplaceOp op u w) (λr s₃=>wpAny (model X.prog X.w) X.A (storeName X.env x r) (λ_=>SP X z06 D .next) X.xe s₃) X.xe s₂) X.xe s:=by refine thn (he z06 s σ H _ I h) λw s1=>?_;rintro⟨y,H1,I1,r1,q1⟩;refine thn (ho z06 s1 σ H1 v y u w _ I1 r r1 q1) λz s2=>?_;rintro⟨zv,H2,I2,r2,q2⟩;exact gh I2 hN hi hx r2 (λs3 I3=>⟨_,H2,I3,q2⟩) hf
 rcases l with⟨hk,hm⟩|⟨hk,c,hc,hcell⟩;.exact wpAny_loadName_local I.ok.kind hk hn hm go
 .rcases hk with hk|hk;.exact wpAny_loadName_cell I.ok.kind hk hc hcell go
  .rcases hx with k|k;.have:X.env.scope.names.lookup x=some .free:=hk;rw[k]at this;cases this
   .have:X.env.scope.names.lookup x=some .free:=hk;rw[k]at this;cases this
def Nx(to ti te:TE)(nI:V->V->Hp->VK->Prop)(EE:TIp)(nK:DG):TS:=λD σ H=>to σ H λo H1=>ti σ H1 λi H2=>nI o i H2 λx H3=>te σ H3 λy H4=>EE x y H4 λz H5=>nK o i z H5 λH6=>D.nx σ H6
def Ny(X:Cx)(t:V->V->Hp->VK->Prop):Prop:=∀z06 s(σ:St)H o i ov iv Q,Inv X z06 σ H s->RelV o ov->RelV i iv->t o i H Q->wpAny (model X.prog X.w) X.A (getItem ov iv) (EP X z06 σ Q) X.xe s
theorem lF(ho:PE X o to)(hi:PE X i ti)(hg:Ny X nI)(he:PE X e te)(hp:PIp X op EE)(hs:KZ X nK)(ha:∀ov iv new,augStore i ov iv new=(do holding [new,ov,iv] (setItem ov iv new);release [new,ov,iv] [];pure .next):=by intros;rfl):PS X (.AugAssign (.Subscript o i sN) op e pos) (Nx to ti te nI EE nK):=by intro z06 s σ H D I h;refine wpAny_AugAssign_SubscriptAny (thn (ho z06 s σ H _ I h) λov s1=>?_) ha;rintro⟨x1,H1,I1,r1,q1⟩;refine thn (hi z06 s1 σ H1 _ I1 q1) λiv s2=>?_;rintro⟨x2,H2,I2,r2,q2⟩;refine thn (hg z06 s2 σ H2 x1 x2 ov iv _ I2 r1 r2 q2) λold s3=>?_;rintro⟨x3,H3,I3,r3,q3⟩;refine thn (he z06 s3 σ H3 _ I3 q3) λv s4=>?_;rintro⟨x4,H4,I4,r4,q4⟩;refine thn (hp z06 s4 σ H4 x3 x4 old v _ I4 r3 r4 q4) λnew s5=>?_;rintro⟨x5,H5,I5,r5,q5⟩;exact thn (hs z06 s5 σ H5 x1 x2 x5 ov iv new _ I5 r1 r2 r5 q5) λ_ s6=>by rintro⟨H6,I6,q6⟩;exact⟨σ,H6,I6,q6⟩
def ipI(f:Int->Int->Int):TIp:=λx y H Q=>∃i j,x=.int i/\y=.int j/\Q (.int (f i j)) H
theorem uo:PIp X .Add (ipI λi j=>i+j):=by intro z06 s σ H x y v u Q I r1 r2 h;obtain⟨i,j,e1,e2,q⟩:=h;subst e1;subst e2;obtain⟨t,rfl⟩:=r1;obtain⟨t',rfl⟩:=r2;exact iadd_int ⟨.int _,H,I.tok _,⟨_,rfl⟩,q⟩
theorem DK:PIp X .Sub (ipI λi j=>i-j):=by intro z06 s σ H x y v u Q I r1 r2 h;obtain⟨i,j,e1,e2,q⟩:=h;subst e1;subst e2;obtain⟨t,rfl⟩:=r1;obtain⟨t',rfl⟩:=r2;exact isub_int ⟨.int _,H,I.tok _,⟨_,rfl⟩,q⟩
end
section
end
structure It where
 go:Nat->Hp->Prop
 yld:Nat->Hp->V->Hp->Prop
 stop:Nat->Hp->Prop
def jq(X:Cx)(z06:Qa1)(H:Hp)(b:Addr):Prop:=H b=none/\b≠X.env.locals/\b∉X.fs/\(b∈X.ex\/X.s₀.heap.objs.size<=b)/\(∀x c,X.env.cells.lookup x=some c->c≠b)/\∀p∈X.pn++z06,p.1≠b
theorem Inv.fpOk{σ:St}{b:Addr}(I:Inv X z06 σ H s)(hb:s.heap.objs.size<=b)(hn:H' b=none):jq X z06 H' b:=by
 refine⟨hn,Zam (zB3 I.lt hb),I.nofs hb,.inr (Zaf I.sz hb),λx c e z=>?_,λp hp z=>?_⟩;.obtain⟨v,q⟩:=I.cell x c e;exact absurd (zB3 q.lt (by rw[z];exact hb)) (Zaj _)
 .exact absurd (zB3 (zB0 (I.pin p hp).1) (by rw[z];exact hb)) (Zaj _)
structure Turn(P:Program)(w:World)(K:Frag)(tg:Expr)(J:It)(fp:Qa9)(it:Addr)(tn:Nat->Heap->Prop):Prop where
 mem:it∈fp
 obj:∀i h,tn i h->∀b∈fp,∃o,h.get? b=some o/\∀v,o.data≠.cell v
 keep:∀i h h',tn i h->(∀b∈fp,∀o,h.get? b=some o->h'.get? b=some o)->tn i h'
 item:∀X,X.prog=P->X.w=w->X.K=K->X.calm=true->∀i z06 s(σ:St)H E,Inv X z06 σ H s->(∀b∈fp,jq X z06 H b)->tn i s.heap->J.go i H->wpAny (model P w) X.A (pyNext (.ref it)) (λr s1=>∃u,r=some u/\wpAny (model P w) X.A (letOwnedTupleGo tg (.ref it) u) (λ_ s2=>∃x H',Inv X z06 σ H' s2/\RelV x u/\J.yld i H x H'/\tn (i+1) s2.heap/\∀b∈fp,H' b=none) E s1) E s
 done:∀X,X.prog=P->X.w=w->X.K=K->X.calm=true->∀i z06 s(σ:St)(H:Hp)(E:gV),Inv X z06 σ H s->(∀b∈fp,jq X z06 H b)->tn i s.heap->J.stop i H->wpAny (model P w) X.A (pyNext (.ref it)) (λr s1=>r=none/\Inv X z06 σ H s1) E s
 self:∀(A:Around)(i:Nat)(s:Shared)(Q:gV)(E:gV),tn i s.heap->Q (.ref it) s->wpAny (model P w) A (pyIter (.ref it)) Q E s
abbrev TI:=St->Hp->(It->Hp->Prop)->Prop
def PIE(X:Cx)(z06:Qa1)(σ:St)(tg:Expr)(R:It->Hp->Prop)(sP:Value)(s2:Shared):Prop:=∃(it:Addr)(fp:Qa9)(tn:Nat->Heap->Prop)(J:It)(H':Hp),sP=.ref it/\Inv X z06 σ H' s2/\Turn X.prog X.w X.K tg J fp it tn/\tn 0 s2.heap/\(∀b∈fp,jq X z06 H' b)/\R J H'
def PI(X:Cx)(tg iter:Expr)(wi:TI):Prop:=∀z06 s(σ:St)H R,Inv X z06 σ H s->wi σ H R->wpAny (model X.prog X.w) X.A (eval iter X.env) (λv s1=>wpAny (model X.prog X.w) X.A (pyIter v) (PIE X z06 σ tg R) X.xe s1) X.xe s
theorem zj(ho:s.heap.get? it=some o)(hc:o.cls=.type n)(hd:o.data=.fields vs)(hn:["enumerate","zip","dict_itemiterator","dict_reverseitemiterator","odict_iterator","itertools.zip_longest","itertools.pairwise"].contains n=false)(hQ:Q () s):wpAny M A (letOwnedTupleGo tg (.ref it) u) Q E s:=by cases tg<;>first|exact zAx hQ;|(cases u<;>first|exact zAx hQ;|(refine zAt (wpAny_load ho ?_);rw[hc,hd];show wpAny M A (if(["enumerate","zip","dict_itemiterator","dict_reverseitemiterator","odict_iterator","itertools.zip_longest","itertools.pairwise"].contains n&&vs[0]?==some (rawInt _))=true then _ else _) Q E s;rw[zAy (by intro h;rw[hn]at h;cases h)];exact zAx hQ))
def Itl(K:Frag)(a:Addr):It:=⟨λi H=>∃xs x,SqL K H a xs/\xs[i]?=some x,λi H x H'=>H'=H/\∀xs,SqL K H a xs->xs[i]?=some x,λi H=>∃xs,SqL K H a xs/\xs.length<=i⟩
def Itt(K:Frag)(a:Addr):It:=⟨λi H=>∃xs x,SqT K H a xs/\xs[i]?=some x,λi H x H'=>H'=H/\∀xs,SqT K H a xs->xs[i]?=some x,λi H=>∃xs,SqT K H a xs/\xs.length<=i⟩
def Itr(lo:Int)(n:Nat):It:=⟨λi _=>i<n,λi H x H'=>H'=H/\x=.int (lo+i),λi _=>n<=i⟩
theorem BK{K:Frag}(a it:Addr):Turn P w K tg (Itl K a) [it] it (λi h=>h.IsListIter it a i)where
 mem:=by simp
 obj:=λi h st b hb=>by
  have e:b=it:=by simpa using hb
  subst e;obtain⟨o,e,c,d⟩:=st;exact⟨o,e,λv z=>by rw[d]at z;cases z⟩
 keep:=λi h h' st k=>st.at λo e=>k it z01 o e;item:=by intro X hP hw hK hc i z06 s σ H E I hf st hg;subst hP hw hK;obtain⟨xs,x,hq,hx⟩:=hg;obtain⟨z08,rv,p,hz⟩:=I.list hq;obtain⟨u,hu,ru⟩:=rv.get hx;obtain⟨f0,f1,f2,f3,f4,f5⟩:=hf it z01;refine wpAny_pyNext_list_item st p.isList (x:=u) (by simpa using hu) λh' z09 sb=>?_;have I1:Inv X z06 σ H {s with heap:=h'}:=I.turned (t':=s.toks) (λb o hb e=>(sb.2 b hb).trans e) f0 f1 f3 f4 f5;obtain⟨o,e,c,d⟩:=id z09;exact⟨u,rfl,zj (s:={s with heap:=h'}) e c d z02 ⟨x,H,I1,ru,⟨rfl,λys hy=>by rw[I.list_inj hy hq];exact hx⟩,z09,λb hb=>(hf b hb).1⟩⟩
 done:=by intro X hP hw hK hc i z06 s σ H E I hf st hg;subst hP hw hK;obtain⟨xs,hq,hx⟩:=hg;obtain⟨z08,rv,p,hz⟩:=I.list hq;obtain⟨f0,f1,f2,f3,f4,f5⟩:=hf it z01;have hl:=rv.length;exact wpAny_pyNext_list_end (I.ok.hd hc) st p.isList (by simp;lia) λh' eb=>⟨rfl,I.turned (t':=s.toks) (λb o hb e=>eb b o hb e) f0 f1 f3 f4 f5⟩
 self:=λ_ _ _ _ _ st h=>wpAny_pyIter_listiter st h
theorem yj{K:Frag}(a it:Addr):Turn P w K tg (Itt K a) [it] it (λi h=>h.IsTupleIter it a i)where
 mem:=by simp
 obj:=λi h st b hb=>by
  have e:b=it:=by simpa using hb
  subst e;obtain⟨o,e,c,d⟩:=st;exact⟨o,e,λv z=>by rw[d]at z;cases z⟩
 keep:=λi h h' st k=>st.at λo e=>k it z01 o e;item:=by intro X hP hw hK hc i z06 s σ H E I hf st hg;subst hP hw hK;obtain⟨xs,x,hq,hx⟩:=hg;obtain⟨z08,rv,p,hz⟩:=I.tuple hq;obtain⟨u,hu,ru⟩:=rv.get hx;obtain⟨f0,f1,f2,f3,f4,f5⟩:=hf it z01;refine wpAny_pyNext_tuple_item st (show s.heap.IsTuple a z08.toArray from p) (x:=u) (by simpa using hu) λh' z09 sb=>?_;have I1:Inv X z06 σ H {s with heap:=h'}:=I.turned (t':=s.toks) (λb o hb e=>(sb.2 b hb).trans e) f0 f1 f3 f4 f5;obtain⟨o,e,c,d⟩:=id z09;exact⟨u,rfl,zj (s:={s with heap:=h'}) e c d z02 ⟨x,H,I1,ru,⟨rfl,λys hy=>by rw[I.tuple_inj hy hq];exact hx⟩,z09,λb hb=>(hf b hb).1⟩⟩
 done:=by intro X hP hw hK hc i z06 s σ H E I hf st hg;subst hP hw hK;obtain⟨xs,hq,hx⟩:=hg;obtain⟨z08,rv,p,hz⟩:=I.tuple hq;obtain⟨f0,f1,f2,f3,f4,f5⟩:=hf it z01;have hl:=rv.length;exact wpAny_pyNext_tuple_end (I.ok.hd hc) st (show s.heap.IsTuple a z08.toArray from p) (by simp;lia) λh' eb=>⟨rfl,I.turned (t':=s.toks) (λb o hb e=>eb b o hb e) f0 f1 f3 f4 f5⟩
 self:=λ_ _ _ _ _ st h=>wpAny_pyIter_tupleiter st h
theorem ym{K:Frag}(it:Addr)(lo:Int)(n:Nat):Turn P w K tg (Itr lo n) [it] it (λi h=>IsRangeIter h it (lo+(i:Nat)*1) ((n:Int)-(i:Nat)) 1)where
 mem:=by simp
 obj:=λi h st b hb=>by
  have e:b=it:=by simpa using hb
  subst e;exact⟨_,st,λv z=>by have z':Data.fields _=Data.cell v:=z;cases z'⟩
 keep:=λi h h' st k=>k it z01 _ st;item:=by intro X hP hw hK hc i z06 s σ H E I hf st hg;subst hP hw hK;obtain⟨f0,f1,f2,f3,f4,f5⟩:=hf it z01;have W:=Walks.range (prog:=X.prog) (w:=X.w) (I.ok.hd hc) it lo 1 n;refine W.item i s _ _ hg st λv h' tk hv z09 kk=>?_;obtain⟨t,rfl⟩:=hv;have I1:Inv X z06 σ H {s with heap:=h',toks:=tk}:=I.turned (λb o hb e=>kk b o (by simpa using hb) e) f0 f1 f3 f4 f5;refine⟨_,rfl,zj (s:={s with heap:=h',toks:=tk}) (n:="range_iterator") z09 rfl rfl z02 ⟨.int (lo+i),H,I1,⟨t,?_⟩,⟨rfl,rfl⟩,z09,λb hb=>(hf b hb).1⟩⟩;rw[Int.mul_one]
 done:=by intro X hP hw hK hc i z06 s σ H E I hf st hg;subst hP hw hK;obtain⟨f0,f1,f2,f3,f4,f5⟩:=hf it z01;exact wpAny_pyNext_range_end (I.ok.hd hc) st (by have:n<=i:=hg;lia) λh' eb=>⟨rfl,I.turned (t':=s.toks) (λb o hb e=>eb b o hb e) f0 f1 f3 f4 f5⟩
 self:=λ_ _ _ _ _ st h=>wpAny_pyIter_rangeiter st h
section
variable{tg:Expr}
def Kg(K:Frag)(tl:TE):TI:=λσ H R=>tl σ H λx H1=>∃a,x=.ref a/\(∃xs,SqL K H1 a xs)/\R (Itl K a) H1
def Nz(K:Frag)(tl:TE):TI:=λσ H R=>tl σ H λx H1=>∃a,x=.ref a/\(∃xs,SqT K H1 a xs)/\R (Itt K a) H1
theorem fG(hl:PE X l tl):PI X tg l (Kg X.K tl):=by
 intro z06 s σ H R I h;refine thn (hl z06 s σ H _ I h) λv s1=>?_;rintro⟨x,H1,I1,r1,q1⟩;obtain⟨a,e,⟨xs,hq⟩,q⟩:=q1;subst e;cases r1;obtain⟨z08,rv,p,hz⟩:=I1.list hq;refine wpAny_pyIter_list p.isList ?_;refine⟨s1.heap.objs.size,[s1.heap.objs.size],_,_,H1,rfl,I1.kept (t':=s1.toks) λb o e=>zAu _ e,BK a _,⟨_,zB1 _ rfl,rfl,rfl⟩,λb hb=>?_,q⟩;have e:b=s1.heap.objs.size:=by simpa using hb
 subst e;exact I1.fpOk (zA3 _) (I1.hok.fresh (zA3 _))
theorem fJ(hl:PE X l tl):PI X tg l (Nz X.K tl):=by
 intro z06 s σ H R I h;refine thn (hl z06 s σ H _ I h) λv s1=>?_;rintro⟨x,H1,I1,r1,q1⟩;obtain⟨a,e,⟨xs,hq⟩,q⟩:=q1;subst e;cases r1;obtain⟨z08,rv,p,hz⟩:=I1.tuple hq;refine wpAny_pyIter_tuple (p) ?_;refine⟨s1.heap.objs.size,[s1.heap.objs.size],_,_,H1,rfl,I1.kept (t':=s1.toks) λb o e=>zAu _ e,yj a _,⟨_,zB1 _ rfl,rfl,rfl⟩,λb hb=>?_,q⟩;have e:b=s1.heap.objs.size:=by simpa using hb
 subst e;exact I1.fpOk (zA3 _) (I1.hok.fresh (zA3 _))
theorem vL{σ:St}{lo hi:Int}(I:Inv X z06 σ H s)(h1:-(2^62)<=lo)(h2:lo<2^62)(h3:-(2^62)<=hi)(h4:hi<2^62)(q:R (Itr lo (hi-lo).toNat) H):wpAny (model X.prog X.w) X.A (pyIter (.ref s.heap.objs.size)) (PIE X z06 σ tg R) E {s with heap:=s.heap.push {cls:=.type "range",data:=.fields #[.int lo t,.int hi u,.int 1 v]},toks:=tk}:=by
 refine wpAny_pyIter_range (IsRange.new ..) (small_one h1 h2 h3 h4) ?_;have I1:Inv X z06 σ H {s with heap:=s.heap.push {cls:=.type "range",data:=.fields #[.int lo t,.int hi u,.int 1 v]},toks:=tk}:=I.kept λb o e=>zAu _ e;refine⟨(s.heap.push {cls:=.type "range",data:=.fields #[.int lo t,.int hi u,.int 1 v]}).objs.size,[(s.heap.push {cls:=.type "range",data:=.fields #[.int lo t,.int hi u,.int 1 v]}).objs.size],_,_,H,rfl,I1.kept (t':=tk) λb o e=>zAu _ e,ym _ lo (hi-lo).toNat,?_,λb hb=>?_,q⟩
 .have e1:lo+((0:Nat):Int)*1=lo:=by simp
  have e2:(((hi-lo).toNat:Nat):Int)-((0:Nat):Int)=Builtin.Range.rangeSize lo hi 1:=by rw[rangeSize_one];split<;>lia
  rw[e1,e2];exact zB1 _ rfl
 .have e:b=(s.heap.push {cls:=.type "range",data:=.fields #[.int lo t,.int hi u,.int 1 v]}).objs.size:=by simpa using hb
  subst e;exact I1.fpOk (zA3 _) (I1.hok.fresh (zA3 _))
def NB(ta:TA):TI:=λσ H R=>ta σ H λvs H1=>∃j,vs=[.int j]/\-(2^62)<=j/\j<2^62/\R (Itr 0 j.toNat) H1
def NK(ta:TA):TI:=λσ H R=>ta σ H λvs H1=>∃i j,vs=[.int i,.int j]/\(-(2^62)<=i/\i<2^62/\-(2^62)<=j/\j<2^62)/\R (Itr i (j-i).toNat) H1
theorem bK(hg:Gl X "range")(hm:X.mg "range"=none)(ha:PA X [a] ta)(hs:starEach [a] X.env=[(false,eval a X.env)]:=by rfl):PI X tg (.Call (.Name "range" p) [a] [] pos) (NB ta):=by intro z06 s σ H R I h;refine Call_ (iy I hg hm boot_range (PyProof.Rows.callWith_type1 (thn (ha pos z06 s σ H _ I h) λus s1=>?_) hs rfl));rintro⟨vs,H1,I1,r1,q1⟩;obtain⟨j,e,q1,q2,q⟩:=q1;subst e;cases r1 with|cons r rr=>cases rr;obtain⟨t,rfl⟩:=r;exact call_range_1 (vL I1 z00 z00 q1 q2 (by simpa using q))
theorem jM{p pos:Pos}(hg:Gl X "range")(hm:X.mg "range"=none)(ha:PA X [a,b] ta)(hs:starEach [a,b] X.env=[(false,eval a X.env),(false,eval b X.env)]:=by rfl)(iN:starEach [b] X.env=[(false,eval b X.env)]:=by rfl):PI X tg (.Call (.Name "range" p) [a,b] [] pos) (NK ta):=by intro z06 s σ H R I h;refine Call_ (iy I hg hm boot_range (PyProof.Rows.callWith_type1 (thn (ha pos z06 s σ H _ I h) λus s1=>?_) (by rw[hs,iN]) (by rw[iN];rfl)));rintro⟨vs,H1,I1,r1,q1⟩;obtain⟨i,j,e,⟨q1,q2,q3,q4⟩,q⟩:=q1;subst e;cases r1 with|cons r rr=>cases rr with|cons r' rr=>cases rr;obtain⟨t,rfl⟩:=r;obtain⟨t',rfl⟩:=r';exact call_range_2 (vL I1 q1 q2 q3 q4 q)
def Ql(wi:TI)(g:TG)(tb:TS):TS:=λD σ H=>wi σ H λJ H1=>∃W:Nat->Nat->St->Hp->Prop,(∃m,W 0 m σ H1)/\∀i m σ H,W i m σ H->(J.stop i H/\D.nx σ H)\/(J.go i H/\∃N,(∀ar H',N ar H'->∃m',m'<m/\W (i+1) m' ar H')/\∀x H',J.yld i H x H'->g x σ H' λay H2=>tb {D with nx:=N,ct:=N,bk:=D.nx} ay H2)
def dX(fp:Qa9)(h:Heap):Qa1:=fp.filterMap λb=>(h.get? b).map λo=>(b,o)
theorem j5(hb:b∈fp)(e:h.get? b=some o):(b,o)∈dX fp h:=List.mem_filterMap.mpr ⟨b,hb,by rw[e];rfl⟩
theorem ni(hp:p∈dX fp h):p.1∈fp/\h.get? p.1=some p.2:=by obtain⟨b,hb,e⟩:=List.mem_filterMap.mp hp;cases q:h.get? b with|none=>rw[q]at e;cases e;|some o=>rw[q]at e;have e':(b,o)=p:=zAl e;subst e';exact⟨hb,q⟩
theorem Inv.pinned{σ:St}(I:Inv X z06 σ H s)(hf:∀b∈fp,jq X z06 H b)(ho:∀b∈fp,∃o,s.heap.get? b=some o/\∀v,o.data≠.cell v):Inv X (z06++dX fp s.heap) σ H s:=I.pins_of λp hp=>(zA6.mp hp).elim (λz=>I.pin p (zB2 _ z)) λz=>by obtain⟨hb,e⟩:=ni z;obtain⟨f0,f1,f2,_⟩:=hf p.1 hb;obtain⟨o,e',d⟩:=ho p.1 hb;rw[e]at e';cases e';exact⟨e,f0,f1,f2,d⟩
theorem Inv.unpinned{σ:St}(I:Inv X (z06++pl) σ H s):Inv X z06 σ H s:=I.pins_of λp hp=>I.pin p (zB2 _ (Zas _ hp))
theorem cP(hp:PassesOwn (model X.prog X.w) X.A X.env X.xe)(hc:X.calm=true)(hi:PI X tg iter wi)(hg:PG X tg g)(hb:PSs X body tb)(hs:∀x,foldedSetIterable iter X.env x=pure x:=by intro _;rfl):PS X (.For tg iter body [] pos) (Ql wi g tb):=by
 intro z06 s σ H D I h;refine wpAny_For (thn (hi z06 s σ H _ I h) λv s1 h1=>thn h1 λsP s2 h2=>?_) hs;obtain⟨it,fp,tn,J,H2,e,I2,T,st2,f2,W,⟨m0,w0⟩,turn⟩:=h2;subst e;have sQ:∀{H':Hp},(∀b∈fp,H' b=none)->∀b∈fp,jq X z06 H' b:=λhn b hb=>⟨hn b hb,(f2 b hb).2⟩;refine codeAny_forLoop_any (λn s'=>∃i ar H',Inv X z06 ar H' s'/\tn i s'.heap/\(∀b∈fp,H' b=none)/\W i n ar H') ?_ m0 ⟨0,σ,H2,I2,st2,λb hb=>(f2 b hb).1,w0⟩;rintro n s3⟨i,jI,H3,I3,jS,AQ,w3⟩;rcases turn i n jI H3 w3 with⟨stop,qn⟩|⟨go,N,hN,step⟩;.refine wpAny_passesOwn hp (thn (T.done X rfl rfl rfl hc i z06 s3 jI H3 X.xe I3 (sQ AQ) jS stop) λr s4=>?_);rintro⟨hr,I4⟩;subst hr;exact wpAny_execs_nil ⟨jI,H3,I4,qn⟩
 .refine wpAny_passesOwn hp (thn (T.item X rfl rfl rfl hc i z06 s3 jI H3 X.xe I3 (sQ AQ) jS go) λr s4=>?_);rintro⟨u,hr,h4⟩;subst hr;refine wpAny_passesOwn hp (thn h4 λ_ s5=>?_);rintro⟨x,H5,I5,r5,y5,sR,F3⟩;have F4:=I5.pinned (sQ F3) (T.obj _ _ sR);refine wpAny_passesOwn hp (thn (hg _ s5 jI H5 x u _ F4 r5 (step x H5 y5)) λ_ s6=>?_);rintro⟨yk,H6,I6,q6⟩;refine wpAny_passesOwn hp (thn (hb _ s6 yk H6 _ I6 q6) λf s7 q7=>?_);have again:∀{kX:St}{H7:Hp},Inv X (z06++dX fp s5.heap) kX H7 s7->N kX H7->∃m,m<n/\∃i ar H',Inv X z06 ar H' s7/\tn i s7.heap/\(∀b∈fp,H' b=none)/\W i m ar H':=λ{kX H7}I7 n7=>by obtain⟨m',hm,w7⟩:=hN kX H7 n7;refine⟨m',hm,i+1,kX,H7,I7.unpinned,T.keep _ _ _ sR λb hb o e=>(I7.pin (b,o) (zB2 _ (zB2 _ (j5 hb e)))).1,λb hb=>?_,w7⟩;obtain⟨o,e,d⟩:=T.obj _ _ sR b hb;exact(I7.pin (b,o) (zB2 _ (zB2 _ (j5 hb e)))).2.1
  cases f with|next=>obtain⟨kX,H7,I7,n7⟩:=q7;exact again I7 n7;|cont=>obtain⟨kX,H7,I7,n7⟩:=q7;exact again I7 n7;|brk=>obtain⟨kX,H7,I7,q7⟩:=q7;exact⟨kX,H7,I7.unpinned,q7⟩;|ret v=>obtain⟨x7,kX,H7,I7,r7,q7⟩:=q7;exact⟨x7,kX,H7,I7.unpinned,r7,q7⟩
end
theorem iI{K:Frag}{g:TG}{tb:TS}{D:Ends}{σ:St}{H:Hp}(Pv:Nat->St->Hp->Prop)(h0:Pv 0 σ H)(hl:∀i σ H,i<=xs.length->Pv i σ H->SqL K H a xs)(hs:∀i x σ H,xs[i]?=some x->Pv i σ H->g x σ H λay H2=>tb {D with nx:=Pv (i+1),ct:=Pv (i+1),bk:=D.nx} ay H2)(hd:∀σ H,Pv xs.length σ H->D.nx σ H):∃W:Nat->Nat->St->Hp->Prop,(∃m,W 0 m σ H)/\∀i m σ H,W i m σ H->((Itl K a).stop i H/\D.nx σ H)\/((Itl K a).go i H/\∃N,(∀ar H',N ar H'->∃m',m'<m/\W (i+1) m' ar H')/\∀x H',(Itl K a).yld i H x H'->g x σ H' λay H2=>tb {D with nx:=N,ct:=N,bk:=D.nx} ay H2):=by
 refine⟨λi m σ H=>m=xs.length-i/\i<=xs.length/\Pv i σ H,⟨xs.length,by simp,zAp _,h0⟩,?_⟩;rintro i m σ H⟨rfl,hi,p⟩;have q:=hl i σ H hi p;by_cases aI:i<xs.length;.refine .inr ⟨⟨xs,xs[i],q,by simp[aI]⟩,Pv (i+1),λar H' p'=>⟨xs.length-(i+1),z00,rfl,aI,p'⟩,λx H' y=>?_⟩;obtain⟨e,y⟩:=y;subst e;exact hs i x σ _ (y xs q) p
 .have e:i=xs.length:=z00;subst e;exact .inl ⟨⟨xs,q,zA3 _⟩,hd σ H p⟩
theorem Ih{K:Frag}{g:TG}{tb:TS}{D:Ends}{σ:St}{H:Hp}(Pv:Nat->St->Hp->Prop)(h0:Pv 0 σ H)(hl:∀i σ H,i<=xs.length->Pv i σ H->SqT K H a xs)(hs:∀i x σ H,xs[i]?=some x->Pv i σ H->g x σ H λay H2=>tb {D with nx:=Pv (i+1),ct:=Pv (i+1),bk:=D.nx} ay H2)(hd:∀σ H,Pv xs.length σ H->D.nx σ H):∃W:Nat->Nat->St->Hp->Prop,(∃m,W 0 m σ H)/\∀i m σ H,W i m σ H->((Itt K a).stop i H/\D.nx σ H)\/((Itt K a).go i H/\∃N,(∀ar H',N ar H'->∃m',m'<m/\W (i+1) m' ar H')/\∀x H',(Itt K a).yld i H x H'->g x σ H' λay H2=>tb {D with nx:=N,ct:=N,bk:=D.nx} ay H2):=by
 refine⟨λi m σ H=>m=xs.length-i/\i<=xs.length/\Pv i σ H,⟨xs.length,by simp,zAp _,h0⟩,?_⟩;rintro i m σ H⟨rfl,hi,p⟩;have q:=hl i σ H hi p;by_cases aI:i<xs.length;.refine .inr ⟨⟨xs,xs[i],q,by simp[aI]⟩,Pv (i+1),λar H' p'=>⟨xs.length-(i+1),z00,rfl,aI,p'⟩,λx H' y=>?_⟩;obtain⟨e,y⟩:=y;subst e;exact hs i x σ _ (y xs q) p
 .have e:i=xs.length:=z00;subst e;exact .inl ⟨⟨xs,q,zA3 _⟩,hd σ H p⟩
theorem d9{lo:Int}{g:TG}{tb:TS}{D:Ends}(Pv:Nat->St->Hp->Prop)(h0:Pv 0 σ H)(hs:∀i σ H,i<n->Pv i σ H->g (.int (lo+i)) σ H λay H2=>tb {D with nx:=Pv (i+1),ct:=Pv (i+1),bk:=D.nx} ay H2)(hd:∀σ H,Pv n σ H->D.nx σ H):∃W:Nat->Nat->St->Hp->Prop,(∃m,W 0 m σ H)/\∀i m σ H,W i m σ H->((Itr lo n).stop i H/\D.nx σ H)\/((Itr lo n).go i H/\∃N,(∀ar H',N ar H'->∃m',m'<m/\W (i+1) m' ar H')/\∀x H',(Itr lo n).yld i H x H'->g x σ H' λay H2=>tb {D with nx:=N,ct:=N,bk:=D.nx} ay H2):=by
 refine⟨λi m σ H=>m=n-i/\i<=n/\Pv i σ H,⟨n,by simp,zAp _,h0⟩,?_⟩;rintro i m σ H⟨rfl,hi,p⟩;by_cases aI:i<n;.refine .inr ⟨aI,Pv (i+1),λar H' p'=>⟨n-(i+1),z00,rfl,aI,p'⟩,λx H' y=>?_⟩;obtain⟨e,y⟩:=y;subst e y;exact hs i σ _ aI p
 .have e:i=n:=z00;subst e;exact .inl ⟨zA3 _,hd σ H p⟩
abbrev R2:=V->V->Hp->VK->Prop
def OpR(X:Cx)(f:Value->Value->Sem Value)(r:R2):Prop:=∀z06 s(σ:St)H x y v u Q,Inv X z06 σ H s->RelV x v->RelV y u->r x y H Q->wpAny (model X.prog X.w) X.A (f v u) (EP X z06 σ Q) X.xe s
def UnR(X:Cx)(f:Value->Sem Value)(r:V->Hp->VK->Prop):Prop:=∀z06 s(σ:St)H x v Q,Inv X z06 σ H s->RelV x v->r x H Q->wpAny (model X.prog X.w) X.A (f v) (EP X z06 σ Q) X.xe s
def fK(X:Cx)(f:Value)(r:List V->Hp->VK->Prop):Prop:=∀z06 s(σ:St)H xs us Q,Inv X z06 σ H s->Vals xs us->r xs H Q->wpAny (model X.prog X.w) X.A (call f us) (EP X z06 σ Q) X.xe s
def tOp(r:R2)(ta tb:TE):TE:=λσ H Q=>ta σ H λx H1=>tb σ H1 λy H2=>r x y H2 Q
def tUn(r:V->Hp->VK->Prop)(ta:TE):TE:=λσ H Q=>ta σ H λx H1=>r x H1 Q
inductive RII(C:Int->Int->Prop)(g:Int->Int->V)(x:V)(y:V)(H:Hp)(Q:VK):Prop|mk:∀i j,(x=.int i)->(y=.int j)->(C i j)->(Q (g i j) H)->RII C g x y H Q
def rI(C:Int->Int->Prop)(g:Int->Int->V):R2:=λx y H Q=>RII C g x y H Q
inductive RI0I(g:Int->Int->V)(x:V)(y:V)(H:Hp)(Q:VK):Prop|mk:∀i j,(x=.int i)->(y=.int j)->(Q (g i j) H)->RI0I g x y H Q
def rI0(g:Int->Int->V):R2:=λx y H Q=>RI0I g x y H Q
inductive RUI(g:Int->V)(x:V)(H:Hp)(Q:VK):Prop|mk:∀i,(x=.int i)->(Q (g i) H)->RUI g x H Q
def rU(g:Int->V):V->Hp->VK->Prop:=λx H Q=>RUI g x H Q
section
theorem La(ha:PE X a ta)(hb:PE X b tb){σ:St}{R:V->V->Hp->Prop}(I:Inv X z06 σ H s)(h:ta σ H λx H1=>tb σ H1 λy H2=>R x y H2){Q:gV}{f:Value->Value->Sem Value}(hf:∀v u s2 x y H2,Inv X z06 σ H2 s2->RelV x v->RelV y u->R x y H2->wpAny (model X.prog X.w) X.A (f v u) Q X.xe s2):wpAny (model X.prog X.w) X.A (eval a X.env) (λv s₁=>wpAny (model X.prog X.w) X.A (eval b X.env) (λu s₂=>wpAny (model X.prog X.w) X.A (f v u) Q X.xe s₂) X.xe s₁) X.xe s:=by refine thn (ha z06 s σ H _ I h) λv s1=>?_;rintro⟨x,H1,I1,r1,q1⟩;refine thn (hb z06 s1 σ H1 _ I1 q1) λu s2=>?_;rintro⟨y,H2,I2,r2,q2⟩;exact hf v u s2 x y H2 I2 r1 r2 q2
theorem aV(ho:OpR X (binaryOp op) r)(ha:PE X a ta)(hb:PE X b tb):PE X (.BinOp a op b pos) (tOp r ta tb):=by intro z06 s σ H Q I h;exact wpAny_BinOp (La ha hb I h λv u s2 x y H2 I2 rx ry q=>ho z06 s2 σ H2 x y v u Q I2 rx ry q)
theorem sG(ho:UnR X (unaryOp op) r)(ha:PE X a ta):PE X (.UnaryOp op a pos) (tUn r ta):=by intro z06 s σ H Q I h;exact UnaryOp_ (thn (ha z06 s σ H _ I h) λv s1=>by rintro⟨x,H1,I1,r1,q1⟩;exact ho z06 s1 σ H1 x v Q I1 r1 q1)
theorem opI{g:Int->Int->Int}(rule:∀i j t u s Q E,C i j->Q (.int (g i j) s.toks) {s with toks:=s.toks+1}->wpAny (model X.prog X.w) X.A (f (.int i t) (.int j u)) Q E s):OpR X f (rI C λi j=>.int (g i j)):=by intro z06 s σ H x y v u Q I rx ry h;obtain⟨i,j,rfl,rfl,hc,q⟩:=h;obtain⟨t,rfl⟩:=rx;obtain⟨t',rfl⟩:=ry;exact rule i j t t' s _ _ hc ⟨.int (g i j),H,I.tok _,⟨_,rfl⟩,q⟩
theorem NQ{g:Int->Int->Int}(rule:∀i j t u s Q E,Q (.int (g i j) s.toks) {s with toks:=s.toks+1}->wpAny (model X.prog X.w) X.A (f (.int i t) (.int j u)) Q E s):OpR X f (rI0 λi j=>.int (g i j)):=by intro z06 s σ H x y v u Q I rx ry h;obtain⟨i,j,rfl,rfl,q⟩:=h;obtain⟨t,rfl⟩:=rx;obtain⟨t',rfl⟩:=ry;exact rule i j t t' s _ _ ⟨.int (g i j),H,I.tok _,⟨_,rfl⟩,q⟩
theorem Ii{g:Int->Int->Bool}(rule:∀i j t u s Q E,Q (.bool (g i j)) s->wpAny (model X.prog X.w) X.A (f (.int i t) (.int j u)) Q E s):OpR X f (rI0 λi j=>.bl (g i j)):=by intro z06 s σ H x y v u Q I rx ry h;obtain⟨i,j,rfl,rfl,q⟩:=h;obtain⟨t,rfl⟩:=rx;obtain⟨t',rfl⟩:=ry;exact rule i j t t' s _ _ ⟨.bl (g i j),H,I,rfl,q⟩
def Qm(i j:Int):Prop:=0<j/\j<1073741824
def DN(i j:Int):Prop:=0<=j/\j<=1000000/\i.natAbs<2^64
def CMul(i j:Int):Prop:=(-(2^64)<i/\i<2^64)\/(-(2^64)<j/\j<2^64)
theorem CMul.ok(h:CMul i j):IntMulOk i j:=by
 rcases h with⟨h1,h2⟩|⟨h1,h2⟩;.exact .of_left (intBits_le_64 h1 h2)
 .exact .of_right (intBits_le_64 h1 h2)
theorem bI:OpR X (binaryOp .Add) (rI0 λi j=>.int (i+j)):=NQ λ_ _ _ _ _ _ _ q=>add_int q
theorem fU:OpR X (binaryOp .Sub) (rI0 λi j=>.int (i-j)):=NQ λ_ _ _ _ _ _ _ q=>sub_int q
theorem j6:OpR X (binaryOp .Mult) (rI CMul λi j=>.int (i*j)):=opI λ_ _ _ _ _ _ _ hc q=>mul_int q hc.ok
theorem uq:OpR X (binaryOp .FloorDiv) (rI Qm λi j=>.int (i/j)):=opI λi j _ _ _ _ _ hc q=>by have h1:(0:Int)<j:=hc.1;have h2:j<1073741824:=hc.2;exact floordiv_int z00 (by rw[Int.fdiv_eq_ediv_of_nonneg i z00];exact q) (.inl (PyProof.noPylong_small z00))
theorem j7:OpR X (binaryOp .Mod) (rI (λ_ j=>0<j) λi j=>.int (i%j)):=opI λi j _ _ _ _ _ hc q=>by exact mod_int' z00 (by rw[Int.fmod_eq_emod_of_nonneg i z00];exact q)
theorem nj:OpR X (binaryOp .Pow) (rI DN λi j=>.int (i^j.toNat)):=opI λ_ _ _ _ _ _ _ hc q=>pow_int_small hc.1 hc.2.1 hc.2.2 q
theorem unI{g:Int->Int}(rule:∀i t s Q E,Q (.int (g i) s.toks) {s with toks:=s.toks+1}->wpAny (model X.prog X.w) X.A (f (.int i t)) Q E s):UnR X f (rU λi=>.int (g i)):=by intro z06 s σ H x v Q I rx h;obtain⟨i,rfl,q⟩:=h;obtain⟨t,rfl⟩:=rx;exact rule i t s _ _ ⟨.int (g i),H,I.tok _,⟨_,rfl⟩,q⟩
theorem nq:UnR X (unaryOp .USub) (rU λi=>.int (-i)):=unI λ_ _ _ _ _ q=>neg_int q
end
def NT:V->V->Bool|.non,.non=>true|.non,.int _=>true|.int _,.non=>true|.non,.bl _=>true|.bl _,.non=>true|.non,.str _=>true|.str _,.non=>true|.int _,.int _=>true|.bl _,.bl _=>true|.str _,.str _=>true|.byt _,.byt _=>true|.int _,.str _=>true|.str _,.int _=>true|.bl _,.str _=>true|.str _,.bl _=>true|_,_=>false
def rEq:R2:=λx y H Q=>NT x y=true/\Q (.bl (decide (x=y))) H
def rNe:R2:=λx y H Q=>NT x y=true/\Q (.bl (!decide (x=y))) H
theorem pB:decide (V.int i=V.int j)=(i==j):=by rw[Zaw];simp
theorem DP:decide (V.bl i=V.bl j)=(i==j):=by rw[Zaw];simp
theorem zm:decide (V.str i=V.str j)=(i==j):=by rw[Zaw];simp
theorem zq:decide (V.byt i=V.byt j)=(i.toList==j.toList):=by rw[Zaw];cases i;cases j;simp
section
theorem bL{σ:St}(I:Inv X z06 σ H s)(q:Q (.bl k) H)(e:k=k'):EP X z06 σ Q (.bool k') s:=by subst e;exact⟨.bl k,H,I,rfl,q⟩
theorem iJ:OpR X (compareOp .Eq) rEq:=by intro z06 s σ H x y v u Q I rx ry h;obtain⟨hs,q⟩:=h;cases x with
 |non=>cases rx;cases y with|non=>cases ry;exact PySem.EqNone.eq_none_none (bL I q z01);|bl j=>cases ry;exact PySem.EqNone.eq_none_bool (bL I q z01);|int j=>obtain⟨t',rfl⟩:=ry;exact PySem.EqNone.eq_none_int (bL I q z01);|str j=>obtain⟨t',rfl⟩:=ry;exact PySem.EqNone.eq_none_str (bL I q z01);|_=>exact absurd (show false=true from hs) zAg
 |bl i=>cases rx;cases y with|non=>cases ry;exact PySem.EqNone.eq_bool_none (bL I q z01);|bl j=>cases ry;exact eq_bool (bL I q DP);|str j=>obtain⟨t',rfl⟩:=ry;exact PySem.EqMixed.eq_bool_str (bL I q z01);|_=>exact absurd (show false=true from hs) zAg
 |int i=>obtain⟨t,rfl⟩:=rx;cases y with|non=>cases ry;exact PySem.EqNone.eq_int_none (bL I q z01);|int j=>obtain⟨t',rfl⟩:=ry;exact eq_int (bL I q pB);|str j=>obtain⟨t',rfl⟩:=ry;exact PySem.EqMixed.eq_int_str (bL I q z01);|_=>exact absurd (show false=true from hs) zAg
 |str i=>obtain⟨t,rfl⟩:=rx;cases y with|non=>cases ry;exact PySem.EqNone.eq_str_none (bL I q z01);|bl j=>cases ry;exact PySem.EqMixed.eq_str_bool (bL I q z01);|int j=>obtain⟨t',rfl⟩:=ry;exact PySem.EqMixed.eq_str_int (bL I q z01);|str j=>obtain⟨t',rfl⟩:=ry;exact eq_str (bL I q zm);|_=>exact absurd (show false=true from hs) zAg
 |byt i=>obtain⟨t,rfl⟩:=rx;cases y with|byt j=>obtain⟨t',rfl⟩:=ry;exact PySem.W.eq_bytes (bL I q zq);|_=>exact absurd (show false=true from hs) zAg
 |_=>cases y<;>exact absurd (show false=true from hs) zAg
theorem sI:OpR X (compareOp .NotEq) rNe:=by intro z06 s σ H x y v u Q I rx ry h;obtain⟨hs,q⟩:=h;cases x with
 |non=>cases rx;cases y with|non=>cases ry;exact PySem.EqNone.ne_none_none (bL I q z01);|bl j=>cases ry;exact PySem.EqNone.ne_none_bool (bL I q z01);|int j=>obtain⟨t',rfl⟩:=ry;exact PySem.EqNone.ne_none_int (bL I q z01);|str j=>obtain⟨t',rfl⟩:=ry;exact PySem.EqNone.ne_none_str (bL I q z01);|_=>exact absurd (show false=true from hs) zAg
 |bl i=>cases rx;cases y with|non=>cases ry;exact PySem.EqNone.ne_bool_none (bL I q z01);|bl j=>cases ry;exact ne_bool (bL I q (congrArg not DP));|str j=>obtain⟨t',rfl⟩:=ry;exact PySem.EqMixed.ne_bool_str (bL I q z01);|_=>exact absurd (show false=true from hs) zAg
 |int i=>obtain⟨t,rfl⟩:=rx;cases y with|non=>cases ry;exact PySem.EqNone.ne_int_none (bL I q z01);|int j=>obtain⟨t',rfl⟩:=ry;exact ne_int (bL I q (congrArg not pB));|str j=>obtain⟨t',rfl⟩:=ry;exact PySem.EqMixed.ne_int_str (bL I q z01);|_=>exact absurd (show false=true from hs) zAg
 |str i=>obtain⟨t,rfl⟩:=rx;cases y with|non=>cases ry;exact PySem.EqNone.ne_str_none (bL I q z01);|bl j=>cases ry;exact PySem.EqMixed.ne_str_bool (bL I q z01);|int j=>obtain⟨t',rfl⟩:=ry;exact PySem.EqMixed.ne_str_int (bL I q z01);|str j=>obtain⟨t',rfl⟩:=ry;exact ne_str (bL I q (congrArg not zm));|_=>exact absurd (show false=true from hs) zAg
 |byt i=>obtain⟨t,rfl⟩:=rx;cases y with|byt j=>obtain⟨t',rfl⟩:=ry;exact PySem.W.ne_bytes (bL I q (congrArg not zq));|_=>exact absurd (show false=true from hs) zAg
 |_=>cases y<;>exact absurd (show false=true from hs) zAg
theorem pO:OpR X (compareOp .Lt) (rI0 λi j=>.bl (decide (i<j))):=Ii λ_ _ _ _ _ _ _ q=>lt_int q
theorem bW:OpR X (compareOp .LtE) (rI0 λi j=>.bl (decide (i<=j))):=Ii λ_ _ _ _ _ _ _ q=>le_int q
theorem oE:OpR X (compareOp .Gt) (rI0 λi j=>.bl (decide (j<i))):=Ii λ_ _ _ _ _ _ _ q=>gt_int q
theorem DQ:OpR X (compareOp .GtE) (rI0 λi j=>.bl (decide (j<=i))):=Ii λ_ _ _ _ _ _ _ q=>ge_int q
theorem ur:OpR X (compareOp .Is) (λx y H Q=>y=.non/\Q (.bl (decide (x=.non))) H):=by intro z06 s σ H x y v u Q I rx ry h;obtain⟨rfl,q⟩:=h;cases ry;refine is_none_gen (bL I q ?_);cases x<;>first|(cases rx;rfl);|(obtain⟨t,rfl⟩:=rx;rfl)
theorem Ij:OpR X (compareOp .IsNot) (λx y H Q=>y=.non/\Q (.bl (!decide (x=.non))) H):=by intro z06 s σ H x y v u Q I rx ry h;obtain⟨rfl,q⟩:=h;cases ry;refine isnot_none_gen (bL I q ?_);cases x<;>first|(cases rx;rfl);|(obtain⟨t,rfl⟩:=rx;rfl)
theorem bu(b:Expr)(h:op≠.In:=by decide)(h2:op≠.NotIn:=by decide):behindInMarks op b=false:=by
 have e1:(op==CmpOp.In)=false:=by cases op<;>first|rfl|exact absurd rfl h
 have e2:(op==CmpOp.NotIn)=false:=by cases op<;>first|rfl|exact absurd rfl h2
 cases b<;>simp[behindInMarks,e1,e2]
theorem fY(ho:OpR X (compareOp op) r)(ha:PE X a ta)(hb:PE X b tb)(hm:behindInMarks op b=false):PE X (.Compare a [op] [b] pos) (tOp r ta tb):=by intro z06 s σ H Q I h;exact wpAny_Compare1 (La ha hb I h λv u s2 x y H2 I2 rx ry q=>ho z06 s2 σ H2 x y v u Q I2 rx ry q) hm
def sJ(t:TE):TT:=λσ H Q=>t σ H λx H'=>∃k,x=.bl k/\Q k H'
theorem bz(ho:OpR X (compareOp op) r)(ha:PE X a ta)(hb:PE X b tb)(hm:behindInMarks op b=false):PT X (.Compare a [op] [b] pos) (sJ (tOp r ta tb)):=by intro z06 s σ H Q I h;refine wpAny_isTrue_Compare1 (thn (ha z06 s σ H _ I h) λv s1⟨x,H1,I1,r1,q1⟩=>thn (hb z06 s1 σ H1 _ I1 q1) λu s2⟨y,H2,I2,r2,q2⟩=>thn (ho z06 s2 σ H2 x y v u _ I2 r1 r2 q2) λc s3⟨z,H3,I3,r3,k,e,q3⟩=>?_) hm;subst e;cases r3;exact wpAny_truthy_bool ⟨H3,I3,q3⟩
def yo(r r':R2)(ta tb tc:TE):TE:=λσ H Q=>ta σ H λx H1=>tb σ H1 λy H2=>r x y H2 λz H3=>∃k,z=.bl k/\(if k=true then tc σ H3 λw' H4=>r' y w' H4 Q else Q (.bl false) H3)
theorem dC(ho:OpR X (compareOp op) r)(kz:OpR X (compareOp tj) r')(ha:PE X a ta)(hb:PE X b tb)(hc:PE X c tc)(hm:lastMarks [op,tj] [b,c]=false:=by with_unfolding_all rfl):PE X (.Compare a [op,tj] [b,c] pos) (yo r r' ta tb tc):=by intro z06 s σ H Q I h;refine Compare_chain (thn (ha z06 s σ H _ I h) λv s1⟨x,H1,I1,r1,q1⟩=>chain_link (thn (hb z06 s1 σ H1 _ I1 q1) λu s2⟨y,H2,I2,r2,q2⟩=>thn (ho z06 s2 σ H2 x y v u _ I2 r1 r2 q2) λd s3⟨z,H3,I3,r3,k,e,q3⟩=>?_)) hm;subst e;cases r3;refine wpAny_truthy_bool ?_;cases k with|false=>exact ite_ff ⟨.bl false,H3,I3,rfl,q3⟩;|true=>exact ite_tt (chain_last (thn (hc z06 s3 σ H3 _ I3 q3) λw' s4=>by rintro⟨z',H4,I4,r4,q4⟩;exact kz z06 s4 σ H4 y z' u w' Q I4 r2 r4 q4))
theorem gm(ho:OpR X (compareOp op) r)(kz:OpR X (compareOp tj) r')(ha:PE X a ta)(hb:PE X b tb)(hc:PE X c tc)(hm:lastMarks [op,tj] [b,c]=false:=by with_unfolding_all rfl):PT X (.Compare a [op,tj] [b,c] pos) (sJ (yo r r' ta tb tc)):=by intro z06 s σ H Q I h;refine isTrue_chain (thn (ha z06 s σ H _ I h) λv s1⟨x,H1,I1,r1,q1⟩=>test_link (thn (hb z06 s1 σ H1 _ I1 q1) λu s2⟨y,H2,I2,r2,q2⟩=>thn (ho z06 s2 σ H2 x y v u _ I2 r1 r2 q2) λd s3⟨z,H3,I3,r3,k,e,q3⟩=>?_)) hm;subst e;cases r3;refine wpAny_truthy_bool ?_;cases k with|false=>obtain⟨k',e',q'⟩:=q3;cases e';exact ite_ff ⟨H3,I3,q'⟩;|true=>refine ite_tt (test_last (thn (hc z06 s3 σ H3 _ I3 q3) λw' s4⟨z',H4,I4,r4,q4⟩=>thn (kz z06 s4 σ H4 y z' u w' _ I4 r2 r4 q4) λd' s5=>?_));rintro⟨z2,H5,I5,r5,k2,e2,q5⟩;subst e2;cases r5;exact wpAny_truthy_bool ⟨H5,I5,q5⟩
theorem nu:(sizeLine:Nat)<2^63:=by rw[sizeLine_eq];decide
theorem vals1(r:Vals [x] us):∃u,us=[u]/\RelV x u:=by cases r with|cons r1 r2=>cases r2;exact⟨_,rfl,r1⟩
theorem vals2(r:Vals [x,y] us):∃u w',us=[u,w']/\RelV x u/\RelV y w':=by cases r with|cons r1 r2=>cases r2 with|cons r3 r4=>cases r4;exact⟨_,_,rfl,r1,r3⟩
theorem sO(hc:X.calm=true):fK X (.builtin "max") (λxs H Q=>∃i j,xs=[.int i,.int j]/\Q (.int (if j>i then j else i)) H):=by
 intro z06 s σ H xs us Q I r h;obtain⟨i,j,rfl,q⟩:=h;obtain⟨u,w',rfl,⟨t,rfl⟩,⟨t',rfl⟩⟩:=vals2 r;refine max_two_ints (I.ok.hd hc) λh' tk k=>⟨_,H,I.kept k,?_,q⟩;by_cases hj:j>i;.rw[zAz hj,zAz hj];exact⟨_,rfl⟩
 .rw[zAy hj,zAy hj];exact⟨_,rfl⟩
theorem jN(hc:X.calm=true):fK X (.builtin "min") (λxs H Q=>∃i j,xs=[.int i,.int j]/\Q (.int (if j<i then j else i)) H):=by
 intro z06 s σ H xs us Q I r h;obtain⟨i,j,rfl,q⟩:=h;obtain⟨u,w',rfl,⟨t,rfl⟩,⟨t',rfl⟩⟩:=vals2 r;refine min_two_ints (I.ok.hd hc) λh' tk k=>⟨_,H,I.kept k,?_,q⟩;by_cases hj:j<i;.rw[zAz hj,zAz hj];exact⟨_,rfl⟩
 .rw[zAy hj,zAy hj];exact⟨_,rfl⟩
theorem BP:fK X (.type "int") (λxs H Q=>(∃i,xs=[.int i]/\Q (.int i) H)\/∃k,xs=[.bl k]/\Q (.int (if k then 1 else 0)) H):=by
 intro z06 s σ H xs us Q I r h;rcases h with⟨i,rfl,q⟩|⟨k,rfl,q⟩;.obtain⟨u,rfl,t,rfl⟩:=vals1 r;exact call_int_int ⟨.int i,H,I,⟨_,rfl⟩,q⟩
 .obtain⟨u,rfl,r1⟩:=vals1 r;cases r1;exact call_int_bool ⟨.int (if k then 1 else 0),H,I.tok _,⟨_,rfl⟩,q⟩
end
structure ObjM(h:Heap)(x dx C:Addr)(mA:Qa0):Prop where
 obj:h.get? x=some (PySem.W.instObj C dx)ns:h.Ns1 dx mA
 ne:dx≠x
theorem BR{h:Heap}(n:h.Ns1 dx mA):∃od,h.get? dx=some od/\∀name,PySem.W.lookIn name od=some (mA name):=by
 obtain⟨o,es,ep,ho,hd,hk,_,hm⟩:=n;refine⟨o,ho,λname=>?_⟩;have e:=hm name;unfold nsFind findBy at e;rw[<-Array.find?_toList]at e;unfold PySem.W.lookIn;rw[hd];dsimp only;split;.rename_i y q;rw[q]at e;exact congrArg some e
 .rename_i q;rw[q]at e;have a:es.toList.any (·.refKey)=false:=by rw[List.any_eq_false];intro y hy;obtain⟨z,t,F5⟩:=hk y (Array.mem_toList_iff.mp hy);simp[DictEntry.refKey,F5]
  have a':¬es.toList.any (·.refKey)=true:=by rw[a];exact zAg
  rw[zAy a'];exact congrArg some e
theorem ObjM.look(I:ObjM h x dx C mA):∃od,PySem.W.InstAt h x (PySem.W.instObj C dx) C (some od)/\∀name,PySem.W.lookIn name od=some (mA name):=let⟨od,ho,hl⟩:=BR I.ns;⟨od,⟨I.obj,rfl,rfl,ho⟩,hl⟩
section
end
theorem RelO.some_of(r:RelO (some v) o):∃u,o=some u/\RelV v u:=by cases o with|none=>exact(r).elim;|some u=>exact⟨u,rfl,r⟩
section
theorem Ik(hok:HOk P w H h)(e:H a=some (.ins C dx fs)):∃mA,ObjM h a dx C mA/\(∀f,RelO (fs.lookup f) (mA f))/\PySem.Within mA (fs.map (·.1))/\fs.length<=1000/\H dx=some (.own a):=by obtain⟨d,z,ne,ob,mA,n,r,q⟩:=(hok a _ e);exact⟨mA,⟨ob,n,ne⟩,r,q,z,d⟩
end
structure Cls(K:Frag)(C:Addr):Prop where
 pg:PySem.W.plainGet K C Str.empty=true
 hd:PySem.W.hasDictIn K C=true
 po:PySem.W.plainOver K C=true
 sa:PySem.W.findIn K (.ref C) "__setattr__"=some (some (.builtin "object.__setattr__"))
theorem Cls.get{K:Frag}(c:Cls K C)(f:Str):PySem.W.plainGet K C f=true:=c.pg
section
end
section
end
section
variable{σ:St}
inductive TyOf(K:Frag)(H:Hp):V->Value->Prop where|non:TyOf K H .non (.type "NoneType")|bl(x:Bool):TyOf K H (.bl x) (.type "bool")|int(i:Int):TyOf K H (.int i) (.type "int")|str(x:Str):TyOf K H (.str x) (.type "str")|flt(x:UInt64):TyOf K H (.flt x) (.type "float")|lst{a:Addr}{xs:List V}(e:H a=some (.lst xs)):TyOf K H (.ref a) (.type "list")|frz{a:Addr}{o:Obj}{xs:List V}(e:H a=some (.frz o (.lst xs))):TyOf K H (.ref a) (.type "list")|tup{a:Addr}{xs:List V}(e:H a=some (.tup xs)):TyOf K H (.ref a) (.type "tuple")|dK{a:Addr}{z07:List (Key×V)}(e:H a=some (.dK z07)):TyOf K H (.ref a) (.type "dict")|dT{a:Addr}{z07:List (List Key×V)}(e:H a=some (.dT z07)):TyOf K H (.ref a) (.type "dict")|ins{a C dx:Addr}{fs:List (Str×V)}(e:H a=some (.ins C dx fs))(cl:Cls K C)(ha:PySem.W.findIn K (.ref C) "__class__"=some (some (.builtin "object.__class__")))(hn:PySem.W.specialIn K (.builtin "object.__class__") "__get__"=some (some (.builtin "getset_descriptor.__get__")))(MU:PySem.W.takesIn K (.builtin "object.__class__")=some true)(hm:PySem.W.mroIn K C (.type "object")=some true):TyOf K H (.ref a) (.ref C)
theorem BV(I:Inv X z06 σ H s)(rx:RelV x u)(ty:TyOf X.K H x t)(e:PySem.W.kitOne X.K t c=some b)(h:∀tk,Q (.bool b) {s with toks:=tk}):wpAny (model X.prog X.w) A (call (.builtin "isinstance") [u,c]) Q E s:=by cases ty with|non=>cases(show u=Value.none from rx);exact PySem.W.kia_one PySem.W.kitx_none I.kIn True.intro e (λz=>nomatch z) h;|bl y=>cases(show u=Value.bool y from rx);exact PySem.W.kia_one PySem.W.kitx_bool I.kIn True.intro e (λz=>nomatch z) h;|int i=>obtain⟨t,q⟩:=(show∃t,u=Value.int i t from rx);cases q;exact PySem.W.kia_one PySem.W.kitx_int I.kIn True.intro e (λz=>nomatch z) h;|str y=>obtain⟨t,q⟩:=(show∃t,u=Value.str y t from rx);cases q;exact PySem.W.kia_one PySem.W.kitx_str I.kIn True.intro e (λz=>nomatch z) h;|flt y=>obtain⟨t,q⟩:=(show∃t,u=Value.float y t from rx);cases q;exact PySem.W.kia_one PySem.W.kitx_float I.kIn True.intro e (λz=>nomatch z) h;|@lst a xs ea=>cases(show u=Value.ref a from rx);obtain⟨_,_,n,_,h1⟩:=(show ObjOk X.prog X.w H s.heap a (.lst xs)from I.hok a _ ea);exact PySem.W.kia_one PySem.W.kitx_list I.kIn ⟨_,h1,rfl⟩ e (λz=>nomatch z) h;|@frz a ob xs ea=>cases(show u=Value.ref a from rx);obtain⟨_,_,_,n,_,h1⟩:=(show ObjOk X.prog X.w H s.heap a (.frz ob (.lst xs))from I.hok a _ ea);exact PySem.W.kia_one PySem.W.kitx_list I.kIn ⟨_,h1,rfl⟩ e (λz=>nomatch z) h;|@tup a xs ea=>cases(show u=Value.ref a from rx);obtain⟨_,_,_,p⟩:=(show ObjOk X.prog X.w H s.heap a (.tup xs)from I.hok a _ ea);obtain⟨o,h1,h2,_⟩:=p;exact PySem.W.kia_one PySem.W.kitx_tuple I.kIn ⟨o,h1,h2⟩ e (λz=>nomatch z) h;|@dK a z07 ea=>cases(show u=Value.ref a from rx);obtain⟨_,_,vs,_,p⟩:=(show ObjOk X.prog X.w H s.heap a (.dK z07)from I.hok a _ ea);obtain⟨o,es,ep,h1,h2,_⟩:=p;exact PySem.W.kia_one PySem.W.kitx_dict I.kIn ⟨o,h1,h2.1⟩ e (λz=>nomatch z) h;|@dT a z07 ea=>cases(show u=Value.ref a from rx);obtain⟨_,_,xs,_,o,es,ep,h1,h2,_⟩:=(show ObjOk X.prog X.w H s.heap a (.dT z07)from I.hok a _ ea);exact PySem.W.kia_one PySem.W.kitx_dict I.kIn ⟨o,h1,h2.1⟩ e (λz=>nomatch z) h;|@ins a C dx fs ea cl ha hn MU hm=>cases(show u=Value.ref a from rx);obtain⟨mA,O,_⟩:=Ik I.hok ea;obtain⟨od,J,_⟩:=O.look;exact PySem.W.kia_one (PySem.W.kitx_own (cl.get _) cl.hd ha hn MU hm) I.kIn J e (λz=>nomatch z) h
end
structure Room(k:Nat)(A:Around):Prop where
 hd:A.handled=none
 dp:A.depth+3*k+5<recursionLimit
 un:A.units+16*k+200<cLine
 gd:A.guards=some []
theorem Room.mono(r:Room k A)(h:j<=k):Room j A:=⟨r.hd,by have:=r.dp;lia,by have:=r.un;lia,r.gd⟩
theorem Room.deeper(r:Room (k+1) A)(env:Env):Room k (A.deeper env):=⟨r.hd,by have:=r.dp;show A.depth+1+3*k+5<_;lia,by have:=r.un;show A.units+3+16*k+200<_;lia,r.gd⟩
theorem Room.depth(r:Room k A):A.depth<recursionLimit:=by have:=r.dp;lia
theorem Room.units(r:Room k A):A.units+64<cLine:=by have:=r.un;lia
def nA:TA:=λ_ H Q=>Q [] H
def dU(ta:TE)(tr:TA):TA:=λσ H Q=>ta σ H λx H1=>tr σ H1 λxs H2=>Q (x::xs) H2
section
theorem aj:PA X [] nA:=λ_ _ _ _ H Q I h=>Calls.spliced_nil ⟨[],H,I,.nil,h⟩
abbrev Qab(X:Cx)(e:Expr)(es:List Expr):Prop:=starEach (e::es) X.env=(false,eval e X.env)::starEach es X.env
theorem aP(ha:PE X e te)(hr:PA X es t)(hs:Qab X e es:=by rfl):PA X (e::es) (dU te t):=by intro pos z06 s σ H Q I h;rw[hs];show wpAny _ _ (spliced ((false,eval e X.env)::backTo pos (starEach es X.env))) _ _ s;refine Calls.spliced_cons (thn (ha z06 s σ H _ I h) λu s1=>?_);rintro⟨x,H1,I1,r1,q1⟩;exact thn (hr pos z06 s1 σ H1 _ I1 q1) λus s2=>by rintro⟨xs,H2,I2,r2,q2⟩;exact⟨x::xs,H2,I2,.cons r1 r2,q2⟩
def qY(t:TA):TE:=λσ H Q=>t σ H λxs H1=>xs.length<=sizeLine/\∀p,H1 p=none->Q (.ref p) (upd H1 p (.tup xs))
def Il(t:TA):TE:=λσ H Q=>t σ H λxs H1=>xs.length<=sizeLine/\∀p,H1 p=none->Q (.ref p) (upd H1 p (.lst xs))
theorem cJ{x1}(h:PA X es t):PE X (.Tuple es x1 pos) (qY t):=by intro z06 s σ H Q I hq;refine wpAny_Tuple_spliced (thn (h pos z06 s σ H _ I hq) λus s1⟨xs,H1,I1,r,z,q⟩=>⟨by rw[<-r.length];exact z,?_⟩);have hf:H1 s1.heap.objs.size=none:=I1.hok.fresh (zA3 _);refine⟨.ref s1.heap.objs.size,upd H1 s1.heap.objs.size (.tup xs),I1.laid (t':=s1.toks) (λb u e=>zAu _ e) (zA3 _) ?_,rfl,q _ hf⟩;exact⟨z,us,r,⟨_,zB1 _ rfl,rfl,_,rfl⟩⟩
theorem cY(h:PA X es t):PE X (.List es pos) (Il t):=by intro z06 s σ H Q I hq;refine wpAny_List_spliced (thn (h pos z06 s σ H _ I hq) λus s1⟨xs,H1,I1,r,z,q⟩=>⟨by rw[<-r.length];exact z,?_⟩);have hf:H1 s1.heap.objs.size=none:=I1.hok.fresh (zA3 _);refine⟨.ref s1.heap.objs.size,upd H1 s1.heap.objs.size (.lst xs),I1.laid (t':=s1.toks) (λb u e=>zAu _ e) (zA3 _) ?_,rfl,q _ hf⟩;exact⟨z,us,0,r,zB1 _ rfl⟩
end
abbrev Sp:=List V->Hp->VK->XK->Prop
abbrev CXT:=List Env->Hp->Shared->XK->gV
structure Env0(P:Program)(w:World)(K:Frag)(mg:Qa0)(base:Heap)(A:Around)(outer:List Env)(s:Shared)(H:Hp):Prop where
 frames:A.frames=some outer
 mod:Mod K mg base
 bs:∀b o,base.get? b=some o->s.heap.get? b=some o/\H b=none
 bsz:base.objs.size<=s.heap.objs.size
 funs:s.heap.FunFrames base outer
 frf:∀b∈frs outer,H b=none
 hok:HOk P w H s.heap
 bare:AllBare s.gens
def CE(outer:List Env)(P:Program)(w:World)(H:Hp)(s:Shared)(Q:VK)(u:Value)(s':Shared):Prop:=∃v H',s'.os=s.os/\AllBare s'.gens/\Un (frs outer) [] H H' s.heap s'.heap/\HOk P w H' s'.heap/\RelV v u/\Q v H'
def CR(CX:CXT)(outer:List Env)(P:Program)(w:World)(H:Hp)(s:Shared)(Q:VK)(E:XK)(r:Result)(s':Shared):Prop:=match r with|.ok (.ret u)=>CE outer P w H s Q u s'|.ok _=>False|.error e=>CX outer H s E e s'
structure FnOk(P:Program)(w:World)(K:Frag)(mg:Qa0)(base:Heap)(CX:CXT)(k:Nat)(f:Addr)(fd:FuncData)(ps:Qa7)(sp:Sp):Prop where
 len:∀vs H Q E,sp vs H Q E->vs.length=ps.length
 run:∀A outer s H args us vs Q E,Room k A->Env0 P w K mg base A outer s H->BindsTo s fd args (ps.zip us)->Vals vs us->sp vs H Q E->codeAny (model P w) A (.call (.ref f) args) (CR CX outer P w H s Q E) s
theorem FnOk.imp{K:Frag}(F:FnOk P w K mg base CX k f fd ps sp)(h:∀vs H Q E,sp' vs H Q E->sp vs H Q E):FnOk P w K mg base CX k f fd ps sp':=⟨λvs H Q E q=>F.len vs H Q E (h _ _ _ _ q),λA outer s H args us vs Q E hr he hb hv hs=>F.run A outer s H args us vs Q E hr he hb hv (h _ _ _ _ hs)⟩
section
variable{σ:St}
theorem Inv.env0(I:Inv X z06 σ H s):Env0 X.prog X.w X.K X.mg X.base X.A X.stack s H:=⟨I.ok.frames,I.ok.mod,I.bs,Zaf I.ok.bsz I.sz,I.stack,I.stkFree,I.hok,I.bare⟩
theorem Inv.after(I:Inv X z06 σ H s)(h:CE X.stack X.prog X.w H s Q u s'):EP X z06 σ Q u s':=by obtain⟨v,H',os,bare,un,hok,r,q⟩:=h;obtain⟨hh,g,d,t,SN⟩:=s';obtain rfl:SN=s.os:=os;exact⟨v,H',I.call (h':=hh) (g':=g) (d':=d) (t':=t) (ch:=[]) un hok bare (λb z=>absurd z z01),r,q⟩
end
def vM(sp:Sp)(qo:List V)(E:XK)(t:TA):TE:=λσ H Q=>t σ H λvs H1=>sp (vs++qo) H1 Q E
def Binds(K:Frag)(fd:FuncData)(ps:Qa7)(ds:Qa4):Prop:=∀s us,K.In s.heap->(us++ds).length=ps.length->BindsTo s fd ⟨us,[]⟩ (ps.zip (us++ds))
theorem Binds.all{K:Frag}(h:∀us,us.length=ps.length->bindArgs fd ⟨us,[]⟩=pure (ps.zip us)):Binds K fd ps []:=λs us _ hl=>by rw[zAn]at hl⊢;exact .of_eq (h us hl)
def ut(CX:CXT)(X:Cx)(E:XK):Prop:=∀z06(σ:St)H s e s',Inv X z06 σ H s->CX X.stack H s E e s'->X.xe e s'
section
variable{p pos apos:Pos}
theorem Lb{σ:St}(F:FnOk X.prog X.w X.K X.mg X.base CX k f fd ps sp)(hr:Room k X.A)(hb:Binds X.K fd ps ds)(hd:Vals qo ds)(hx:ut CX X E)(I:Inv X z06 σ H s)(r:Vals vs us)(h:sp (vs++qo) H Q E):wpAny (model X.prog X.w) X.A (call (.ref f) us) (EP X z06 σ Q) X.xe s:=by
 have r2:Vals (vs++qo) (us++ds):=r.append hd;have hl:(us++ds).length=ps.length:=by rw[<-r2.length];exact F.len _ _ _ _ h
 refine wpAny_call (codeAny_mono (F.run X.A X.stack s H ⟨us,[]⟩ (us++ds) (vs++qo) Q E hr I.env0 (hb s us I.kIn hl) r2 h) λr s' hq=>?_);cases r with|error e=>exact hx z06 σ H s e s' I hq;|ok fl=>cases fl with|ret u=>exact I.after hq;|next=>exact False.elim hq;|brk=>exact False.elim hq;|cont=>exact False.elim hq
abbrev Qac(X:Cx)(p:Pos)(es:List Expr):Prop:=(backTo p (starEach es X.env)).any (·.1)=false
theorem zr(F:FnOk X.prog X.w X.K X.mg X.base CX k f fd ps sp)(hr:Room k X.A)(hg:Gl X x)(hm:X.mg x=some (.ref f))(hk:PySem.W.keepIn X.K (.ref f)=true)(hb:Binds X.K fd ps ds)(hd:Vals qo ds)(hx:ut CX X E)(ha:PA X (e::es) t)(fE:Qad x:=by decide)(he:Qab X e es:=by rfl)(fx:Qac X pos es:=by rfl):PE X (.Call (.Name x p) (e::es) [] pos) (vM sp qo E t):=by intro z06 s σ H Q I h;refine wpAny_Call_Name_kw (jL I hg hm ?_ fE);refine PySem.W.callWith_K (h₀:=X.base) I.ok.mod.kin hk (thn (ha pos z06 s σ H _ I h) λus s1⟨vs,H1,I1,r,q⟩=>⟨I1.kIn,?_⟩) he fx;exact Lb F hr hb hd hx I1 r q
end
section
end
structure FnScope(N P:Qa7)(sc:Scope):Prop where
 kind:sc.kind=.function
 co:sc.isCoroutine=false
 gen:sc.isGenerator=false
 nd:N.Nodup
 pre:N.take P.length=P
 par:∀x∈P,sc.names.lookup x=some .local\/sc.names.lookup x=some .cell
 nofree:∀y∈sc.names,y.2≠.free
theorem sS{kindOf:Str->Option NameKind}:∀{binds:List (Str×Value)}{m:Qa0},(∀v,(x,v)∉binds)->bindL kindOf binds m x=m x
 |[],_,_=>rfl|(n,v)::r,m,h=>by
  unfold bindL;rw[sS λw hw=>h w (Zai _ hw)];split
  .have:x≠n:=by rintro rfl;exact h v Zan
   simp[this]
  .rfl
theorem sU{kindOf:Str->Option NameKind}:∀{binds:List (Str×Value)}{m:Qa0},(∀v,(x,v)∉binds)->bindC kindOf binds m x=m x
 |[],_,_=>rfl|(n,v)::r,m,h=>by
  unfold bindC;rw[sU λw hw=>h w (Zai _ hw)];split;.rfl
  .have:x≠n:=by rintro rfl;exact h v Zan
   simp[this]
theorem sV{kindOf:Str->Option NameKind}:∀{P:Qa7}{vs:Qa4}{i:Nat}{m:Qa0},P.Nodup->P[i]?=some x->vs[i]?=some v->kindOf x=some .local->bindL kindOf (P.zip vs) m x=some v|[],_,_,_,_,h,_,_=>by simp at h;|_::_,[],_,_,_,_,h,_=>by simp at h;|p::P,w::vs,0,m,nd,h1,h2,hk=>by simp at h1 h2;subst h1;subst h2;show bindL kindOf ((p,w)::P.zip vs) m p=_;unfold bindL;rw[sS λv hv=>(List.nodup_cons.mp nd).1 (List.of_mem_zip hv).1,zAz hk];simp;|p::P,w::vs,i+1,m,nd,h1,h2,hk=>by show bindL kindOf ((p,w)::P.zip vs) m x=_;unfold bindL;exact sV (i:=i) (List.nodup_cons.mp nd).2 (by simpa using h1) (by simpa using h2) hk
theorem sW{kindOf:Str->Option NameKind}:∀{P:Qa7}{vs:Qa4}{i:Nat}{m:Qa0},P.Nodup->P[i]?=some x->vs[i]?=some v->kindOf x≠some .local->bindC kindOf (P.zip vs) m x=some v|[],_,_,_,_,h,_,_=>by simp at h;|_::_,[],_,_,_,_,h,_=>by simp at h;|p::P,w::vs,0,m,nd,h1,h2,hk=>by simp at h1 h2;subst h1;subst h2;show bindC kindOf ((p,w)::P.zip vs) m p=_;unfold bindC;rw[sU λv hv=>(List.nodup_cons.mp nd).1 (List.of_mem_zip hv).1,zAy hk];simp;|p::P,w::vs,i+1,m,nd,h1,h2,hk=>by show bindC kindOf ((p,w)::P.zip vs) m x=_;unfold bindC;exact sW (i:=i) (List.nodup_cons.mp nd).2 (by simpa using h1) (by simpa using h2) hk
def start(N:Qa7)(vs:List V):St:=vs.map some++List.replicate (N.length-vs.length) none
def jr(CX:CXT)(P:Program)(w:World)(K:Frag)(mg:Qa0)(base:Heap)(N:Qa7)(qual:Str)(scope:Scope)(f:Addr)(cd:Value)(A:Around)(outer:List Env)(s:Shared)(H:Hp)(E:XK):Cx where prog:=P;w:=w;K:=K;mg:=mg;base:=base;A:=A.deeper (envOfC qual scope s.heap.objs.size f cd);N:=N;s₀:=s;H₀:=H;env:=envOfC qual scope s.heap.objs.size f cd;outer:=outer;stack:=envOfC qual scope s.heap.objs.size f cd::outer;ex:=[];calm:=true;fn:=λ_=>true;pn:=[];xe:=λe s'=>wpAny (model P w) (A.deeper (envOfC qual scope s.heap.objs.size f cd)) (leaving (envOfC qual scope s.heap.objs.size f cd) e) (λ_ kN=>CX outer H s E e kN) (λe' kN=>CX outer H s E e' kN) s'
theorem vN{sc:Scope}(h:sc.names.lookup x=some .cell):∃c,(cellsFrom n sc.names []).lookup x=some c:=by have q:=PySem.W.cellsFrom_some sc.names n [] (.inl h);exact Zax.mp q
theorem sX{K:Frag}(S:FnScope N ps scope)(hd:A.handled=none)(e0:Env0 P w K mg base A outer s H)(hl:vs.length=ps.length)(r:Vals vs us)(x:InCallC s s.heap.objs.size (bindL (envOfC qual scope s.heap.objs.size f cd).kindOf (ps.zip us) λ_=>none) (cellsFrom (s.heap.objs.size+1) scope.names []) (bindC (envOfC qual scope s.heap.objs.size f cd).kindOf (ps.zip us) λ_=>none) s1):Inv (jr CX P w K mg base N qual scope f cd A outer s H E) [] (start N vs) H s1:=by
 have fx:ps.length<=N.length:=by have:=congrArg List.length S.pre;rw[zAd]at this;lia
 obtain⟨h1,tk,rfl,hk⟩:=x.done;have AR:∀b:Addr,b∉(jr CX P w K mg base N qual scope f cd A outer s H E).ex:=λb z=>absurd (show b∈([]:Qa9)from z) z01;refine⟨⟨e0.mod,S.kind,rfl,rfl,zA3 _,λy z c h1 h2=>?_,λy hy=>?_,λy c _ h=>?_,λ_=>hd,Around.frames_deeper e0.frames,.inr ⟨rfl,rfl⟩,λb z=>absurd z (AR b),e0.bs,e0.bsz,λb _ _=>AR b,λb z=>absurd z (AR b),e0.funs,e0.frf⟩,rfl,e0.bare,Un.kept hk,⟨_,x.toInCall.ns,λi y v h1 h2 h3=>?_⟩,λy c h=>⟨_,x.cell y c h⟩,e0.hok.fresh (zA3 _),λy c h=>?_,λp hp=>absurd (show p∈([]:Qa1)from hp) z01,e0.hok.kept hk,?_⟩;.exact name_of_addr x.apart (PySem.mem_of_lookup h1) (PySem.mem_of_lookup h2)
 .have hy:scope.names.lookup y=some .cell\/scope.names.lookup y=some .free:=hy;rcases hy with hy|hy;.exact vN hy
  .exact absurd rfl (S.nofree _ (PySem.mem_of_lookup hy))
 .exact Za7 (x.above y c (PySem.mem_of_lookup h))
 .have hi:i<vs.length:=by
   unfold start at h2;by_cases hi:i<vs.length;.exact hi
   .rw[zBc (by simpa using hi)]at h2;rw[List.getElem?_replicate]at h2;split at h2<;>cases h2
  have ha:vs[i]?=some v:=by unfold start at h2;rw[zBb (by simpa using hi),zAb]at h2;cases e:vs[i]? with|none=>rw[e]at h2;cases h2;|some a=>rw[e]at h2;cases h2;rfl
  obtain⟨u,hu,rv⟩:=r.get ha;have hp:ps[i]?=some y:=by rw[<-S.pre,List.getElem?_take_of_lt z00];exact h1
  have MV:ps.Nodup:=by rw[<-S.pre];exact S.nd.sublist (List.take_sublist _ _)
  refine⟨u,rv,?_⟩;rcases S.par y (zB5 hp)with k|k;.exact .inl ⟨k,sV MV hp hu k⟩
  .obtain⟨c,e⟩:=vN (n:=s.heap.objs.size+1) k;refine .inr ⟨.inl k,c,e,?_⟩;have q:=x.cell y c e;rw[sW MV hp hu (by show scope.names.lookup y≠_;rw[k];decide)]at q;exact q
 .exact e0.hok.fresh (Za7 (x.above y c (PySem.mem_of_lookup h)))
 .unfold start;show _=N.length;rw[zA2,zA1,Za9];lia
theorem DR{K:Frag}{dV kV doc pm af ct oc:Value}{an od:Option Addr}{kP:Array (Option Value)}{N ps:Qa7}{sp:Sp}(lk:K.lookup f=some ⟨oc,od,.func (PySem.W.fnOf name qual params body scope dV kV doc pm an af ct),kP⟩)(ff:PySem.W.codeIn K af qual=true)(S:FnScope N ps scope)(len:∀vs H Q E,sp vs H Q E->vs.length=ps.length)(aS:∀A outer s H vs Q E,Room k (A.deeper (envOfC qual scope s.heap.objs.size f af))->sp vs H Q E->∃t,PSs (jr CX P w K mg base N qual scope f af A outer s H E) body t/\t {nx:=λ_ H'=>Q .non H',rt:=Q} (start N vs) H):FnOk P w K mg base CX (k+1) f (PySem.W.fnOf name qual params body scope dV kV doc pm an af ct) ps sp:=by
 refine⟨len,λA outer s H args us vs Q E hr e0 hb r iO=>?_⟩;have hl:=len _ _ _ _ iO;have KX:K.In s.heap:=e0.mod.kin.keeps λb o e=>(e0.bs b o e).1;have lim:s.heap.NoLimit:=e0.mod.nolimit.keeps λb o e=>(e0.bs b o e).1;have lh:∀y∈ps.zip us,scope.names.lookup y.1=some .local\/(scope.names.lookup y.1=some .cell/\((cellsFrom (s.heap.objs.size+1) scope.names []).lookup y.1).isSome=true):=λ⟨n,v⟩hy=>by
  rcases S.par n (List.of_mem_zip hy).1 with q|q;.exact .inl q
  .exact .inr ⟨q,PySem.W.cellsFrom_some _ _ _ (.inl q)⟩
 refine codeAny_call_function hr.depth (KX _ _ lk) rfl S.co S.gen rfl (PySem.W.codeRec_of KX ff) (hb _ _ _ _ ?_);refine wpAny_newFunctionEnv_cells S.kind lh λenv he s1 x=>?_;subst he;refine⟨lim.keeps x.toInCall.keep,codeAny_func ?_⟩;obtain⟨t,ht,hq⟩:=aS A outer s H vs Q E (hr.deeper _) iO;have I:Inv (jr CX P w K mg base N qual scope f af A outer s H E) [] (start N vs) H s1:=sX S hr.hd e0 hl r x;refine wpAny_mono (ht [] s1 (start N vs) H _ I hq) (λfl s' hs=>?_) λe s' hs=>hs;have fin:∀{ar:St}{H':Hp}{v:V}{u:Value},Inv (jr CX P w K mg base N qual scope f af A outer s H E) [] ar H' s'->RelV v u->Q v H'->CE outer P w H s Q u s':=λ{ar H' v u}J rv q=>⟨v,H',J.os,J.bare,J.base,J.hok,rv,q⟩;cases fl with|ret u=>obtain⟨v,ar,H',J,rv,q⟩:=hs;exact fin J rv q;|next=>obtain⟨ar,H',J,q⟩:=hs;exact fin (v:=V.non) (u:=Value.none) J rfl q;|brk=>obtain⟨_,_,_,q⟩:=hs;exact False.elim q;|cont=>obtain⟨_,_,_,q⟩:=hs;exact False.elim q
section
variable{p pos:Pos}{id T:String}
def tCB(r:List V->Hp->VK->Prop)(t:TA):TE:=λσ H Q=>t σ H λvs H1=>r vs H1 Q
theorem aM(hc:fK X (.builtin id) r)(hg:Gl X x)(hm:X.mg x=none)(hv:bootBuiltins x=some (.builtin id))(ha:PA X (e::es) t)(hn:x≠"__name__":=by decide)(fE:Qad x:=by decide)(he:Qab X e es:=by rfl)(fx:Qac X pos es:=by rfl):PE X (.Call (.Name x p) (e::es) [] pos) (tCB r t):=by intro z06 s σ H Q I h;refine wpAny_Call_Name_kw (iy I hg hm hv ?_ hn fE);exact PyProof.Rows.callWith_builtin1 (thn (ha pos z06 s σ H _ I h) λus s1=>by rintro⟨vs,H1,I1,r1,q1⟩;exact hc z06 s1 σ H1 vs us Q I1 r1 q1) he fx
theorem dH(hc:fK X (.type T) r)(hg:Gl X x)(hm:X.mg x=none)(hv:bootBuiltins x=some (.type T))(ha:PA X (e::es) t)(hn:x≠"__name__":=by decide)(fE:Qad x:=by decide)(he:Qab X e es:=by rfl)(fx:Qac X pos es:=by rfl):PE X (.Call (.Name x p) (e::es) [] pos) (tCB r t):=by intro z06 s σ H Q I h;refine wpAny_Call_Name_kw (iy I hg hm hv ?_ hn fE);exact PyProof.Rows.callWith_type1 (thn (ha pos z06 s σ H _ I h) λus s1=>by rintro⟨vs,H1,I1,r1,q1⟩;exact hc z06 s1 σ H1 vs us Q I1 r1 q1) he fx
end
end L2
namespace HT
open PySem PyProof.Rows
section
open PySem.SeqAt
open PySem.AutoSeq1 (wpAny_loadPart')
open PySem.MeetsSeq PySem.MeetsSeq2 PySem.MeetsSeq3
end
section
theorem cat_tup(ht:IsTup s.heap t vs.toArray)(hb:IsTup s.heap b ws.toArray)(hv:vs≠[])(h1:ws=[]->Q (.ref t) s)(h2:ws≠[]->Q (.ref s.heap.objs.size) {s with heap:=s.heap.push {cls:=.type "tuple",data:=.seq (vs++ws).toArray}})(hsz:vs.length+ws.length<=sizeLine):wpAny (model prog w) A (binaryOp .Add (.ref t) (.ref b)) Q E s:=by
 obtain⟨⟨cls,dd,data,sl⟩,ho,hc,n,hd⟩:=id ht;obtain⟨⟨F6,yn,data2,kB⟩,nN,tq,n2,hd2⟩:=id hb;simp only at hc hd tq hd2;subst hc hd tq hd2;have e:vs.toArray++ws.toArray=(vs++ws).toArray:=by simp
 by_cases hw:ws=[];.exact concat_meets ⟨_,ho,rfl⟩ ⟨_,nN,rfl⟩ noFill_tuple_add seq_tuple_add PySem.F.slot_tuple_add PySem.F.entry_tuple_add (PySem.F.args_tuple_add_2 _ _) (tuple_addW1 t b vs.toArray ws.toArray n n2 dd yn sl kB (by simpa using hv) (by simp[hw])) ⟨ho,nN,h1 hw⟩
 .refine concat_meets ⟨_,ho,rfl⟩ ⟨_,nN,rfl⟩ noFill_tuple_add seq_tuple_add PySem.F.slot_tuple_add PySem.F.entry_tuple_add (PySem.F.args_tuple_add_2 _ _) (tuple_addW2 t b vs.toArray ws.toArray n n2 dd yn sl kB (by simpa using hv) (by simpa using hw) (by rw[zA8];exact hsz)) ⟨ho,nN,?_⟩;rw[e];exact h2 hw
def sIx(n d:Nat):Option Int->Nat|none=>d|some v=>if v<0 then(v+(n:Int)).toNat else min v.toNat n
theorem sIx_none(n d:Nat):sIx n d none=d:=rfl
theorem sIx_nat(n d k:Nat):sIx n d (some (k:Int))=min k n:=by rfl
theorem Ld(n d:Nat)(hd:d<=n)(o:Option Int):sIx n d o<=n:=by cases o with|none=>exact hd;|some v=>
  show(if v<0 then(v+(n:Int)).toNat else min v.toNat n)<=n;by_cases hv:v<0;.rw[zAz hv];lia
  .rw[zAy hv];exact Nat.min_le_right _ _
theorem pC(v:Int)(n d:Nat):(if v<0 then max (v+(n:Int)) 0 else min v (n:Int))=((sIx n d (some v):Nat):Int):=by
 show(if v<0 then max (v+(n:Int)) 0 else min v (n:Int))=(((if v<0 then(v+(n:Int)).toNat else min v.toNat n):Nat):Int);by_cases hv:v<0;.simp only[if_pos hv];lia
 .simp only[if_neg hv];lia
theorem yp(lo hi:Option Int)(n:Nat):Builtin.Slice.sliceAdjust lo hi 1 (n:Int)=(((sIx n 0 lo:Nat):Int),((sIx n n hi:Nat):Int)):=by
 refine Prod.ext ?_ ?_;.cases lo with|none=>rfl;|some v=>exact pC v n 0
 .cases hi with|none=>rfl;|some v=>exact pC v n n
theorem yq(i j:Nat):Builtin.Slice.slicePlaces (i:Int) (j:Int) 1=j-i:=by unfold Builtin.Slice.slicePlaces;split<;>lia
theorem pP(p:IsPart v o)(h:Q o s):wpAny (model prog w) A (Builtin.Slice.slicePartIndex v) Q E s:=by cases p with|none=>exact slicePart_none h;|int i t=>exact slicePart_int h
theorem iK{lo hi:Option Int}{Q:Int×Int×Nat->Shared->Prop}(hs:s.heap.IsSliceOf sl vl vu .none)(pl:IsPart vl lo)(pu:IsPart vu hi)(h:Q (((sIx n 0 lo:Nat):Int),1,sIx n n hi-sIx n 0 lo) s):wpAny (model prog w) A (Builtin.Slice.sliceApplied (.ref sl) (pure (n:Int))) Q E s:=by obtain⟨os,tw,EF,AS⟩:=id hs;unfold Builtin.Slice.sliceApplied Builtin.Slice.sliceFields;refine zAt (zAt (wpAny_field tw AS (x:=vl) rfl (zAt (wpAny_field tw AS (x:=vu) rfl (zAt (wpAny_field tw AS (x:=.none) rfl (zAx ?_)))))));refine zAt (slicePart_none ?_);show wpAny _ _ (if((1:Int)==0)=true then _ else _) _ _ s;rw[zAy z02];refine zAt (pP pl (zAt (pP pu (zAt (zAx ?_)))));show wpAny _ _ (match Builtin.Slice.sliceAdjust lo hi 1 (n:Int)with|(lo,hi)=>pure (lo,(1:Int),Builtin.Slice.slicePlaces lo hi 1)) _ _ s;rw[yp lo hi n];show wpAny _ _ (pure (((sIx n 0 lo:Nat):Int),(1:Int),Builtin.Slice.slicePlaces ((sIx n 0 lo:Nat):Int) ((sIx n n hi:Nat):Int) 1)) _ _ s;rw[yq];exact zAx h
theorem DW(xs:Qa5)(i k:Nat):((List.range k).filterMap λ(m:Nat)=>xs[((i:Int)+(m:Int)*1).toNat]?).toArray=((xs.toList.drop i).take k).toArray:=by
 have e:(λ(m:Nat)=>xs[((i:Int)+(m:Int)*1).toNat]?)=λm=>xs[i+m]?:=by grind
 rw[e];have:=pick_run xs i k;rw[List.filterMap_map]at this;have e2:((λx=>xs[x]?)∘λx=>i+x)=λm=>xs[i+m]?:=rfl;rw[e2]at this;rw[this]
theorem getItem_tuple_cut{lo hi:Option Int}(ht:IsTup s.heap t items)(hs:s.heap.IsSliceOf sl vl vu .none)(pl:IsPart vl lo)(pu:IsPart vu hi)(hw:¬(sIx items.size 0 lo=0/\sIx items.size items.size hi=items.size))(h:Q (.ref s.heap.objs.size) {s with heap:=s.heap.push {cls:=.type "tuple",data:=.seq ((items.toList.drop (sIx items.size 0 lo)).take (sIx items.size items.size hi-sIx items.size 0 lo)).toArray}})(hsz:items.size<=sizeLine):wpAny (model prog w) A (getItem (.ref t) (.ref sl)) Q E s:=by
 have kf:sizeOk (.seq ((items.toList.drop (sIx items.size 0 lo)).take (sIx items.size items.size hi-sIx items.size 0 lo)).toArray):=by show((items.toList.drop (sIx items.size 0 lo)).take (sIx items.size items.size hi-sIx items.size 0 lo)).toArray.size<=sizeLine;rw[zA8,zAd,Zap,zA9];lia
 have hj:sIx items.size items.size hi<=items.size:=Ld _ _ (zA3 _) hi;obtain⟨os,tw,EF,AS⟩:=id hs;have F7:s.TypeIs (.ref sl) "slice":=⟨os,tw,EF⟩;unfold getItem;try with_reducible refine wpAny_holding ?_
 first|refine zAt (zAx ?_)|skip
 refine zAt (wpAny_sequenceKey ht.typeIs z02 ?_);refine zAt (wpAny_callSpecial?_slot (name:=Str.ofString "__getitem__") ht.typeIs PyProof.Rows.slot_tuple_getitem (wpAny_call_entry PyProof.Rows.slot_tuple_getitem ht.typeIs entry_tuple_getitem ?_ (args_tuple_getitem _ _)));show wpAny _ _ (Builtin.Tuple.tupleItemsOf (.ref t)>>=_) _ _ s;refine zAt (tupleItemsOf_ ht ?_);refine zAt (wpAny_typeOf F7 ?_);rw[zAz z02];refine zAt (iK hs pl pu ?_);have F9:¬((((sIx items.size 0 lo:Nat):Int)==0&&(1:Int)==1&&(sIx items.size items.size hi-sIx items.size 0 lo)==items.size)=true):=by intro q;rw[zAc,zAc]at q;have q1:((sIx items.size 0 lo:Nat):Int)=0:=eq_of_beq q.1.1;have q2:sIx items.size items.size hi-sIx items.size 0 lo=items.size:=eq_of_beq q.2;exact hw ⟨z00,z00⟩
 show wpAny _ _ (if(((sIx items.size 0 lo:Nat):Int)==0&&(1:Int)==1&&(sIx items.size items.size hi-sIx items.size 0 lo)==items.size)=true then _ else _) _ _ s;rw[zAy F9,DW];first|exact zAt (m:=Builtin.Tuple.tupleExact _) (Zac (zAx ⟨_,rfl,zAx h⟩) kf);|exact zAt (m:=Builtin.Tuple.tupleExact _) (Zac (zAt (zAx (zAx ⟨_,rfl,zAx h⟩))) kf);|exact zAt (zAt (m:=Builtin.Tuple.tupleExact _) (Zac (zAx (zAx ⟨_,rfl,zAx h⟩)) kf));|exact zAt (zAt (m:=Builtin.Tuple.tupleExact _) (Zac (zAx ⟨_,rfl,zAx h⟩) kf))
end
end HT
namespace L2
open PySem PySem.Spec PyProof.Rows
abbrev TO:=St->Hp->(Option Int->Hp->Prop)->Prop
def PO(X:Cx)(e:Option Expr)(t:TO):Prop:=∀z06 s(σ:St)H Q,Inv X z06 σ H s->t σ H Q->wpAny (model X.prog X.w) X.A (evalPart e X.env) (λu s'=>∃o H',Inv X z06 σ H' s'/\IsPart u o/\Q o H') X.xe s
def Im:TO:=λ_ H Q=>Q none H
def NZ(t:TE):TO:=λσ H Q=>t σ H λx H1=>∃i,x=.int i/\Q (some i) H1
theorem intsAre_of{ns:WF}:∀{us:Qa4},Vals (ns.map V.int) us->IntsAre us ns:=by induction ns with|nil=>intro us r;rw[List.map_nil]at r;cases r;exact .nil;|cons n ns ih=>intro us r;cases r with|cons r1 r2=>obtain⟨t,e⟩:=r1;subst e;exact .cons n t (ih r2)
section
variable{lo hi:Option Expr}
theorem uv:PO X none Im:=by intro z06 s σ H Q I h;exact zAx ⟨none,H,I,.none,h⟩
theorem uw(h:PE X e te):PO X (some e) (NZ te):=by intro z06 s σ H Q I hw;refine thn (h z06 s σ H _ I hw) λu s1=>?_;rintro⟨x,H1,I1,r1,q1⟩;obtain⟨i,rfl,q⟩:=q1;obtain⟨t,rfl⟩:=r1;exact⟨some i,H1,I1,.int i t,q⟩
def SlR(X:Cx)(r:V->Option Int->Option Int->Hp->VK->Prop):Prop:=∀z06 s(σ:St)H x v vl vu lo hi sl Q,Inv X z06 σ H s->RelV x v->s.heap.IsSliceOf sl vl vu .none->IsPart vl lo->IsPart vu hi->r x lo hi H Q->∃T id,typeLookup (.type T) "__getitem__"=pure (some (.builtin id))/\s.TypeIs v T/\wpAny (model X.prog X.w) X.A (getItem v (.ref sl)) (EP X z06 σ Q) X.xe s
def tSl(r:V->Option Int->Option Int->Hp->VK->Prop)(te:TE)(tl th:TO):TE:=λσ H Q=>te σ H λx H1=>tl σ H1 λl H2=>th σ H2 λu H3=>r x l u H3 Q
theorem pQ(hr:SlR X r)(he:PE X e te)(hl:PO X lo tl)(hu:PO X hi th):PE X (.Subscript e (.Slice lo hi none p2) pos) (tSl r te tl th):=by intro z06 s σ H Q I h;refine Subscript_ (thn (he z06 s σ H _ I h) λv s1=>?_);rintro⟨x,H1,I1,r1,q1⟩;refine wpAny_Slice (thn (hl z06 s1 σ H1 _ I1 q1) λvl s2⟨l,H2,I2,pl,q2⟩=>thn (hu z06 s2 σ H2 _ I2 q2) λvu s3=>?_);rintro⟨u,H3,I3,pu,q3⟩;refine zAx ?_;have I4:Inv X z06 σ H3 {s3 with heap:=s3.heap.push {cls:=.type "slice",data:=.fields #[vl,vu,.none]}}:=I3.kept (t':=s3.toks) λb ob q=>zAu _ q;obtain⟨T,id,hT,ht,hg⟩:=hr z06 {s3 with heap:=s3.heap.push {cls:=.type "slice",data:=.fields #[vl,vu,.none]}} σ H3 x v vl vu l u s3.heap.objs.size Q I4 r1 (Heap.IsSliceOf.new ..) pl pu q3;exact tail_any (ops:=[.ref s3.heap.objs.size,v]) ht hT hg (by with_unfolding_all rfl)
def lG(xs:List V)(lo hi:Option Int):List V:=(xs.drop (HT.sIx xs.length 0 lo)).take (HT.sIx xs.length xs.length hi-HT.sIx xs.length 0 lo)
theorem oF(xs:List V)(lo hi:Option Int):(lG xs lo hi).length<=xs.length:=by unfold lG;rw[zAd,Zap];lia
inductive RSlTI(K:Frag)(x:V)(lo:Option Int)(hi:Option Int)(H:Hp)(Q:VK):Prop|mk:∀a xs,(x=.ref a)->(SqT K H a xs)->(¬(HT.sIx xs.length 0 lo=0/\HT.sIx xs.length xs.length hi=xs.length))->(∀p,H p=none->Q (.ref p) (upd H p (.tup (lG xs lo hi))))->RSlTI K x lo hi H Q
def Qn(K:Frag):V->Option Int->Option Int->Hp->VK->Prop:=λx lo hi H Q=>RSlTI K x lo hi H Q
theorem Le:SlR X (Qn X.K):=by
 intro z06 s σ H x v vl vu lo hi sl Q I rx hs pl pu h;obtain⟨a,xs,rfl,hx,hw,q⟩:=h;cases rx;obtain⟨z08,r,ht,hz⟩:=I.tuple hx;have hlen:z08.toArray.size=xs.length:=by rw[zA8];exact r.length.symm
 refine⟨"tuple",_,PyProof.Rows.slot_tuple_getitem.lookup,ht.typeIs,?_⟩;refine HT.getItem_tuple_cut ht hs pl pu (by rw[hlen];exact hw) ?_ (by rw[hlen];exact hz);rw[hlen];refine⟨.ref s.heap.objs.size,_,I.laid (t':=s.toks) (o:=.tup (lG xs lo hi)) (λb ob q=>zAu _ q) (zA3 _) ?_,rfl,q _ (I.hok.fresh (zA3 _))⟩;exact⟨Zaf (oF xs lo hi) hz,_,(r.drop (HT.sIx xs.length 0 lo)).take (HT.sIx xs.length xs.length hi-HT.sIx xs.length 0 lo),IsTup.new _ _⟩
inductive RCatTI(K:Frag)(x:V)(y:V)(H:Hp)(Q:VK):Prop|mk:∀a b xs ys,(x=.ref a)->(y=.ref b)->(SqT K H a xs)->(SqT K H b ys)->(xs≠[])->(xs.length+ys.length<=sizeLine)->((ys=[]->Q (.ref a) H))->((ys≠[]->∀p,H p=none->Q (.ref p) (upd H p (.tup (xs++ys)))))->RCatTI K x y H Q
def O1(K:Frag):R2:=λx y H Q=>RCatTI K x y H Q
theorem Vals.nil_iff(r:Vals xs us):us=[]↔xs=[]:=by cases r with|nil=>simp;|cons _ _=>simp
theorem Ip:OpR X (binaryOp .Add) (O1 X.K):=by intro z06 s σ H x y v u Q I rx ry h;obtain⟨a,b,xs,ys,rfl,rfl,ha,hb,hx,hz,q1,q2⟩:=h;cases rx;cases ry;obtain⟨z08,r1,p1,_⟩:=I.tuple ha;obtain⟨bX,r2,p2,_⟩:=I.tuple hb;refine HT.cat_tup p1 p2 (λz=>hx (r1.nil_iff.mp z)) (λz=>⟨.ref a,H,I,rfl,q1 (r2.nil_iff.mp z)⟩) (λz=>?_) (by rw[<-r1.length,<-r2.length];exact hz);refine⟨.ref s.heap.objs.size,_,I.laid (t':=s.toks) (o:=.tup (xs++ys)) (λb ob q=>zAu _ q) (zA3 _) ?_,rfl,q2 (λw=>z (r2.nil_iff.mpr w)) _ (I.hok.fresh (zA3 _))⟩;exact⟨by rw[zA2];exact hz,_,r1.append r2,IsTup.new _ _⟩
end
def ixN(n:Nat)(i:Int):Option Nat:=if 0<=i then(if i<n then some i.toNat else none)else if-(n:Int)<=i then some (i+n).toNat else none
def atI{α:Type}(xs:List α)(i:Int):Option α:=(ixN xs.length i).bind λj=>xs[j]?
theorem uz(h:ixN n i=some j):seqIndex? i n=some j/\j<n/\-(n:Int)<=i/\i<n:=by
 unfold ixN at h;by_cases h0:0<=i
 .rw[zAz h0]at h;by_cases h1:i<n;.rw[zAz h1]at h;have e:i.toNat=j:=zAl h;exact⟨by rw[seqIndex_of h0 h1,e],z00,z00,h1⟩
  .rw[zAy h1]at h;cases h
 .rw[zAy h0]at h;by_cases h1:-(n:Int)<=i;.rw[zAz h1]at h;have e:(i+n).toNat=j:=zAl h;exact⟨by rw[seqIndex_neg z00 h1,e],z00,h1,z00⟩
  .rw[zAy h1]at h;cases h
theorem zx{v:α}(h:atI xs i=some v):∃j,seqIndex? i xs.length=some j/\xs[j]?=some v/\j<xs.length/\-(xs.length:Int)<=i/\i<xs.length:=by unfold atI at h;cases e:ixN xs.length i with|none=>rw[e]at h;cases h;|some j=>rw[e]at h;obtain⟨h1,h2,h3,h4⟩:=uz e;exact⟨j,h1,h,h2,h3,h4⟩
theorem d7{j:Nat}{v:α}(h:xs[j]?=some v):atI xs (j:Int)=some v:=by
 have hj:j<xs.length:=(zAa.mp h).1;have e:ixN xs.length (j:Int)=some j:=by unfold ixN;rw[zAz z00,zAz z00];simp
 unfold atI;rw[e];exact h
def uA(b:Expr):Prop:=∀o i,subscripted b false o i=operate [o,i] (getItem o i)
def IxR(X:Cx)(r:R2):Prop:=∀value slice z06 s(σ:St)H x y v u Q,Inv X z06 σ H s->RelV x v->RelV y u->r x y H Q->subscripted slice false v u=operate [v,u] (getItem v u)->wpAny (model X.prog X.w) X.A (subscriptTail value slice v u) (EP X z06 σ Q) X.xe s
def MtR(X:Cx)(id:String)(r:V->List V->Hp->VK->Prop):Prop:=∀z06 s(σ:St)H x xs v us Q,Inv X z06 σ H s->RelV x v->Vals xs us->r x xs H Q->wpAny (model X.prog X.w) X.A (call (.builtin id) (v::us)) (EP X z06 σ Q) X.xe s
section
variable{ta tb:TE}
theorem Kh(hr:IxR X r)(ha:PE X a ta)(hb:PE X b tb)(hs:uA b):PE X (.Subscript a b pos) (tOp r ta tb):=by intro z06 s σ H Q I h;exact Subscript_ (La ha hb I h λv u s2 x y H2 I2 rx ry q=>hr a b z06 s2 σ H2 x y v u Q I2 rx ry q (hs _ _))
inductive RIxLI(K:Frag)(x:V)(y:V)(H:Hp)(Q:VK):Prop|mk:∀p xs i v,(x=.ref p)->(y=.int i)->(SqL K H p xs)->(atI xs i=some v)->(Q v H)->RIxLI K x y H Q
def O2(K:Frag):R2:=λx y H Q=>RIxLI K x y H Q
inductive RIxTI(K:Frag)(x:V)(y:V)(H:Hp)(Q:VK):Prop|mk:∀p xs i v,(x=.ref p)->(y=.int i)->(SqT K H p xs)->(atI xs i=some v)->(Q v H)->RIxTI K x y H Q
def O4(K:Frag):R2:=λx y H Q=>RIxTI K x y H Q
theorem bF:IxR X (O2 X.K):=by
 intro value slice z06 s σ H x y v u Q I rx ry h hs;obtain⟨p,xs,i,z,rfl,rfl,hq,he,q⟩:=h;cases rx;obtain⟨t,rfl⟩:=ry;obtain⟨z08,r,pl,hz⟩:=I.list hq;obtain⟨j,h1,h2,h3,h4,h5⟩:=zx he;obtain⟨w,ew,fg⟩:=r.get h2;have hl:=r.length;have hn:=nu;have fin:EP X z06 σ Q w s:=⟨z,H,I,fg,q⟩;by_cases h0:0<=i
 .have hj:i.toNat=j:=by rw[seqIndex_of h0 h5]at h1;exact zAl h1
  exact item_listR pl.isList h0 z00 (by rw[hj];simpa using ew) fin hs
 .have hj:(i+(z08.toArray.size:Int)).toNat=j:=by rw[seqIndex_neg z00 h4]at h1;rw[zA8,<-hl];exact zAl h1
  exact subscriptTail_builtinR (x:=w) pl.isList.typeIs slot_list_getitem.lookup (wpAny_getItem_list_neg (Q:=λr s'=>r=w/\EP X z06 σ Q r s') pl.isList z00 (by rw[zA8]<;>lia) z00 (by rw[hj];simpa using ew) ⟨rfl,fin⟩) hs
theorem bQ:IxR X (O4 X.K):=by intro value slice z06 s σ H x y v u Q I rx ry h hs;obtain⟨p,xs,i,z,rfl,rfl,hq,he,q⟩:=h;cases rx;obtain⟨t,rfl⟩:=ry;obtain⟨z08,r,pl,hz⟩:=I.tuple hq;obtain⟨j,h1,h2,h3,h4,h5⟩:=zx he;obtain⟨w,ew,fg⟩:=r.get h2;have hl:=r.length;have hn:=nu;have fin:EP X z06 σ Q w s:=⟨z,H,I,fg,q⟩;exact subscriptTail_builtinR (x:=w) pl.typeIs slot_tuple_getitem.lookup (getItem_tuple (j:=j) (Q:=λr s'=>r=w/\EP X z06 σ Q r s') pl z00 z00 (by rw[zA8,<-hl];exact h1) (by simpa using ew) ⟨rfl,fin⟩) hs
theorem yr(z08:Qa4)(n j:Nat)(u:Value):Obj.mapSeq (·.setIfInBounds j u) {cls:=.type "list",data:=.seq z08.toArray n}={cls:=.type "list",data:=.seq (z08.set j u).toArray n}:=by simp[Obj.mapSeq]
theorem Inv.lst{σ:St}(I:Inv X z06 σ H s)(h:H p=some (.lst xs)):∃(z08:Qa4)(n:Nat),Vals xs z08/\s.heap.get? p=some {cls:=.type "list",data:=.seq z08.toArray n}/\xs.length<=sizeLine:=by obtain⟨z,z08,n,r,e⟩:=I.hok p _ h;exact⟨z08,n,r,e,z⟩
theorem Inv.lstUpd{σ:St}{z08 its':Qa4}(I:Inv X z06 σ H s)(h:H p=some (.lst xs))(ho:s.heap.get? p=some {cls:=.type "list",data:=.seq z08.toArray n})(hf:f {cls:=.type "list",data:=.seq z08.toArray n}={cls:=.type "list",data:=.seq its'.toArray n'})(r:Vals ys its')(hz:ys.length<=sizeLine)(t:Nat):Inv X z06 σ (upd H p (.lst ys)) {s with heap:=s.heap.update p f,toks:=t}:=by
 have e:(s.heap.update p f).get? p=some {cls:=.type "list",data:=.seq its'.toArray n'}:=by rw[Heap.get?_update_self f ho (by rw[hf]<;>rfl),hf]
 refine I.write (x:=p) (e:=p) (by rw[h];trivial) (.inl rfl) (λb u hb q=>(Heap.get?_update_other _ _ (Ne.symm hb)).trans q) ⟨_,e⟩ ?_;exact⟨hz,its',n',r,e⟩
inductive RSetLI(o:V)(i:V)(v:V)(H:Hp)(Q:Hp->Prop):Prop|mk:∀p xs k j,(o=.ref p)->(i=.int k)->(H p=some (.lst xs))->(ixN xs.length k=some j)->(Q (upd H p (.lst (xs.set j v))))->RSetLI  o i v H Q
def O6:V->V->V->Hp->(Hp->Prop)->Prop:=λo i v H Q=>RSetLI  o i v H Q
theorem set_list:KZ X O6:=by
 intro z06 s σ H o i v ov iv u Q I ro ri rv h;obtain⟨p,xs,k,j,rfl,rfl,hp,hj,q⟩:=h;cases ro;obtain⟨t,rfl⟩:=ri;obtain⟨z08,n,r,ho,hz⟩:=I.lst hp;obtain⟨h1,h2,h3,h4⟩:=uz hj;have hl:=r.length;have hn:=nu;have I':Inv X z06 σ (upd H p (.lst (xs.set j v))) {s with heap:=s.heap.update p (Obj.mapSeq (·.setIfInBounds j u))}:=I.lstUpd hp ho (yr z08 n j u) (r.set rv j) (by rw[Zav];exact hz) s.toks;by_cases h0:0<=k
 .have hk:k.toNat=j:=by rw[seqIndex_of h0 h4]at h1;exact zAl h1
  exact PySem.W.ki_setAt ho h0 z00 (by rw[zA8,<-hl];exact h4) (by rw[hk];exact⟨_,I',q⟩)
 .have hk:(k+(z08.toArray.size:Int)).toNat=j:=by rw[seqIndex_neg z00 h3]at h1;rw[zA8,<-hl];exact zAl h1
  exact PySem.W.ki_setBack ho z00 (by rw[zA8,<-hl];exact h3) z00 (by rw[hk];exact⟨_,I',q⟩)
theorem uB(lo hi:Option Int)(n:Nat):(sliceBounds lo hi none n).1=((HT.sIx n 0 lo:Nat):Int)/\(sliceBounds lo hi none n).2.1=((HT.sIx n n hi:Nat):Int)/\(sliceBounds lo hi none n).2.2=1:=by
 refine⟨?_,?_,rfl⟩;.cases lo with|none=>simp[sliceBounds,HT.sIx];|some i=>
   simp only[sliceBounds,HT.sIx,Option.getD_none,show(1:Int)>0 by decide,if_true];by_cases h:i<0;.simp only[h,if_true]<;>lia
   .simp only[h,if_false]<;>lia
 .cases hi with|none=>simp[sliceBounds,HT.sIx];|some i=>
   simp only[sliceBounds,HT.sIx,Option.getD_none,show(1:Int)>0 by decide,if_true];by_cases h:i<0;.simp only[h,if_true]<;>lia
   .simp only[h,if_false]<;>lia
theorem qZ(z08:Qa4)(lo hi:Option Int):slicePick z08.toArray lo hi none=((z08.drop (HT.sIx z08.length 0 lo)).take (HT.sIx z08.length z08.length hi-HT.sIx z08.length 0 lo)).toArray:=by obtain⟨h1,h2,h3⟩:=uB lo hi z08.toArray.size;unfold slicePick;rw[h1,h2,h3];simp only[sliceRange_one,pick_run]<;>rfl
inductive RSlLI(K:Frag)(x:V)(lo:Option Int)(hi:Option Int)(H:Hp)(Q:VK):Prop|mk:∀a xs,(x=.ref a)->(SqL K H a xs)->(∀p,H p=none->Q (.ref p) (upd H p (.lst (lG xs lo hi))))->RSlLI K x lo hi H Q
def Qo(K:Frag):V->Option Int->Option Int->Hp->VK->Prop:=λx lo hi H Q=>RSlLI K x lo hi H Q
theorem Ir:SlR X (Qo X.K):=by intro z06 s σ H x v vl vu lo hi sl Q I rx hs pl pu h;obtain⟨a,xs,rfl,hx,q⟩:=h;cases rx;obtain⟨z08,r,ht,hz⟩:=I.list hx;have hlen:=r.length;refine⟨"list",_,slot_list_getitem.lookup,ht.isList.typeIs,?_⟩;refine wpAny_getItem_list_slice ht.isList hs pl pu .none z01 ?_ (by rw[zA8]<;>lia);rw[qZ,<-hlen];refine⟨.ref s.heap.objs.size,_,I.laid (t':=s.toks) (o:=.lst (lG xs lo hi)) (λb ob q=>zAu _ q) (zA3 _) ?_,rfl,q _ (I.hok.fresh (zA3 _))⟩;exact⟨Zaf (oF xs lo hi) hz,_,0,(r.drop (HT.sIx xs.length 0 lo)).take (HT.sIx xs.length xs.length hi-HT.sIx xs.length 0 lo),zB1 _ rfl⟩
theorem aW:fK X (.builtin "len") (λxs H Q=>∃p ys,xs=[.ref p]/\(SqL X.K H p ys\/SqT X.K H p ys)/\Q (.int ys.length) H):=by
 intro z06 s σ H xs us Q I r h;obtain⟨p,ys,rfl,hq,q⟩:=h;obtain⟨u,rfl,rx⟩:=vals1 r;cases rx;have hn:=nu;rcases hq with hq|hq;.obtain⟨z08,r',pl,hz⟩:=I.list hq;have hlen:=r'.length;exact Calls.call_len_list pl.isList (by simp only[List.size_toArray]<;>lia) ⟨.int ys.length,H,I.tok _,⟨s.toks+1,by rw[zA8,hlen]⟩,q⟩
 .obtain⟨z08,r',pl,hz⟩:=I.tuple hq;have hlen:=r'.length;exact len_tuple pl (by simp only[List.size_toArray]<;>lia) ⟨.int ys.length,H,I.tok _,⟨s.toks+1,by rw[zA8,hlen]⟩,q⟩
theorem uC:fK X (.type "list") (λxs H Q=>∃p ys,xs=[.ref p]/\(SqL X.K H p ys\/SqT X.K H p ys)/\∀l,H l=none->Q (.ref l) (upd H l (.lst ys))):=by
 intro z06 s σ H xs us Q I r h;obtain⟨p,ys,rfl,hq,q⟩:=h;obtain⟨u,rfl,rx⟩:=vals1 r;cases rx;have fin:∀(z08:Qa4),Vals ys z08->ys.length<=sizeLine->∀(h':Heap)(c':Nat),(∀b o',s.heap.get? b=some o'->h'.get? b=some o')->h'.get? s.heap.objs.size=some {cls:=.type "list",dict:=none,data:=.seq z08.toArray c',slots:=#[]}->EP X z06 σ Q (.ref s.heap.objs.size) {s with heap:=h'}:=λz08 r' hz h' c' kp e=>⟨.ref s.heap.objs.size,_,I.laid (t':=s.toks) kp (zA3 _) (show ObjOk X.prog X.w _ h' _ (.lst ys)from⟨hz,z08,c',r',e⟩),rfl,q _ (I.hok.fresh (zA3 _))⟩;rcases hq with hq|hq;.obtain⟨z08,r',pl,hz⟩:=I.list hq;have hlen:=r'.length;obtain⟨o,ho,hc,n,hd⟩:=pl.isList;exact call_list_seq p (.inl rfl) ho hc hd (λh' c' kp e=>fin z08 r' hz h' c' kp e) (by simp only[List.size_toArray]<;>lia)
 .obtain⟨z08,r',pl,hz⟩:=I.tuple hq;have hlen:=r'.length;obtain⟨o,ho,hc,n,hd⟩:=pl;exact call_list_seq p (.inr rfl) ho hc hd (λh' c' kp e=>fin z08 r' hz h' c' kp e) (by simp only[List.size_toArray]<;>lia)
theorem cZ:fK X (.type "tuple") (λxs H Q=>∃p ys,xs=[.ref p]/\((SqL X.K H p ys/\∀l,H l=none->Q (.ref l) (upd H l (.tup ys)))\/(SqT X.K H p ys/\Q (.ref p) H))):=by
 intro z06 s σ H xs us Q I r h;obtain⟨p,ys,rfl,h⟩:=h;obtain⟨u,rfl,rx⟩:=vals1 r;cases rx;rcases h with⟨hq,q⟩|⟨hq,q⟩;.obtain⟨z08,r',pl,hz⟩:=I.list hq;have hlen:=r'.length;refine call_tuple_list pl.isList (λh' kp=>?_) (by simp only[List.size_toArray]<;>lia);have I1:Inv X z06 σ H {s with heap:=h'}:=I.kept (t':=s.toks) kp;have I2:Inv X z06 σ (upd H h'.objs.size (.tup ys)) {s with heap:=h'.push {cls:=.type "tuple",data:=.seq z08.toArray}}:=I1.laid (t':=s.toks) (λb o e=>zAu _ e) (zA3 _) (⟨hz,z08,r',IsTup.new _ _⟩);exact⟨.ref h'.objs.size,_,I2,rfl,q _ (I1.hok.fresh (zA3 _))⟩
 .obtain⟨z08,r',pl,hz⟩:=I.tuple hq;exact call_tuple_same pl ⟨.ref p,H,I,rfl,q⟩
def tyV(K:Frag)(T:String)(x:V)(H:Hp):Prop:=match x with|.str _=>T="str"|.int _=>T="int"|.ref p=>(T="list"/\∃xs,SqL K H p xs)\/(T="tuple"/\∃o,K.lookup p=some o/\o.cls=.type "tuple"/\o.dict=none)\/(T="dict"/\((∃z07,H p=some (.dK z07))\/∃z07,H p=some (.dT z07)))\/(T="set"/\∃S n,H p=some (.set S n))|_=>False
theorem Lf{σ:St}(I:Inv X z06 σ H s)(r:RelV x v)(ty:tyV X.K T x H):
 s.TypeIs v T/\∀a,v=.ref a->∃ob,s.heap.get? a=some ob/\ob.dict=none:=by cases x with|str z=>obtain⟨t,rfl⟩:=r;cases(ty);exact⟨typeIs_str s z t,λ_ e=>nomatch e⟩;|int i=>obtain⟨t,rfl⟩:=r;cases(ty);exact⟨typeIs_int s i t,λ_ e=>nomatch e⟩;|ref p=>
  cases r;rcases ty with⟨rfl,xs,hq⟩|⟨rfl,o,hk,hc,hd⟩|⟨rfl,hk⟩|⟨rfl,S,n,hk⟩;.obtain⟨z08,_,pl,_⟩:=I.list hq;refine⟨pl.isList.typeIs,λa e=>?_⟩;cases e;obtain⟨o,n,e,c,hd,_⟩:=pl;exact⟨o,e,hd⟩
  .refine⟨⟨o,I.kIn p o hk,hc⟩,λa e=>?_⟩;cases e;exact⟨o,I.kIn _ o hk,hd⟩
  .have z:∃o,s.heap.get? p=some o/\o.ExactDict:=by
    rcases hk with⟨z07,hk⟩|⟨z07,hk⟩;.obtain⟨_,_,_,_,o,_,_,e,ex,_⟩:=I.hok p _ hk;exact⟨o,e,ex⟩
    .obtain⟨_,_,_,_,o,_,_,e,ex,_⟩:=I.hok p _ hk;exact⟨o,e,ex⟩
   obtain⟨o,e,ex⟩:=z;refine⟨⟨o,e,ex.1⟩,λa e2=>?_⟩;cases e2;exact⟨o,e,ex.2.1⟩
  .obtain⟨o,_,_,_,e,ex,_⟩:=I.hok p _ hk;refine⟨⟨o,e,ex.1⟩,λa e2=>?_⟩;cases e2;exact⟨o,e,ex.2.1⟩;|_=>exact False.elim ty
def tBM(K:Frag)(T:String)(r:V->List V->Hp->VK->Prop)(to:TE)(t:TA):TE:=λσ H Q=>to σ H λx H1=>tyV K T x H1/\t σ H1 λxs H2=>r x xs H2 Q
variable{apos bP:Pos}{T id:String}
theorem eZ(pa:PlainAttrs T)(slot:Slot T name id)(SS:typeOf (.builtin id)=pure (.type "method_descriptor"))(hm:MtR X id r)(ho:PE X o to)(ha:PA X (e::es) t)(AU:attributeBase o name X.env (eval o X.env)=eval o X.env:=by rfl)(GA:((backTo bP (starEach (e::es) X.env)).all (λx=>!x.1)&&(backToKw bP (keywordEach [] X.env)).all (λx=>x.1.isSome)&&decide ((e::es).length+([]:List Keyword).length+(if([]:List Keyword).isEmpty then 0 else 1)<30))=true:=by rfl)(hline:(apos.endLine==bP.line)=true:=by rfl)(hs:Qab X e es:=by rfl)(GB:Qac X bP es:=by rfl):PE X (.Call (.Attribute o name apos) (e::es) [] bP) (tBM X.K T r to t):=by intro z06 s σ H Q I h;refine wpAny_Call_method_late AU GA hline rfl (thn (ho z06 s σ H _ I h) λv s1=>?_);rintro⟨x,H1,I1,r1,ty,q1⟩;obtain⟨h1,h2⟩:=Lf I1 r1 ty;refine⟨T,id,pa,slot,SS,h1,h2,?_⟩;have hA:=ha bP z06 s1 σ H1 _ I1 q1;rw[hs]at hA⊢;refine Calls.callWith_builtin (by assumption) (Calls.evalArgs_plain ?_);exact thn hA λus s2=>by rintro⟨vs,H2,I2,r2,q2⟩;exact hm z06 s2 σ H2 x vs v us Q I2 r1 r2 q2
end
def MtM(X:Cx)(id:String)(r:V->List V->Hp->VK->Prop):Prop:=∀z06 s(σ:St)H x xs v us Q,Inv X z06 σ H s->RelV x v->Vals xs us->r x xs H Q->wpAny (model X.prog X.w) X.A (call (.builtin id) (v::us)) (EP X z06 σ Q) X.xe s
theorem Vals.one:∀{x:V}{us:Qa4},Vals [x] us->∃u,us=[u]/\RelV x u|_,_,.cons r .nil=>⟨_,rfl,r⟩
theorem Vals.two(r:Vals [x,y] us):∃u v,us=[u,v]/\RelV x u/\RelV y v:=vals2 r
theorem Vals.zero:∀{us:Qa4},Vals [] us->us=[]|_,.nil=>rfl
theorem Vals.eraseIdx:∀{xs:List V}{us:Qa4}i,Vals xs us->Vals (xs.eraseIdx i) (us.eraseIdx i)|_,_,_,.nil=>.nil|_,_,0,.cons _ t=>t|_,_,i+1,.cons r t=>.cons r (Vals.eraseIdx i t)
theorem Vals.reverse(h:Vals xs us):Vals xs.reverse us.reverse:=by induction h with|nil=>exact .nil;|cons r t ih=>rw[List.reverse_cons,List.reverse_cons];exact Vals.append ih (.cons r .nil)
theorem Vals.rep(h:Vals xs us):∀k,Vals (List.replicate k xs).flatten (List.replicate k us).flatten|0=>.nil|k+1=>by exact Vals.append h (Vals.rep h k)
theorem nC{α:Type}:∀(l:List α)i,(l.eraseIdx i).length<=l.length|[],_=>zA3 _|_::_,0=>Zao _|_::r,i+1=>Nat.succ_le_succ (nC r i)
theorem foldl_rep(z08:Qa4):∀k acc,List.foldl (λx1 x2=>x1++x2) acc.toArray (List.replicate k z08.toArray)=(acc++(List.replicate k z08).flatten).toArray
 |0,acc=>by simp;|k+1,acc=>by
  have e:acc.toArray++z08.toArray=(acc++z08).toArray:=by simp
  have e2:(acc++z08)++(List.replicate k z08).flatten=acc++(List.replicate (k+1) z08).flatten:=by rw[List.replicate_succ,List.flatten_cons,zAf]
  rw[<-e2,<-foldl_rep z08 k (acc++z08),<-e,List.replicate_succ,List.foldl_cons]
section
variable{σ:St}
theorem Inv.lset{z08 its':Qa4}(I:Inv X z06 σ H s)(hH:H l=some (.lst xs))(e:s.heap.get? l=some {cls:=.type "list",data:=.seq z08.toArray n})(hf:f z08.toArray=its'.toArray)(hv:Vals ys its')(hz:ys.length<=sizeLine):Inv X z06 σ (upd H l (.lst ys)) {s with heap:=s.heap.update l (Obj.mapSeq f),toks:=t'}:=by have q:=PySem.IsL.update e f;rw[hf]at q;refine I.write (x:=l) (e:=l) (by rw[hH];exact trivial) (.inl rfl) (λb' u hb hu=>(Heap.get?_update_other s.heap (Obj.mapSeq f) (Ne.symm hb)).trans hu) ⟨_,q⟩ ?_;exact⟨hz,its',_,hv,q⟩
theorem Inv.lnew(I:Inv X z06 σ H s)(hv:Vals ys z08)(hz:ys.length<=sizeLine):Inv X z06 σ (upd H s.heap.objs.size (.lst ys)) {s with heap:=s.heap.push {cls:=.type "list",data:=.seq z08.toArray},toks:=t'}:=I.laid (λ_ _ q=>zAu _ q) (zA3 _) ⟨hz,z08,0,hv,zB1 _ rfl⟩
theorem Inv.fresh(I:Inv X z06 σ H s):H s.heap.objs.size=none:=I.hok.fresh (zA3 _)
theorem Inv.lstM(I:Inv X z06 σ H s)(hH:H l=some (.lst xs)):xs.length<=sizeLine/\∃(z08:Qa4)(n:Nat),Vals xs z08/\xs.length=z08.length/\s.heap.get? l=some {cls:=.type "list",data:=.seq z08.toArray n}:=by obtain⟨z,z08,n,r,e⟩:=I.hok l _ hH;exact⟨z,z08,n,r,r.length,e⟩
theorem lH(h:n<=sizeLine):Builtin.List.listTooLong n=false:=by exact zB6 z00
end
section
inductive RAppendI(x:V)(vs:List V)(H:Hp)(Q:VK):Prop|mk:∀l xs y,(x=.ref l)->(vs=[y])->(H l=some (.lst xs))->(xs.length<sizeLine)->(Q .non (upd H l (.lst (xs++[y]))))->RAppendI  x vs H Q
def zG:V->List V->Hp->VK->Prop:=λx vs H Q=>RAppendI  x vs H Q
theorem cA:MtM X "list.append" zG:=by intro z06 s σ H x vs v us Q I rx rv h;obtain⟨l,xs,y,rfl,rfl,hH,hz,q⟩:=h;cases rx;obtain⟨u,rfl,ru⟩:=rv.one;obtain⟨z,z08,n,r,hl,e⟩:=I.lstM hH;refine call_meets F.slot_list_append ⟨_,e,rfl⟩ F.entry_list_append (F.args_list_append_2 _ _) (PySem.list_append l z08.toArray n u (by rw[zA8];lia)) ⟨e,?_⟩;refine⟨.non,_,I.lset (its':=z08++[u]) hH e z01 (r.append (.cons ru .nil)) ?_,rfl,q⟩;rw[zA2,List.length_singleton];lia
inductive RExtendI(x:V)(vs:List V)(H:Hp)(Q:VK):Prop|mk:∀l b xs zs,(x=.ref l)->(vs=[.ref b])->(H l=some (.lst xs))->(H b=some (.lst zs))->(xs.length+zs.length<=sizeLine)->(Q .non (upd H l (.lst (xs++zs))))->RExtendI  x vs H Q
def Iu:V->List V->Hp->VK->Prop:=λx vs H Q=>RExtendI  x vs H Q
theorem Nm:MtM X "list.extend" Iu:=by
 intro z06 s σ H x vs v us Q I rx rv h;obtain⟨l,b,xs,zs,rfl,rfl,hH,hB,hz,q⟩:=h;cases rx;obtain⟨u,rfl,ru⟩:=rv.one;cases ru;obtain⟨z,z08,n,r,hl,e⟩:=I.lstM hH;obtain⟨z2,bX,n2,r2,fF,e2⟩:=I.lstM hB;have hsz:z08.toArray.size+bX.toArray.size<=sizeLine:=by rw[zA8,zA8];lia
 have fh:¬(!z08.toArray.isEmpty&&Builtin.List.listTooLong (z08.toArray.size+bX.toArray.size))=true:=by rw[lH hsz,Bool.and_false];exact zAg
 refine call_meets F.slot_list_extend ⟨_,e,rfl⟩ F.entry_list_extend (F.args_list_extend_2 _ _) (AutoSeq1.list_extend_list_list_0 l z08.toArray n b bX.toArray n2 fh (by rw[zA8];lia) z00) ⟨e,e2,?_⟩;refine⟨.non,_,I.lset (its':=z08++bX) hH e z01 (r.append r2) ?_,rfl,q⟩;rw[zA2];lia
inductive RPopAtI(x:V)(vs:List V)(H:Hp)(Q:VK):Prop|mk:∀l xs i k y,(x=.ref l)->(vs=[.int i])->(H l=some (.lst xs))->(-(2^63)<=i)->(i<2^63)->(seqIndex? i xs.length=some k)->(xs[k]?=some y)->(Q y (upd H l (.lst (xs.eraseIdx k))))->RPopAtI  x vs H Q
def Lg:V->List V->Hp->VK->Prop:=λx vs H Q=>RPopAtI  x vs H Q
theorem vO:MtM X "list.pop" Lg:=by
 intro z06 s σ H x vs v us Q I rx rv h;obtain⟨l,xs,i,k,y,rfl,rfl,hH,h1,h2,hk,hy,q⟩:=h;cases rx;obtain⟨u,rfl,ru⟩:=rv.one;obtain⟨t,rfl⟩:=ru;obtain⟨z,z08,n,r,hl,e⟩:=I.lstM hH;obtain⟨w,hw,fg⟩:=r.get hy;refine call_meets F.slot_list_pop ⟨_,e,rfl⟩ F.entry_list_pop (F.args_list_pop_2 _ _) (MeetsSeq.list_pop_at l z08.toArray n i t k w (fitsIndex_both h1 h2) (by rw[zA8,<-hl];exact hk) (by rw[<-Za2];exact hw) (by rw[zA8];lia)) ⟨e,?_⟩;refine⟨y,_,I.lset (its':=z08.eraseIdx k) hH e ?_ (r.eraseIdx k) ?_,fg,q⟩;.show z08.toArray.eraseIdxIfInBounds k=(z08.eraseIdx k).toArray;rw[List.eraseIdxIfInBounds_toArray]
 .have:=nC xs k;lia
inductive RCatI(x:V)(y:V)(H:Hp)(Q:VK):Prop|mk:∀l b xs zs,(x=.ref l)->(y=.ref b)->(H l=some (.lst xs))->(H b=some (.lst zs))->(xs.length+zs.length<=sizeLine)->(∀p,H p=none->Q (.ref p) (upd H p (.lst (xs++zs))))->RCatI  x y H Q
def Qp:R2:=λx y H Q=>RCatI  x y H Q
theorem jX:OpR X (binaryOp .Add) Qp:=by
 intro z06 s σ H x y v u Q I rx ry h;obtain⟨l,b,xs,zs,rfl,rfl,hH,hB,hz,q⟩:=h;cases rx;cases ry;obtain⟨z,z08,n,r,hl,e⟩:=I.lstM hH;obtain⟨z2,bX,n2,r2,fF,e2⟩:=I.lstM hB;refine PySem.P.add_list e e2 ?_ (by rw[zA8,zA8];lia);have ea:z08.toArray++bX.toArray=(z08++bX).toArray:=by simp
 rw[ea];exact⟨.ref _,_,I.lnew (t':=s.toks) (r.append r2) (by rw[zA2];lia),rfl,q _ I.fresh⟩
inductive RRepI(x:V)(y:V)(H:Hp)(Q:VK):Prop|mk:∀l k xs,(x=.ref l)->(y=.int k)->(H l=some (.lst xs))->(-(2^63)<=k)->(k<2^63)->(xs.length*k.toNat<=sizeLine)->(∀p,H p=none->Q (.ref p) (upd H p (.lst (List.replicate k.toNat xs).flatten)))->RRepI  x y H Q
def Qq:R2:=λx y H Q=>RRepI  x y H Q
theorem len_rep{α:Type}(xs:List α)(k:Nat):(List.replicate k xs).flatten.length=k*xs.length:=by simp
theorem Lh:OpR X (binaryOp .Mult) Qq:=by
 intro z06 s σ H x y v u Q I rx ry h;obtain⟨l,k,xs,rfl,rfl,hH,h1,h2,hz,q⟩:=h;cases rx;obtain⟨t,rfl⟩:=ry;obtain⟨z,z08,n,r,hl,e⟩:=I.lstM hH;have hlen:z08.toArray.size*k.toNat<=sizeLine:=by rw[zA8,<-hl];exact hz
 have tF:¬z08.toArray.size*k.toNat>(2^63-1)/8:=by
  have:(sizeLine:Nat)<=(2^63-1)/8:=by decide
  lia
 have tI:¬(!Builtin.List.listFitsIndex k)=true:=by rw[fitsIndex_both h1 h2];exact zAg
 have fh:¬Builtin.List.listTooLong (z08.toArray.size*k.toNat)=true:=by rw[lH hlen];exact zAg
 have tJ:List.foldl (λx1 x2=>x1++x2) #[] (List.replicate (if z08.toArray.isEmpty=true then 0 else k.toNat) z08.toArray)=(List.replicate k.toNat z08).flatten.toArray:=by
  have f0:∀m:Nat,List.foldl (λx1 x2=>x1++x2) #[] (List.replicate m z08.toArray)=(List.replicate m z08).flatten.toArray:=λm=>by have:=foldl_rep z08 m [];rw[List.nil_append]at this;exact this
  rw[f0];cases z08 with|nil=>simp;|cons a r'=>rw[zAy z01]
 refine wpAny_binaryOp_repeat_ref (T:="list") (U:="int") z02 ⟨_,e,rfl⟩ (λs'=>typeIs_int s' k t) noFill_list_mul F.fills_int_mul F.slot_int_rmul repeat_list F.slot_int_index.lookup (call_meets F.slot_int_rmul (typeIs_int s k t) F.entry_int_rmul (F.args_int_rmul_2 _ _) (int___rmul___int_list k t l z08.toArray n) ⟨e,rfl,⟨_,e,rfl⟩,call_meets F.slot_list_mul ⟨_,e,rfl⟩ F.entry_list_mul (F.args_list_mul_2 _ _) (AutoListH.list___mul___list_int_3 l z08.toArray n k t tI tF fh) ⟨e,?_⟩⟩);rw[tJ];exact⟨.ref _,_,I.lnew (t':=s.toks) (r.rep k.toNat) (by rw[len_rep,Nat.mul_comm];exact hz),rfl,q _ I.fresh⟩
end
section
set_option maxRecDepth 100000 in
end
section
end
end L2
namespace Att
open PySem PySem.W PySem.Calls PyProof.Rows
theorem oY:∀(ns:WF)vs,WellAll P h vs (ns.map WData.int)->IntsAre vs ns:=by intro ns;induction ns with|nil=>intro vs w;cases w;exact .nil;|cons n ns ih=>intro vs w;cases w with|cons a b=>cases a;exact .cons _ _ (ih _ b)
theorem BW{l:OpenLaw}(hn:l.most=some n)(nV:l.row.toRowW.claim.pre args=true)(GH:WellAll P h vals args):∃a vs ns,vals=[Value.ref a]/\args=[WData.list (ns.map WData.int)]/\h.get? a=some {cls:=.type "list",data:=.seq vs.toArray}/\IntsAre vs ns/\ns.length<=n:=by
 have SU:WShape.hasAll [] args [.list .int]=true:=(pre_splitW nV).1;have hc:l.pre.holds [] {args:=args}=true:=(pre_splitW nV).2;obtain⟨d,r,rfl,h1,h2⟩:=hasAllW_cons SU;obtain rfl:=hasAllW_nil h2;obtain⟨xs,rfl,h3⟩:=hasW_list h1;obtain⟨ns,rfl⟩:=items_int h3;have hlen:ns.length<=n:=by
  unfold OpenLaw.pre at hc;have h4:(WTm.not (.lt (.lit (.int (n:Int))) (.len (.arg 0)))).holds [] {args:=[.list (ns.map .int)]}=true:=by have h4:=(holds_andW hc).1;rw[hn]at h4;exact h4
  have h5:=condW_of h4 (w_not (w_lt w_lit (w_len_list (w_arg rfl))));rw[zA1]at h5;refine Nat.le_of_not_lt λq=>?_;have q':(n:Int)<((ns.length:Nat):Int):=z00;first|(rw[zAw q']at h5;exact absurd h5 z02);|(simp at h5;lia)
 cases GH with|cons w1 w2=>cases w2;cases w1 with|list ho lI=>exact⟨_,_,ns,rfl,rfl,ho,oY ns _ lI,hlen⟩
theorem BX(l:OpenLaw)(args:List WData):l.row.toRowW.claim.post args (.bool true) args=true:=postW_of (r:=l.row.toRowW) (X:=(true==true)) (show WShape.has [] (.bool true) .bool=true by first|rfl|decide|simp[WShape.has]) (w_eq_bool (w_res rfl) w_lit) rfl
theorem attach_call{l:OpenLaw}(hn:l.most=some n)(tN:d.params.defaults=[])(call:∀w s₀ s₁ mg mb fa o pm cd doc a vs(ns:WF),Ground q loose [] XP w s₀ mg mb s₁.heap->YP w s₁.heap->s₁.heap.get? fa=some o->o.data=.func (docDef d.name d.params d.body d.scope pm cd doc)->s₁.heap.CodeRec cd d.name->mg d.name=some (.ref fa)->s₁.heap.get? a=some {cls:=.type "list",data:=.seq vs.toArray}->IntsAre vs ns->ns.length<=n->s₁.gens=#[]->codeAny (model l.prog w) callerA (.call (.ref fa) ⟨[.ref a],[]⟩) (λr s'=>r=.ok (.ret (.bool true))/\OldK s₁.heap s'.heap/\s'.os=s₁.os/\AllBare s'.gens) s₁):WalkO q loose XP YP l.row.toRowW d [] (λf vs=>PySem.call f vs):=by intro w s₀ s₁ mg mb G Y fa o pm cd doc dV kV ho hd ff hD hmg hg args vals as nV SV ZQ GH qr;obtain rfl:dV=.none:=Dflts.none hD tN;obtain rfl:kV=.none:=Dflts.noKw hD;obtain⟨a,vs,ns,rfl,rfl,tP,hints,hlen⟩:=BW hn nV GH;refine enter_call (codeAny_mono (call w s₀ s₁ mg mb fa o pm cd doc a vs ns G Y ho (fd_plain hd) ff hmg tP hints hlen hg) λr s' hq=>?_);obtain⟨rfl,h2,h3,h4⟩:=hq;exact⟨.inl ⟨.bool true,.bool true,[],rfl,λ_=>rfl,.bool true,BX l _,λ_=>⟨List.Pairwise.nil,λ_ hm=>(nomatch hm)⟩⟩,h2,h3,h4⟩
section
end
end Att
namespace L2
open PySem PySem.Spec PyProof.Rows
theorem sY:∀{vs:Qa4}{ns:WF},IntsAre vs ns->Vals (ns.map V.int) vs|_,_,.nil=>.nil|_,_,.cons n t h=>.cons ⟨t,rfl⟩ (sY h)
def gH(s:Stmt):Arguments:=match s with|.FunctionDef _ a _ _ _ _ _ _ _ _=>a|_=>{posonlyargs:=[],args:=[],vararg:=none,kwonlyargs:=[],kw_defaults:=[],kwarg:=none,defaults:=[]}
def cV(s:Stmt):List Stmt:=match s with|.FunctionDef _ _ b _ _ _ _ _ _ _=>b|_=>[]
def aC(s:Stmt):Scope:=match s with|.FunctionDef _ _ _ _ _ _ sc _ _ _=>sc|_=>{kind:=.function,names:=[],isGenerator:=false,isCoroutine:=false}
abbrev CX0:CXT:=λ_ _ _ _ _ _=>False
abbrev E0:XK:=λ_ _ _=>False
theorem O7:ut CX0 X E0:=λ_ _ _ _ _ _ _ h=>h.elim
structure Fun(K:Frag)(x qual:Str)(st:Stmt)(f:Addr)(fd:FuncData):Prop where
 ex:∃oc od kV doc pm an af ct kP,fd=PySem.W.fnOf x qual (gH st) (cV st) (aC st) .none kV doc pm an af ct/\K.lookup f=some ⟨oc,od,.func fd,kP⟩/\PySem.W.codeIn K af qual=true
 kp:PySem.W.keepIn K (.ref f)=true
section
variable{K:Frag}
theorem Fun.ok{st:Stmt}(F:Fun K x qual st f fd)(S:FnScope N ps (aC st))(len:∀vs H Q E,sp vs H Q E->vs.length=ps.length)(aS:∀af A outer s H vs Q E,Room k (A.deeper (envOfC qual (aC st) s.heap.objs.size f af))->sp vs H Q E->∃t,PSs (jr CX0 P w K mg base N qual (aC st) f af A outer s H E).nox (cV st) t/\t {nx:=λ_ H'=>Q .non H',rt:=Q} (start N vs) H):FnOk P w K mg base CX0 (k+1) f fd ps sp:=by obtain⟨oc,od,kV,doc,pm,an,af,ct,kP,rfl,lk,ff⟩:=F.ex;refine DR lk ff S len λA outer s H vs Q E hr iO=>?_;obtain⟨t,h,q⟩:=aS af A outer s H vs Q E hr iO;exact⟨t,h.nox,q⟩
structure LenOk(sp:Sp)(ps:Qa7):Prop where h:∀vs H Q E,sp vs H Q E->vs.length=ps.length:=by intro _ _ _ _ h;first|(cases h;subst_vars;rfl)|(repeat(first|(subst_vars;rfl)|obtain⟨_,h⟩:=h))
theorem Fun.oq{st:Stmt}(F:Fun K x qual st f fd)(S:FnScope N ps (aC st))(aS:∀af A outer s H vs Q E,Room k (A.deeper (envOfC qual (aC st) s.heap.objs.size f af))->sp vs H Q E->∃t,PSs (jr CX0 P w K mg base N qual (aC st) f af A outer s H E).nox (cV st) t/\t {nx:=λ_ H'=>Q .non H',rt:=Q} (start N vs) H)(len:LenOk sp ps:=by exact{}):FnOk P w K mg base CX0 (k+1) f fd ps sp:=F.ok S len.h aS
theorem Fun.binds{st:Stmt}(F:Fun K x qual st f fd)(h:∀kV doc pm an af ct us,us.length=ps.length->bindArgs (PySem.W.fnOf x qual (gH st) (cV st) (aC st) .none kV doc pm an af ct) ⟨us,[]⟩=pure (ps.zip us)):Binds K fd ps []:=by obtain⟨oc,od,kV,doc,pm,an,af,ct,kP,rfl,lk,ff⟩:=F.ex;exact .all (h kV doc pm an af ct)
theorem DX{st:Stmt}{kV doc pm af ct:Value}(l:K.lookup f=some ⟨oc,od,.func (PySem.W.fnOf x qual (gH st) (cV st) (aC st) .none kV doc pm an af ct),kP⟩)(c:PySem.W.codeIn K af qual=true)(k:PySem.W.keepIn K (.ref f)=true):Fun K x qual st f (PySem.W.fnOf x qual (gH st) (cV st) (aC st) .none kV doc pm an af ct):=⟨⟨oc,od,kV,doc,pm,an,af,ct,kP,rfl,l,c⟩,k⟩
end
theorem oG(hr:Room k A):A.units+1<cLine:=Nat.lt_of_le_of_lt (Nat.add_le_add_left (by decide:1<=64) _) hr.units
section
variable{X:Cx}
theorem pv(i:Nat){pos:Pos}(hN:X.N[i]?=some x:=by rfl)(hv:Vis X.env.scope x:=by first|exact Or.inl rfl|exact Or.inr (Or.inl rfl)|exact Or.inr (Or.inr rfl))(hd:Qad x:=by decide)(ff:(x==("__classdict__":Str))=false:=by decide):PE X (.Name x pos) (oX i):=ye hN hv hd ff
end
theorem bx{A B:Prop}(h:B):if false=true then A else B:=by exact h
theorem bw{A B:Prop}(h:A):if true=true then A else B:=by exact h
theorem rm{c A B:Prop}[Decidable c](h1:c->A)(h2:¬c->B):if c then A else B:=by
 by_cases h:c;.rw[zAz h];exact h1 h
 .rw[zAy h];exact h2 h
theorem DY{c A B:Prop}[Decidable c](hc:c)(h:B):if(!decide c)=true then A else B:=by rw[zAw hc];exact bx h
def Same(H H':Hp):Prop:=∀b o,H b=some o->H' b=some o
theorem Same.refl(H:Hp):Same H H:=λ_ _ h=>h
theorem Same.trans(a:Same H H1)(b:Same H1 H2):Same H H2:=λc o h=>b c o (a c o h)
theorem Same.free(e:Same H H')(h:H' l=Option.none):H l=Option.none:=by cases q:H l with|none=>rfl;|some o=>rw[e l o q]at h;cases h
def cj(cells:List (Str×Addr)):List (Str×NameKind)->List (Str×Addr)->List (Str×Addr)|[],acc=>acc|(n,k)::r,acc=>cj cells r (if k=.free then(n,(cells.lookup n).getD 0)::acc else acc)
theorem sZ:∀l acc,(∀p∈l,p.2=NameKind.free->(env.cells.lookup p.1).isSome=true)->(forIn l acc λx r=>(if(x.2==NameKind.free)=true then do let a<-cellOf env x.1;pure (ForInStep.yield ((x.1,a)::r))else pure (ForInStep.yield r):Sem (ForInStep (List (Str×Addr)))))=pure (cj env.cells l acc)
 |[],acc,_=>rfl|(n,k)::r,acc,h=>by
  rw[List.forIn_cons];have ih:=λa=>sZ (env:=env) r a λp hp=>h p (Zai _ hp);by_cases hk:k=.free
  .subst hk;have hs:=h (n,.free) Zan rfl;obtain⟨c,hc⟩:=Zax.mp hs;have e1:cellOf env n=pure c:=by unfold cellOf;rw[show env.cells.lookup n=some c from hc]
   have e2:cj env.cells ((n,.free)::r) acc=cj env.cells r ((n,c)::acc):=by show cj env.cells r (if NameKind.free=NameKind.free then(n,(env.cells.lookup n).getD 0)::acc else acc)=_;rw[zAz rfl,show env.cells.lookup n=some c from hc];rfl
   rw[e2];simp only[beq_self_eq_true,if_true,e1,pure_bind];exact ih _
  .have hb:(k==NameKind.free)=false:=by simpa using hk
   have e2:cj env.cells ((n,k)::r) acc=cj env.cells r acc:=by show cj env.cells r (if k=NameKind.free then _ else acc)=_;rw[zAy hk]
   rw[e2];simp only[hb,Bool.false_eq_true,if_false,pure_bind];exact ih _
theorem jO(h:∀p∈scope.names,p.2=NameKind.free->(env.cells.lookup p.1).isSome=true):closureFor scope env=pure (cj env.cells scope.names []):=by have e:=sZ (env:=env) scope.names [] h;unfold closureFor;simp only[bind_pure];exact e
theorem iM:∀l acc,(∀p∈l,p.2=NameKind.free->(cells.lookup p.1).isSome=true)->(cj cells l acc).lookup x=some c->acc.lookup x=some c\/cells.lookup x=some c
 |[],_,_,h=>.inl h|(n,k)::r,acc,hf,h=>by
  have h':(cj cells r (if k=.free then(n,(cells.lookup n).getD 0)::acc else acc)).lookup x=some c:=h;rcases iM r _ (λp hp=>hf p (Zai _ hp)) h' with e|e
  .by_cases hk:k=.free
   .rw[zAz hk]at e;obtain⟨d,hd⟩:=Zax.mp (hf (n,k) Zan hk);rw[show cells.lookup n=some d from hd]at e;rw[Zay]at e
    cases hx:x==n with|true=>
     rw[hx]at e;have:x=n:=by simpa using hx
     subst this;exact .inr (hd.trans (by simpa using e));|false=>rw[hx]at e;exact .inl e
   .rw[zAy hk]at e;exact .inl e
  .exact .inr e
theorem jt:∀l acc,((∃k,(x,k)∈l/\k=NameKind.free)\/(∃c,acc.lookup x=some c))->∃c,(cj cells l acc).lookup x=some c
 |[],_,h=>by
  rcases h with⟨k,hk,_⟩|h;.exact absurd hk z01
  .exact h;|(n,k)::r,acc,h=>by
  show∃c,(cj cells r (if k=.free then(n,(cells.lookup n).getD 0)::acc else acc)).lookup x=some c;refine jt r _ ?_;rcases h with⟨k',hk,e⟩|⟨c,hc⟩
  .rcases zAo.mp hk with z|z;.cases z;refine .inr ?_;rw[zAz e];exact⟨_,by rw[Zay,beq_self_eq_true]⟩
   .exact .inl ⟨k',z,e⟩
  .refine .inr ?_;by_cases hk:k=.free;.rw[zAz hk,Zay];cases hx:x==n with|true=>exact⟨_,rfl⟩;|false=>exact⟨c,hc⟩
   .rw[zAy hk];exact⟨c,hc⟩
theorem oH(hc:∀p∈scope.names,p.2≠NameKind.cell)(h:(relabel scope env).names.lookup x=some k)(hk:k=.cell\/k=.free):∃k',(x,k')∈scope.names/\k'=NameKind.free:=by
 have m:=PySem.mem_of_lookup h;obtain⟨⟨n,k0⟩,hm,e⟩:=zA5.mp m;dsimp only at e;split at e
 .rename_i c;cases e;have:(k0==NameKind.free)=true:=by cases q:(k0==NameKind.free)with|true=>rfl;|false=>rw[q]at c;simp at c
  exact⟨k0,hm,by simpa using this⟩
 .cases e;rcases hk with z|z;.exact absurd z (hc _ hm)
  .exact⟨_,hm,z⟩
def cxC(X:Cx)(scope:Scope)(Nc:Qa7)(C:Addr)(fp:Qa9)(z06:Qa1)(s₂:Shared)(H₂:Hp):Cx where prog:=X.prog;w:=X.w;K:=X.K;mg:=X.mg;base:=X.base;A:=X.A;N:=Nc;s₀:=s₂;H₀:=H₂;env:=compEnvC scope (cj X.env.cells scope.names []) C X.env;outer:=X.stack;stack:=X.stack;ex:=fp;fn:=λ_=>false;calm:=X.calm;pn:=X.pn++z06;xe:=λ_ _=>False
def Caps(X:Cx)(bS:Env):Qa7->List (Option Nat)->Prop|[],[]=>True|_::N,none::r=>Caps X bS N r|x::N,some i::r=>(X.N[i]?=some x/\(X.env.kindOf x=some .cell\/X.env.kindOf x=some .free)/\bS.cells.lookup x=X.env.cells.lookup x/\(bS.kindOf x=some .cell\/bS.kindOf x=some .free))/\Caps X bS N r|_,_=>False
def capσ(σ:St)(src:List (Option Nat)):St:=src.map λo=>match o with|none=>none|some i=>(σ[i]?).join
theorem Caps.len:∀{N:Qa7}{src:List (Option Nat)},Caps X bS N src->src.length=N.length|[],[],_=>rfl|[],_::_,h=>h.elim|_::_,[],h=>h.elim|_::N,none::r,h=>by have h':Caps X bS N r:=h;have:=Caps.len (N:=N) (src:=r) h';simp[this];|_::N,some _::r,h=>by have:=Caps.len (N:=N) (src:=r) h.2;simp[this]
theorem Caps.get:∀{N:Qa7}{src:List (Option Nat)}{j i:Nat},Caps X bS N src->N[j]?=some x->src[j]?=some (some i)->X.N[i]?=some x/\(X.env.kindOf x=some .cell\/X.env.kindOf x=some .free)/\bS.cells.lookup x=X.env.cells.lookup x/\(bS.kindOf x=some .cell\/bS.kindOf x=some .free)|[],[],_,_,_,e,_=>by simp at e;|[],_::_,_,_,h,_,_=>h.elim|_::_,[],_,_,h,_,_=>h.elim|_::_,none::_,0,_,_,_,e=>by simp at e;|_::N,none::r,j+1,_,h,e1,e2=>by have h':Caps X bS N r:=h;exact Caps.get (N:=N) (src:=r) (j:=j) h' (by simpa using e1) (by simpa using e2);|_::_,some _::_,0,_,h,e1,e2=>by simp at e1 e2;subst e1 e2;exact h.1;|_::_,some _::_,j+1,_,h,e1,e2=>Caps.get (j:=j) h.2 (by simpa using e1) (by simpa using e2)
structure CScope(X:Cx)(scope:Scope):Prop where
 kind:scope.kind=.function
 cell:scope.names.all (λp=>p.2 !=.cell)=true
 names:scope.names.all (λp=>p.2 !=.local||scope.names.lookup p.1==some .local)=true
 free:scope.names.all (λp=>p.2 !=.free||(X.env.cells.lookup p.1).isSome)=true
section
theorem CScope.hcell(S:CScope X scope):∀p∈scope.names,p.2≠NameKind.cell:=λp hp=>by have:=Zae.mp S.cell p hp;simpa using this
theorem CScope.hnames(S:CScope X scope):∀p∈scope.names,p.2=.local->scope.names.lookup p.1=some .local:=λp hp e=>by have:=Zae.mp S.names p hp;simpa[e]using this
theorem CScope.hfree(S:CScope X scope):∀p∈scope.names,p.2=NameKind.free->(X.env.cells.lookup p.1).isSome=true:=λp hp e=>by have:=Zae.mp S.free p hp;simpa[e]using this
end
def PTs(X:Cx)(ifs:Qa6)(t:TT):Prop:=∀z06 s(σ:St)H Q,Inv X z06 σ H s->t σ H Q->wpAny (model X.prog X.w) X.A (forIn ifs true λc r=>if r=true then do let ok<-isTrue c X.env (eval c X.env);pure (ForInStep.yield ok)else pure (ForInStep.yield r)) (TP X z06 σ Q) X.xe s
def vP:TT:=λ_ H Q=>Q true H
theorem bB:PTs X [] vP:=λ_ _ _ H _ I h=>wpAny_tests_nil ⟨H,I,h⟩
theorem lJ(h:PT X c t):PTs X [c] t:=λz06 s σ H Q I q=>wpAny_tests_one (h z06 s σ H Q I q)
theorem Iv(I:Nat->Shared->Prop)(turn:∀n s,I n s->wpAny (model prog w) A (pyNext it) (λr s₁=>match r with|none=>R (.ok .next) s₁|some v=>wpAny (model prog w) A (letOwnedTupleGo target it v) (λ_ qv=>wpAny (model prog w) A (assign target env v) (λ_ s₂=>wpAny (model prog w) A (forIn ifs true λc r=>if r=true then do let ok<-isTrue c env (eval c env);pure (ForInStep.yield ok)else pure (ForInStep.yield r)) (λok s₃=>if ok=true then wpAny (model prog w) A (eval elt env) (λx gS=>wpAny (model prog w) A (call (.builtin "list.append") [acc,x]) (λ_ AV=>∃m,m<n/\I m AV) (λ_ _=>False) gS) (λ_ _=>False) s₃ else∃m,m<n/\I m s₃) (λ_ _=>False) s₂) (λ_ _=>False) qv) (λ_ _=>False) s₁) (λ_ _=>False) s)(n:Nat)(h:I n s):codeAny (model prog w) A (.compLoop (.ListComp elt [⟨target,iter,ifs,0⟩] scope pos) 0 it acc env) R s:=by refine codeAny_loop rfl I (λn s hI=>?_) n h;show wpAny _ A ((compTurn (.ListComp elt [⟨target,iter,ifs,0⟩] scope pos) 0 it acc env).onRaise (λx=>do noteFrame x env;theTreesLotGoes x)) _ _ s;refine wpAny_noted ?_;rw[compTurn_list];refine zAt (wpAny_standAt (zAt (wpAny_mono (turn n s hI) (λr s₁ h₁=>?_) λ_ _ h'=>h'.elim)));cases r with|none=>exact zAx h₁;|some v=>refine zAt (wpAny_mono h₁ (λ_ qv AW=>?_) λ_ _ h'=>h'.elim);refine zAt (wpAny_mono AW (λ_ s₂ lP=>zAt (wpAny_mono lP (λok s₃ nX=>?_) λ_ _ h'=>h'.elim)) λ_ _ h'=>h'.elim);cases ok with|false=>exact zAx ⟨rfl,nX⟩;|true=>exact zAt (zAt (wpAny_mono nX (λx gS GI=>zAt (wpAny_mono GI (λ_ AV GL=>zAx (zAx ⟨rfl,GL⟩)) λ_ _ h'=>h'.elim)) λ_ _ h'=>h'.elim))
def lK(J:It)(g:TG)(tt:TT)(te:TE)(Fin:List V->Hp->Prop)(eC:St)(H0:Hp):Prop:=∃W:Nat->Nat->List V->St->Hp->Prop,(∃m,W 0 m [] eC H0)/\∀i m ys σ H,W i m ys σ H->ys.length<sizeLine/\((J.stop i H/\Fin ys H)\/(J.go i H/\∀x H',J.yld i H x H'->g x σ H' λay H2=>tt ay H2 λb H3=>if b=true then te ay H3 λy H4=>∃m',m'<m/\W (i+1) m' (ys++[y]) ay H4 else∃m',m'<m/\W (i+1) m' ys ay H3))
abbrev TM:=List V->St->Hp->(List V->St->Hp->Prop)->Prop
abbrev rA(us:Qa4)(k:Nat):Obj:={cls:=.type "list",data:=.seq us.toArray k}
def Apart(X:Cx)(D:Addr):Prop:=D≠X.env.locals/\D∉X.fs/\X.s₀.heap.objs.size<=D/\(∀x c,X.env.cells.lookup x=some c->c≠D)/\∀p∈X.pn,p.1≠D
structure Fil(X:Cx)(z06:Qa1)(D:Addr)(σ:St)(H:Hp)(s:Shared)(ys:List V):Prop where
 inv:Inv X z06 σ H s
 nD:H D=none
 np:∀p∈z06,p.1≠D
 obj:∃us k,s.heap.get? D=some (rA us k)/\Vals ys us
def PM(X:Cx)(D:Addr)(M:Sem Fin->Sem Fin)(tm:TM):Prop:=∀z06 s σ H Q ys,Fil X z06 D σ H s ys->ys.length<sizeLine->tm ys σ H Q->∀c R E,(∀s' eI ar H',Fil X z06 D ar H' s' eI->Q eI ar H'->wpAny (model X.prog X.w) X.A c R E s')->wpAny (model X.prog X.w) X.A (M c) R E s
def tmE(te:TE):TM:=λys σ H Q=>te σ H λy H'=>Q (ys++[y]) σ H'
def Iw(elt:Expr)(D:Addr)(env:Env):Sem Fin->Sem Fin:=λc=>(do let _<-call (.builtin "list.append") [.ref D,<-eval elt env])>>=λ_=>c
theorem thx{Q Q':α->Shared->Prop}(h:wpAny M A t Q (λ_ _=>False) s)(hQ:∀a s,Q a s->Q' a s):wpAny M A t Q' E s:=wpAny_mono h hQ λ_ _ x=>x.elim
theorem yt(ap:Apart X D)(hx:X.xe=λ_ _=>False)(he:PE X elt te):PM X D (Iw elt D X.env) (tmE te):=by
 intro z06 s σ H Q ys F hsz h c R E hc;obtain⟨I,nD,np,us,k,oD,rv⟩:=F;obtain⟨a1,a2,a3,a4,a5⟩:=ap;have I':Inv X (z06++[(D,rA us k)]) σ H s:=I.pins_of λp hp=>(zA6.mp hp).elim (λz=>I.pin p (zB2 _ z)) λz=>by rw[Zad.mp z];exact⟨oD,nD,a1,a2,λv z=>by cases z⟩
 have EG:=he _ s σ H _ I' h;rw[hx]at EG;refine zAt (zAt (thx EG λxv s8=>?_));rintro⟨y,H8,I8,r8,q8⟩;have pD:=I8.pin (D,rA us k) (zB2 _ (zB2 _ (Zad.mpr rfl)));refine zAt (append_at (hsz:=by rw[zA8,<-rv.length];exact Za7 hsz) pD.1 λh9 SW SX=>zAx ?_);refine hc _ _ _ _ ⟨I8.unpinned.turned (t':=s8.toks) (λb o hb e=>SW.extBut b o hb e) pD.2.1 a1 (.inr a3) a4 λp hp=>?_,pD.2.1,np,us++[xv],k+1,?_,rv.append (.cons r8 .nil)⟩ q8;.exact(zA6.mp hp).elim (a5 p) (np p)
 .show h9.get? D=_;rw[SX,List.push_toArray]
def vQ(J:It)(g:TG)(tt:TT)(tm:TM)(Fin:List V->St->Hp->Prop)(EH:List V)(eC:St)(H0:Hp):Prop:=∃W:Nat->Nat->List V->St->Hp->Prop,(∃m,W 0 m EH eC H0)/\∀i m ys σ H,W i m ys σ H->ys.length<sizeLine/\((J.stop i H/\Fin ys σ H)\/(J.go i H/\∀x H',J.yld i H x H'->g x σ H' λay H2=>tt ay H2 λb H3=>if b=true then tm ys ay H3 λeI ar H4=>∃m',m'<m/\W (i+1) m' eI ar H4 else∃m',m'<m/\W (i+1) m' ys ay H3))
def oJ(tg:Expr)(ifs:Qa6)(p:Pos)(it:Value)(env:Env)(M:Sem Fin->Sem Fin)(c:Sem Fin):Sem Fin:=do standAt p match<-pyNext it with
 |none=>pure (.done .next)|some v=>
  letOwnedTupleGo tg it v
  assign tg env v let ok<-forIn ifs true λc r=>if r=true then do let ok<-isTrue c env (eval c env);pure (ForInStep.yield ok)else pure (ForInStep.yield r)if ok=true then M c else c
theorem Ea(hc:X.calm=true)(hx:X.xe=λ_ _=>False)(ap:Apart X D)(ht:compTurn (.ListComp elt gens scope pos) d (.ref it) (.ref D) X.env=oJ tg ifs p (.ref it) X.env M (again (.compLoop (.ListComp elt gens scope pos) d (.ref it) (.ref D) X.env)))(hg:PG X tg g)(qA:PTs X ifs tt)(hm:PM X D M tm)(F:Fil X z06 D σ H s ys)(T:Turn X.prog X.w X.K tg J fp it tn)(st:tn 0 s.heap)(hf:∀b∈fp,jq X z06 H b/\b≠D)(hW:vQ J g tt tm Q ys σ H)(hR:∀s' eI ar H',Fil X z06 D ar H' s' eI->eI.length<sizeLine->Q eI ar H'->R (.ok .next) s'):codeAny (model X.prog X.w) X.A (.compLoop (.ListComp elt gens scope pos) d (.ref it) (.ref D) X.env) R s:=by
 obtain⟨W,⟨m0,w0⟩,step⟩:=hW;refine codeAny_loop rfl (λn s'=>∃i ys ar H',Fil X z06 D ar H' s' ys/\tn i s'.heap/\(∀b∈fp,H' b=none)/\W i n ys ar H') (λn s3 hI=>?_) m0 ⟨0,ys,σ,H,F,st,λb hb=>(hf b hb).1.1,w0⟩;obtain⟨i,ys,jI,H3,⟨I3,iE,np,us,k,SY,tS⟩,jS,AQ,w3⟩:=hI;show wpAny _ _ ((compTurn (.ListComp elt gens scope pos) d (.ref it) (.ref D) X.env).onRaise (λx=>do noteFrame x X.env;theTreesLotGoes x)) _ _ s3;refine wpAny_noted ?_;rw[ht];obtain⟨a1,a2,a3,a4,a5⟩:=ap;obtain⟨hsz,tT⟩:=step i n ys jI H3 w3;have MW:Inv X (z06++[(D,rA us k)]) jI H3 s3:=I3.pins_of λp hp=>(zA6.mp hp).elim (λz=>I3.pin p (zB2 _ z)) λz=>by rw[Zad.mp z];exact⟨SY,iE,a1,a2,λv z=>by cases z⟩
 have ua:∀{H':Hp},(∀b∈fp,H' b=none)->∀b∈fp,jq X (z06++[(D,rA us k)]) H' b:=λ{H'}hn b hb=>by
  obtain⟨⟨_,f1,f2,f3,f4,f5⟩,f6⟩:=hf b hb;refine⟨hn b hb,f1,f2,f3,f4,λq hq=>?_⟩;rw[<-zAf]at hq;rcases zA6.mp hq with z|z;.exact f5 q z
  .rw[Zad.mp z];exact f6.symm
 refine zAt (wpAny_standAt (zAt ?_));rcases tT with⟨stop,fin⟩|⟨go,turn⟩;.refine thx (T.done X rfl rfl rfl hc i _ s3 jI H3 (λ_ _=>False) MW (ua AQ) jS stop) λr s4=>?_;rintro⟨hr,I4⟩;subst hr;have pD:=I4.pin (D,rA us k) (zB2 _ (zB2 _ (Zad.mpr rfl)));exact zAx (hR s4 ys jI H3 ⟨I4.unpinned,iE,np,us,k,pD.1,tS⟩ hsz fin)
 .refine thx (T.item X rfl rfl rfl hc i _ s3 jI H3 (λ_ _=>False) MW (ua AQ) jS go) λr s4=>?_;rintro⟨u,hr,h4⟩;subst hr;refine zAt (thx h4 λ_ s5=>?_);rintro⟨x,H5,I5,r5,y5,sR,F3⟩;have F4:=I5.pinned (ua F3) (T.obj _ _ sR);have MX:=hg _ s5 jI H5 x u _ F4 r5 (turn x H5 y5);rw[hx]at MX;refine zAt (thx MX λ_ s6=>?_);rintro⟨yk,H6,I6,q6⟩;have iF:=qA _ s6 yk H6 _ I6 q6;rw[hx]at iF;refine zAt (thx iF λokb s7=>?_);rintro⟨H7,I7,q7⟩;have pD:=I7.pin (D,rA us k) (zB2 _ (Zas _ (zB2 _ (Zad.mpr rfl))));have MY:Inv X (z06++dX fp s5.heap) yk H7 s7:=I7.pins_of λq hq=>(zA6.mp hq).elim (λz=>I7.pin q (zB2 _ (Zas _ (Zas _ z)))) λz=>I7.pin q (zB2 _ (zB2 _ z));have MZ:∀q∈z06++dX fp s5.heap,q.1≠D:=λq hq=>(zA6.mp hq).elim (np q) λz=>(hf _ (ni z).1).2;have back:∀{H8:Hp}{s8:Shared}{AX:St}{AY:List V},Fil X (z06++dX fp s5.heap) D AX H8 s8 AY->Fil X z06 D AX H8 s8 AY/\tn (i+1) s8.heap/\∀b∈fp,H8 b=none:=λ{H8 s8 AX AY}F8=>by obtain⟨I8,n8,_,o8⟩:=F8;have pf:∀b∈fp,∀o,s5.heap.get? b=some o->s8.heap.get? b=some o:=λb hb o e=>(I8.pin (b,o) (zB2 _ (zB2 _ (j5 hb e)))).1;refine⟨⟨I8.unpinned,n8,np,o8⟩,T.keep _ _ _ sR pf,λb hb=>?_⟩;obtain⟨o,e,_⟩:=T.obj _ _ sR b hb;exact(I8.pin (b,o) (zB2 _ (zB2 _ (j5 hb e)))).2.1
  cases okb with|false=>obtain⟨m',yy,w7⟩:=q7;obtain⟨b1,b2,b3⟩:=back ⟨MY,pD.2.1,MZ,us,k,pD.1,tS⟩;exact zAx ⟨rfl,m',yy,i+1,ys,yk,H7,b1,b2,b3,w7⟩;|true=>refine hm _ s7 yk H7 _ ys ⟨MY,pD.2.1,MZ,us,k,pD.1,tS⟩ hsz q7 _ _ _ λs8 AY AX H8 F8 q8=>?_;obtain⟨m',yy,w8⟩:=q8;obtain⟨b1,b2,b3⟩:=back F8;exact zAx ⟨rfl,m',yy,i+1,AY,AX,H8,b1,b2,b3,w8⟩
theorem pR(hd:gens[d]?=some c)(ha:c.is_async=0)(h0:codeAny (model prog w) A (.compLoop (.ListComp elt gens scope pos) d it acc env) R s)(h:wpAny (model prog w) A (pyIter it) (λM0 s'=>codeAny (model prog w) A (.compLoop (.ListComp elt gens scope pos) d M0 acc env) R s') (λ_ _=>False) s):codeAny (model prog w) A (.compStart (.ListComp elt gens scope pos) d it acc env) R s:=by
 refine codeAny_of_tree ?_;show wpAny _ _ ((compStart (.ListComp elt gens scope pos) d it acc env).onRaise (λx=>do noteFrame x env;standAt theWindowsPlace)) _ _ s;refine wpAny_notedAt ?_;have e:(clausesOf (.ListComp elt gens scope pos))[d]?=some c:=hd;unfold compStart;rw[e];have e2:(Option.elim (some c) false λx=>x.is_async !=0)=false:=by show(c.is_async !=0)=false;rw[ha];rfl
 rw[e2];show wpAny _ _ (ask>>=_) _ _ s;refine zAt (wpAny_askSetting (wpAny_ite ?_));split;.exact zAx (And.intro rfl h0)
 .refine zAt (wpAny_rule (zAt (wpAny_standAt (zAt (thx h λM0 s' h'=>zAx (And.intro rfl h'))))))
def Li(elt:Expr)(gens:List Comprehension)(scope:Scope)(pos:Pos)(d:Nat)(iter:Expr)(D:Addr)(env:Env):Sem Fin->Sem Fin:=λc=>do
 let x<-eval iter env
 standAt iter.pos let x<-foldedSetIterable iter env x let it<-holding [x] (pyIter x)let _<-runOwn (.compStart (.ListComp elt gens scope pos) d it (.ref D) env) env
 c
section
theorem nF(hg:gens[d]?=some ⟨tg,iter,ifs,0⟩)(hn:gens[d+1]?=none):compTurn (.ListComp elt gens scope pos) d it (.ref D) env=oJ tg ifs iter.pos it env (Iw elt D env) (again (.compLoop (.ListComp elt gens scope pos) d it (.ref D) env)):=by unfold compTurn oJ Iw;simp only[hg,hn];rfl
theorem zH(hg:gens[d]?=some ⟨tg,iter,ifs,0⟩)(hn:gens[d+1]?=some ⟨S6,qB,GN,0⟩):compTurn (.ListComp elt gens scope pos) d it (.ref D) env=oJ tg ifs iter.pos it env (Li elt gens scope pos (d+1) qB D env) (again (.compLoop (.ListComp elt gens scope pos) d it (.ref D) env)):=by unfold compTurn oJ Li;simp only[hg,hn];rfl
end
def tmG(wi:TI)(g:TG)(tt:TT)(tm:TM):TM:=λys σ H Q=>wi σ H λJ H1=>vQ J g tt tm Q ys σ H1
theorem Eb(hc:X.calm=true)(hx:X.xe=λ_ _=>False)(ap:Apart X D)(hd:gens[d]?=some ⟨tg,iter,ifs,0⟩)(ht:∀it,compTurn (.ListComp elt gens scope pos) d (.ref it) (.ref D) X.env=oJ tg ifs p (.ref it) X.env M (again (.compLoop (.ListComp elt gens scope pos) d (.ref it) (.ref D) X.env)))(hi:PI X tg iter wi)(hg:PG X tg g)(qA:PTs X ifs tt)(hm:PM X D M tm)(hs:∀x,foldedSetIterable iter X.env x=pure x:=by intro _;rfl):PM X D (Li elt gens scope pos d iter D X.env) (tmG wi g tt tm):=by
 intro z06 s σ H Q ys F hsz h c R E hk;obtain⟨I,nD,np,us,k,oD,rv⟩:=F;have S7:=ap;obtain⟨a1,a2,a3,a4,a5⟩:=ap;have I':Inv X (z06++[(D,rA us k)]) σ H s:=I.pins_of λp hp=>(zA6.mp hp).elim (λz=>I.pin p (zB2 _ z)) λz=>by rw[Zad.mp z];exact⟨oD,nD,a1,a2,λv z=>by cases z⟩
 have lS:=hi _ s σ H _ I' h;rw[hx]at lS;refine zAt (thx lS λv s1 h1=>zAt (wpAny_standAt ?_));rw[hs v];refine zAt (zAx (zAt (wpAny_holding (thx h1 λsP s2=>?_))));rintro⟨it,fp,tn,J,H2,e,I2,T,st2,f2,hW⟩;subst e;have pD:=I2.pin (D,rA us k) (zB2 _ (zB2 _ (Zad.mpr rfl)));have hf:∀b∈fp,jq X z06 H2 b/\b≠D:=λb hb=>by obtain⟨f0,f1,f2,f3,f4,f5⟩:=f2 b hb;exact⟨⟨f0,f1,f2,f3,f4,λq hq=>f5 q (by rw[<-zAf];exact Zas _ hq)⟩,(f5 (D,rA us k) z01).symm⟩
 have L:=λR hR=>Ea (R:=R) hc hx S7 (ht it) hg qA hm ⟨I2.unpinned,pD.2.1,np,us,k,pD.1,rv⟩ T st2 hf hW hR;refine zAt (wpAny_runOwn ?_);refine pR hd rfl (L _ λs' eI ar H' F' _ q=>hk s' eI ar H' F' q) ?_;exact T.self _ 0 _ _ _ st2 (L _ λs' eI ar H' F' _ q=>hk s' eI ar H' F' q)
theorem pU{M:Addr->Env->Sem Fin->Sem Fin}(hc:X.calm=true)(S:CScope X scope)(hd:gens[0]?=some ⟨tg,iter,ifs,0⟩)(lT:∀it D env,compTurn (.ListComp elt gens scope pos) 0 (.ref it) (.ref D) env=oJ tg ifs p (.ref it) env (M D env) (again (.compLoop (.ListComp elt gens scope pos) 0 (.ref it) (.ref D) env)))(bo:∀C,Caps X (compEnvC scope (cj X.env.cells scope.names []) C X.env) Nc src)(hb:∀C fp z06 s₂ H₂,PG (cxC X scope Nc C fp z06 s₂ H₂) tg g/\PTs (cxC X scope Nc C fp z06 s₂ H₂) ifs tt/\∀D,Apart (cxC X scope Nc C fp z06 s₂ H₂) D->PM (cxC X scope Nc C fp z06 s₂ H₂) D (M D (cxC X scope Nc C fp z06 s₂ H₂).env) tm){σ:St}{fp:Qa9}{tn:Nat->Heap->Prop}{J:It}(ah:Inv X z06 σ H₂ s₂)(T:Turn X.prog X.w X.K tg J fp it tn)(st:tn 0 s₂.heap)(hf:∀b∈fp,jq X z06 H₂ b){Fin:List V->Hp->Prop}(hW:vQ J g tt tm (λys _ H=>Fin ys H) [] (capσ σ src) H₂){RR:Value->Addr->Result->Shared->Prop}{E:gV}(AZ:∀D C s' ys H' m,Fin ys H'->H' D=none->Inv X z06 σ (upd H' D (.lst ys)) s'->s'.heap.Ns C m->jq X z06 (upd H' D (.lst ys)) C->RR (.ref D) C (.ok .next) s'):wpAny (model X.prog X.w) X.A (newList []) (λacc s₃=>wpAny (model X.prog X.w) X.A (newFunctionEnv scope X.env.globals (cj X.env.cells scope.names []) [] X.env.qual none .none (some X.env)) (λgX gS=>codeAny (model X.prog X.w) X.A (.compStart (.ListComp elt gens scope pos) 0 (.ref it) acc {gX with scope:=relabel scope X.env}) (RR acc gX.locals) gS) E s₃) E s₂:=by
 refine Zac (wpAny_newFunctionEnv S.hcell (by intro y hy;simp at hy) (λh₁ bp eJ=>?_) S.kind);dsimp only at bp eJ⊢;generalize ui:s₂.heap.push {cls:=.type "list",dict:=none,data:=.seq ([]:Qa4).toArray}=HH at bp eJ⊢;generalize gz:s₂.heap.objs.size=D at bp eJ⊢;have hC:HH.objs.size=D+1:=by rw[<-ui,Heap.size_push,gz]
 generalize S8:HH.objs.size=C at bp eJ hC⊢;have yA:D≠C:=z00;have below:∀b,b<s₂.heap.objs.size->b≠C/\b≠D:=λb hb=>by rw[gz]at hb;exact⟨by rw[hC];exact zB7 (Zba hb),zB7 hb⟩
 have ax:∀{b o},s₂.heap.get? b=some o->b≠C/\b≠D:=λ{b o}e=>below b (zB0 e);have old:∀b o,s₂.heap.get? b=some o->h₁.get? b=some o:=λb o e=>eJ.extBut b o (ax e).1 (zAu _ (ui▸zAu _ e));have dA:h₁.get? D=some {cls:=.type "list",data:=.seq ([]:Qa4).toArray}:=eJ.extBut _ _ yA (zAu _ (ui▸gz▸zB1 _ rfl));have EI:∀b∈fp,∃o,s₂.heap.get? b=some o:=λb hb=>by obtain⟨o,e,_⟩:=T.obj _ _ st b hb;exact⟨o,e⟩
 have oi:∀b∈fp,b≠C/\b≠D:=λb hb=>by obtain⟨o,e⟩:=EI b hb;exact ax e
 have sub:∀{x c},(cj X.env.cells scope.names []).lookup x=some c->X.env.cells.lookup x=some c:=λ{x c}e=>by
  rcases iM scope.names [] S.hfree e with z|z;.simp at z
  .exact z
 have A0:∀{b o},s₂.heap.get? b=some o->b<D:=λ{b o}e=>by rw[<-gz];exact zB0 e
 have fresh:∀a,D<=a->H₂ a=none:=λa ha=>ah.hok.fresh (by rw[gz];exact ha);have fR:∀{x c},X.env.cells.lookup x=some c->∃o,s₂.heap.get? c=some o:=λ{x c}e=>by obtain⟨v,o,ho,_⟩:=ah.cell x c e;exact⟨o,ho⟩
 have uj:∀b∈frs X.stack,∃o,s₂.heap.get? b=some o:=λb hb=>by
  rcases zAo.mp (ah.stkSub b hb)with e|hb;.rw[e];obtain⟨m,⟨o,_,_,ho,_⟩,_⟩:=ah.loc;exact⟨o,ho⟩
  .obtain⟨_,o,ho,_⟩:=ah.funs.mem hb;exact⟨o,ho⟩
 have uk:∀a,D<=a->a∉frs X.stack:=λa ha hb=>by obtain⟨o,e⟩:=uj a hb;exact absurd (zB3 (A0 e) ha) (Zaj _)
 have A4:∀b∈fp,b∉frs X.stack:=λb hb z=>by
  obtain⟨_,f1,f2,_⟩:=hf b hb;rcases zAo.mp (ah.stkSub b z)with e|e;.exact f1 e
  .exact f2 e
 generalize cm:cxC X scope Nc C fp z06 s₂ H₂=X';obtain⟨hg,ht,hm⟩:=hb C fp z06 s₂ H₂;rw[cm]at hg ht hm;have om:X'.Ok:=by
  subst cm;refine⟨ah.ok.mod,S.kind,ah.ok.glob,ah.ok.blt,?_,?_,?_,?_,ah.ok.hd,ah.ok.frames,.inl rfl,?_,ah.bs,Zaf ah.ok.bsz ah.sz,?_,A4,ah.stack,ah.stkFree⟩;.show s₂.heap.objs.size<=C;lia
  .exact λx y c e1 e2=>ah.ok.inj x y c (sub e1) (sub e2)
  .intro x hx;have hx:(relabel scope X.env).names.lookup x=some .cell\/(relabel scope X.env).names.lookup x=some .free:=hx;have:∃k',(x,k')∈scope.names/\k'=NameKind.free:=by
    rcases hx with z|z;.exact oH S.hcell z (.inl rfl)
    .exact oH S.hcell z (.inr rfl)
   exact jt scope.names [] (.inl this)
  .intro x c z;exact absurd z (by show¬(false=true);simp)
  .intro b hb;exact⟨(oi b hb).1,λx c e=>(hf b hb).2.2.2.2.1 x c (sub e)⟩
  .intro b o e hb;obtain⟨_,_,_,f3,_⟩:=hf b hb;rcases f3 with z|z;.exact ah.ok.noex b o e z
   .exact absurd (zB3 (zB0 (ah.ok.bs b o e).1) z) (Zaj _)
 have eP:X'.prog=X.prog:=by subst cm;rfl
 have ew:X'.w=X.w:=by subst cm;rfl
 have eK:X'.K=X.K:=by subst cm;rfl
 have eA:X'.A=X.A:=by subst cm;rfl
 have eE:X'.xe=λ_ _=>False:=by subst cm;rfl
 have eL:X'.env.locals=C:=by subst cm;rfl
 have eN:X'.env=compEnvC scope (cj X.env.cells scope.names []) C X.env:=by subst cm;rfl
 have ec:X'.calm=true:=by subst cm;exact hc
 have eS:X'.s₀=s₂:=by subst cm;rfl
 have eH:X'.H₀=H₂:=by subst cm;rfl
 have ef:X'.fs=frs X.stack:=by subst cm;rfl
 have ex:X'.ex=fp:=by subst cm;rfl
 have ep:X'.pn=X.pn++z06:=by subst cm;rfl
 have I0:Inv X' [] (capσ σ src) H₂ {s₂ with heap:=h₁,toks:=s₂.toks+([]:List (Str×Value)).length}:=by
  refine⟨om,by rw[eS],ah.bare,by rw[eS,eH];exact Un.kept old,⟨_,by rw[eL];exact bp,?_⟩,?_,by rw[eL];exact fresh _ z00,?_,?_,by rw[eP,ew];exact ah.hok.kept old,?_⟩
  .intro j x v e1 e2 e3;have e1:Nc[j]?=some x:=by subst cm;exact e1
   have e4:∃i,src[j]?=some (some i)/\(σ[i]?).join=some v:=by unfold capσ at e2;rw[zAb]at e2;cases q:src[j]? with|none=>rw[q]at e2;cases e2;|some o=>rw[q]at e2;cases o with|none=>simp at e2;|some i=>exact⟨i,rfl,by simpa using e2⟩
   obtain⟨i,e5,e6⟩:=e4;obtain⟨c1,c2,c3,c4⟩:=(bo C).get e1 e5;have e7:σ[i]?=some (some v):=by cases q:σ[i]? with|none=>rw[q]at e6;simp at e6;|some o=>rw[q]at e6;simp at e6;rw[e6]
   obtain⟨m,_,hl⟩:=ah.loc;obtain⟨u,r,l⟩:=hl i x v c1 e7 (.inr (by rcases c2 with z|z;exact .inl z;exact .inr z));refine⟨u,r,?_⟩;rcases l with⟨k,_⟩|⟨_,c,e,z⟩;.rcases c2 with c2|c2<;>(rw[k]at c2;cases c2)
   .refine .inr ⟨by rw[eN];exact c4,c,by rw[eN];exact c3.trans e,?_⟩;obtain⟨o,ho,hd⟩:=z;exact⟨o,old c o ho,hd⟩
  .intro x c e;rw[eN]at e;obtain⟨v,o,ho,hd⟩:=ah.cell x c (sub e);exact⟨v,o,old c o ho,hd⟩
  .intro x c e;rw[eN]at e;exact ah.freeC x c (sub e)
  .intro p hp;rw[ep,zAn]at hp;obtain⟨e,n,ne,nf,d⟩:=ah.pin p hp;refine⟨old _ _ e,n,by rw[eL];exact(ax e).1,?_,d⟩;rw[ef];intro z;rcases zAo.mp (ah.stkSub _ z)with q|q;.exact ne q
   .exact nf q
  .have:=(bo C).len;subst cm;show(capσ σ src).length=Nc.length;unfold capσ;rw[zA1,this]
 have GO:∀p∈X'.pn,p.1≠D:=λp hp=>by rw[ep]at hp;exact(ax (ah.pin p hp).1).2
 have l9:∀x c,X'.env.cells.lookup x=some c->c≠D:=λx c e=>by rw[eN]at e;obtain⟨o,ho⟩:=fR (sub e);exact(ax ho).2
 have ua:∀{P:Qa1}{H:Hp},(∀p∈P,p.1=D)->(∀b∈fp,H b=none)->∀b∈fp,jq X' P H b:=λ{P H}hP hn b hb=>by
  refine⟨hn b hb,by rw[eL];exact(oi b hb).1,by rw[ef];exact A4 b hb,.inl (by rw[ex];exact hb),λx c e=>?_,λp hp=>?_⟩;.rw[eN]at e;exact(hf b hb).2.2.2.2.1 x c (sub e)
  .rcases zA6.mp hp with z|z;.rw[ep]at z;exact(hf b hb).2.2.2.2.2 p z
   .rw[hP p z];exact(oi b hb).2.symm
 have ap:Apart X' D:=⟨by rw[eL];exact yA,by rw[ef];exact uk _ (zA3 _),by rw[eS,gz];exact zA3 _,l9,GO⟩;have T':Turn X'.prog X'.w X'.K tg J fp it tn:=by rw[eP,ew,eK];exact T
 have loop:∀s₃:Shared,s₃={s₂ with heap:=h₁,toks:=s₂.toks+([]:List (Str×Value)).length}->codeAny (model X.prog X.w) X.A (.compLoop (.ListComp elt gens scope pos) 0 (.ref it) (.ref D) (compEnvC scope (cj X.env.cells scope.names []) C X.env)) (RR (.ref D) C) s₃:=by
  rintro s₃ rfl;have L:=Ea (X:=X') (R:=RR (.ref D) C) ec eE ap (lT it D X'.env) hg ht (hm D ap) ⟨I0,fresh _ (zA3 _),λp hp=>absurd hp z01,[],_,dA,.nil⟩ T' (T.keep _ _ _ st λb _ o e=>old b o e) (λb hb=>⟨ua (λp hp=>absurd hp z01) (λb hb=>(hf b hb).1) b hb,(oi b hb).2⟩) hW ?_;.rw[eP,ew,eA,eN]at L;exact L
  rintro s4 ys jI H3⟨I4,iE,_,us,k,oD,tS⟩hsz fin;obtain⟨mC,A5,_⟩:=I4.loc;rw[eL]at A5;have hJ:=I4.base;rw[eS,eH,ef,ex]at hJ;have hlen:ys.length<=sizeLine:=Za7 hsz;have uu:HOk X.prog X.w (upd H3 D (.lst ys)) s4.heap:=λb u e=>by
   by_cases hb:b=D;.subst hb;rw[ao]at e;cases e;exact⟨hlen,us,k,tS,oD⟩
   .rw[aD hb]at e;have z:=I4.hok b u e;rw[eP,ew]at z;exact z.stay (λc v _ q=>q) (λc q=>by rw[aD (aH q iE)];exact q) λc xs q=>by rw[aD (aH q iE)];exact q
  have un:Un (frs X.stack) fp H₂ (upd H3 D (.lst ys)) s₂.heap s4.heap:=⟨hJ.keep,hJ.slot,λb o e n hx=>by rw[aD (ax e).2];exact hJ.free b o e n hx,hJ.there,λb xs e=>by have z:=hJ.tups b xs e;rw[aD (aH z iE)];exact z,λb o u e=>by have z:=hJ.frzs b o u e;rw[aD (aH z iE)];exact z,λb ps e=>by obtain⟨mo,z⟩:=hJ.tbls b ps e;exact⟨mo,by rw[aD (aH z iE)];exact z⟩⟩;have J4:Inv X z06 σ (upd H3 D (.lst ys)) s4:=ah.call' (ch:=fp) (by have:=I4.os;rw[eS]at this;exact this) un uu I4.bare λb hb=>by obtain⟨_,f1,f2,f3,f4,f5⟩:=hf b hb;exact⟨f3,f1,f4,f5⟩
  refine AZ D C s4 ys H3 mC fin iE J4 A5 ⟨?_,?_,?_,.inr ?_,?_,?_⟩;.rw[aD yA.symm];have:=I4.free;rw[eL]at this;exact this
  .have:=ah.lt;rw[gz]at this;exact Zam (zB3 this (by rw[hC];exact Zao _))
  .intro z;obtain⟨_,o,ho,_⟩:=ah.funs.mem z;exact(ax ho).1 rfl
  .have:=ah.sz;rw[gz]at this;lia
  .intro x c e z;obtain⟨o,ho⟩:=fR e;exact(ax ho).1 z
  .intro p hp z;exact(ax (ah.pin p hp).1).1 z
 exact pR hd rfl (loop _ rfl) (T.self _ 0 _ _ _ (T.keep _ _ _ st λb _ o e=>old b o e) (loop _ rfl))
theorem tD(hc:X.calm=true)(S:CScope X scope)(bo:∀C,Caps X (compEnvC scope (cj X.env.cells scope.names []) C X.env) Nc src)(hb:∀C fp z06 s₂ H₂,PG (cxC X scope Nc C fp z06 s₂ H₂) tg g/\PTs (cxC X scope Nc C fp z06 s₂ H₂) ifs tt/\PE (cxC X scope Nc C fp z06 s₂ H₂) elt te){σ:St}(ah:Inv X z06 σ H₂ s₂)(T:Turn X.prog X.w X.K tg J fp it tn)(st:tn 0 s₂.heap)(hf:∀b∈fp,jq X z06 H₂ b){Fin:List V->Hp->Prop}(hW:lK J g tt te Fin (capσ σ src) H₂){RR:Value->Addr->Result->Shared->Prop}{E:gV}(AZ:∀D C s' ys H' m,Fin ys H'->H' D=none->Inv X z06 σ (upd H' D (.lst ys)) s'->s'.heap.Ns C m->jq X z06 (upd H' D (.lst ys)) C->RR (.ref D) C (.ok .next) s'):wpAny (model X.prog X.w) X.A (newList []) (λacc s₃=>wpAny (model X.prog X.w) X.A (newFunctionEnv scope X.env.globals (cj X.env.cells scope.names []) [] X.env.qual none .none (some X.env)) (λgX gS=>codeAny (model X.prog X.w) X.A (.compStart (.ListComp elt [⟨tg,iter,ifs,0⟩] scope pos) 0 (.ref it) acc {gX with scope:=relabel scope X.env}) (RR acc gX.locals) gS) E s₃) E s₂:=by exact pU (gens:=[⟨tg,iter,ifs,0⟩]) (p:=iter.pos) (M:=λD env=>Iw elt D env) (tm:=tmE te) hc S rfl (λit D env=>nF rfl rfl) bo (λC fp z06 s₂ H₂=>⟨(hb C fp z06 s₂ H₂).1,(hb C fp z06 s₂ H₂).2.1,λD ap=>yt ap rfl (hb C fp z06 s₂ H₂).2.2⟩) ah T st hf hW AZ
def zJ(wi:TI)(src:List (Option Nat))(g:TG)(tt:TT)(te:TE):TE:=λσ H Q=>wi σ H λJ H1=>lK J g tt te (λys H'=>∀D,H' D=none->Q (.ref D) (upd H' D (.lst ys))) (capσ σ src) H1
section
theorem bN(Nc:Qa7)(src:List (Option Nat))(hc:X.calm=true)(hi:PI X tg iter wi)(hb:∀C fp z06 s₂ H₂,PG (cxC X scope Nc C fp z06 s₂ H₂) tg g/\PTs (cxC X scope Nc C fp z06 s₂ H₂) ifs tt/\PE (cxC X scope Nc C fp z06 s₂ H₂) elt te)(bo:∀C,Caps X (compEnvC scope (cj X.env.cells scope.names []) C X.env) Nc src)(S:CScope X scope)(hs:∀x,foldedSetIterable iter X.env x=pure x:=by intro _;rfl):PE X (.ListComp elt [⟨tg,iter,ifs,0⟩] scope pos) (zJ wi src g tt te):=by intro z06 s σ H Q I h;rw[eval_ListComp];refine wpAny_comprehension_free (use:=none) rfl hs (jO S.hfree) S.kind S.hnames ?_;refine thn (hi z06 s σ H _ I h) λv s1 h1=>thn h1 λsP s2 h2=>?_;obtain⟨it,fp,tn,J,H2,e,I2,T,st2,f2,hW⟩:=h2;subst e;refine tD (RR:=λacc C=>compPost (model X.prog X.w) X.A X.xe none (EP X z06 σ Q) acc C) hc S bo hb I2 T st2 f2 hW ?_;intro D C s' ys H' m fin nD J' hn fC;obtain⟨f0,f1,_,f3,f4,f5⟩:=fC;refine⟨m,hn,λGS iP=>?_⟩;exact⟨.ref D,_,J'.turned (t':=s'.toks) (λb o hb e=>iP.extBut b o hb e) f0 f1 f3 f4 f5,rfl,fin D nD⟩
def Lj(wi:TI)(src:List (Option Nat))(g:TG)(tt:TT)(te:TE)(i:Nat):TS:=λD σ H=>zJ wi src g tt te σ H λv H'=>D.nx (σ.set i (some v)) H'
theorem lM{pos' A6:Pos}(Nc:Qa7)(src:List (Option Nat))(hc:X.calm=true)(hN:X.N.Nodup)(lS:X.N[i]?=some x)(hx:Loc X.env.scope x)(hi:PI X tg iter wi)(hb:∀C fp z06 s₂ H₂,PG (cxC X scope Nc C fp z06 s₂ H₂) tg g/\PTs (cxC X scope Nc C fp z06 s₂ H₂) ifs tt/\PE (cxC X scope Nc C fp z06 s₂ H₂) elt te)(bo:∀C,Caps X (compEnvC scope (cj X.env.cells scope.names []) C X.env) Nc src)(S:CScope X scope)(S9:swapsWith (.ListComp elt [⟨tg,iter,ifs,0⟩] scope pos) (some (.Name x pos')) A6.line X.env=pure true:=by rfl)(hf:X.fn x=true\/X.env.scope.names.lookup x=some .local:=by first|exact .inl rfl|exact .inr rfl|assumption)(hs:∀x,foldedSetIterable iter X.env x=pure x:=by intro _;rfl):PS X (.Assign [.Name x pos'] (.ListComp elt [⟨tg,iter,ifs,0⟩] scope pos) A6) (Lj wi src g tt te i):=by
 intro z06 s σ H D I h;rw[exec_Assign_Name_used _ _ _ _ S9];refine zAt (wpAny_standAt (zAt ?_));show wpAny _ _ (do let _<-comprehension (.ListComp elt [⟨tg,iter,ifs,0⟩] scope pos) scope X.env _ (newList []) false (eval iter X.env) (some (assign (.Name x pos') X.env))) _ _ s;refine zAt (thn (wpAny_comprehension_free (use:=some (assign (.Name x pos') X.env)) (Q:=λ_ s'=>∃ar H',Inv X z06 ar H' s'/\D.nx ar H') rfl hs (jO S.hfree) S.kind S.hnames ?_) λ_ s' hq=>zAx (zAx hq));refine thn (hi z06 s σ H _ I h) λv s1 h1=>thn h1 λsP s2 h2=>?_;obtain⟨it,fp,tn,J,H2,e,I2,T,st2,f2,hW⟩:=h2;subst e;refine tD (RR:=λacc C=>compPost (model X.prog X.w) X.A X.xe (some (assign (.Name x pos') X.env)) (λ_ s'=>∃ar H',Inv X z06 ar H' s'/\D.nx ar H') acc C) hc S bo hb I2 T st2 f2 hW ?_;intro A C s' ys H' m fin nD J' hn fC;obtain⟨f0,f1,ZR,f3,f4,f5⟩:=fC;refine wpAny_assign_Name (jK J' hN lS hx (v:=.ref A) rfl (λkN Ta Tb=>?_) hf);have A7:∃m',kN.heap.Ns C m':=by
  obtain⟨a,sb,ha⟩:=Tb;have fy:C≠a:=by
   rcases ha with z|z;.rw[z];exact f1
   .exact λq=>f4 x a z q.symm
  exact⟨m,hn.sameBut sb fy⟩
 obtain⟨m',A7⟩:=A7;refine⟨m',A7,λGS iP=>?_⟩;exact⟨_,_,Ta.turned (t':=kN.toks) (λb o hb e=>iP.extBut b o hb e) f0 f1 f3 f4 f5,fin A nD⟩
end
section
theorem bJ:fK X (.builtin "isinstance") (λxs H Q=>∃x t n b,xs=[x,.ty n]/\TyOf X.K H x t/\PySem.W.kitOne X.K t (.type n)=some b/\Q (.bl b) H):=by intro z06 s σ H xs us Q I r h;obtain⟨x,t,n,b,rfl,ty,e,q⟩:=h;obtain⟨u,c,rfl,ru,rc⟩:=vals2 r;obtain rfl:c=Value.type n:=rc;exact BV I ru ty e λtk=>⟨.bl b,H,I.tok _,rfl,q⟩
theorem vR(bs:List Bool):TruthOf prog w A (λi v=>∃b,bs[i]?=some b/\v=Value.bool b) (λi=>(bs[i]?).getD false):=by intro i v s Q E hP hQ;obtain⟨b,hb,rfl⟩:=hP;dsimp only at hQ;rw[hb]at hQ;exact wpAny_truthy_bool hQ
theorem all_range(bs:List Bool):(List.range bs.length).all (λi=>(bs[i]?).getD false)=bs.all id:=by
 apply Zaw.mpr;rw[Zae,Zae];constructor;.intro h b hb;obtain⟨i,hi,e⟩:=Zaz hb;have:=h i (Za3.mpr hi);rw[zA0 hi,e]at this;exact this
 .intro h i hi;have hi:=Za3.mp hi;rw[zA0 hi];exact h _ (zAh hi)
theorem j8:∀{bs:List Bool}{us:Qa4},Vals (bs.map V.bl) us->us=bs.map Value.bool|[],_,.nil=>rfl|_::bs,_,.cons r t=>by rw[j8 (bs:=bs) t,show _=Value.bool _ from r];rfl
theorem dh(hc:X.calm=true):fK X (.builtin "all") (λxs H Q=>∃(p:Addr)(bs:List Bool),xs=[.ref p]/\SqL X.K H p (bs.map V.bl)/\Q (.bl (bs.all id)) H):=by
 intro z06 s σ H xs us Q I r h;obtain⟨p,bs,rfl,hq,q⟩:=h;obtain⟨u,rfl,ru⟩:=vals1 r;cases ru;obtain⟨z08,rv,pl,hz⟩:=I.list hq;have ei:=j8 rv;subst ei;have aI:p<s.heap.objs.size:=by obtain⟨_,e,_⟩:=pl.isList;exact zB0 e
 refine call_all_walk (wpAny_pyIter_list pl.isList ?_);have W:=Walks.list (prog:=X.prog) (w:=X.w) (A:=X.A.in1) (I.ok.hd hc) s.heap.objs.size p (zB7 aI) (bs.map Value.bool).toArray;refine⟨_,_,_,_,_,_,_,rfl,{sub:=W.sub,frame:=W.frame,item:=λi s Q E hi st hQ=>W.item i s Q E hi st λv h' tk hP=>hQ v h' tk ?_,done:=W.done,self:=W.self},⟨⟨_,zB1 _ rfl,rfl,rfl⟩,pl.isList.push _⟩,vR bs,λh' tk k=>?_⟩;.have A8:(bs.map Value.bool).toArray[i]?=some v:=hP;rw[List.getElem?_toArray,zAb]at A8;cases e:bs[i]? with|none=>rw[e]at A8;cases A8;|some b=>rw[e]at A8;exact⟨b,rfl,(zAl A8).symm⟩
 .have hsz:(bs.map Value.bool).toArray.size=bs.length:=by simp
  rw[hsz,all_range];refine⟨.bl _,H,?_,rfl,q⟩;refine I.kept (h':=h') (t':=tk) λb o e=>k b o ?_ (zAu _ e);intro z;have:b=s.heap.objs.size:=by simpa using z
  exact absurd (zB0 e) (by rw[this];exact Zaj _)
end
theorem nG{K:Frag}:PySem.W.kitOne K (.type "NoneType") (.type "int")=some false:=by kernel_rfl
theorem lN{K:Frag}:PySem.W.kitOne K (.type "NoneType") (.type "bool")=some false:=by kernel_rfl
theorem jY{K:Frag}:PySem.W.kitOne K (.type "NoneType") (.type "tuple")=some false:=by kernel_rfl
theorem uD{K:Frag}:PySem.W.kitOne K (.type "bool") (.type "int")=some true:=by kernel_rfl
theorem rB{K:Frag}:PySem.W.kitOne K (.type "bool") (.type "bool")=some true:=by kernel_rfl
theorem pW{K:Frag}:PySem.W.kitOne K (.type "bool") (.type "tuple")=some false:=by kernel_rfl
theorem vU{K:Frag}:PySem.W.kitOne K (.type "int") (.type "int")=some true:=by kernel_rfl
theorem uE{K:Frag}:PySem.W.kitOne K (.type "int") (.type "bool")=some false:=by kernel_rfl
theorem rD{K:Frag}:PySem.W.kitOne K (.type "int") (.type "tuple")=some false:=by kernel_rfl
theorem vV{K:Frag}:PySem.W.kitOne K (.type "str") (.type "int")=some false:=by kernel_rfl
theorem uF{K:Frag}:PySem.W.kitOne K (.type "str") (.type "bool")=some false:=by kernel_rfl
theorem rE{K:Frag}:PySem.W.kitOne K (.type "str") (.type "tuple")=some false:=by kernel_rfl
theorem uG{K:Frag}:PySem.W.kitOne K (.type "list") (.type "int")=some false:=by kernel_rfl
theorem rF{K:Frag}:PySem.W.kitOne K (.type "list") (.type "bool")=some false:=by kernel_rfl
theorem pY{K:Frag}:PySem.W.kitOne K (.type "list") (.type "tuple")=some false:=by kernel_rfl
theorem rG{K:Frag}:PySem.W.kitOne K (.type "tuple") (.type "int")=some false:=by kernel_rfl
theorem pZ{K:Frag}:PySem.W.kitOne K (.type "tuple") (.type "bool")=some false:=by kernel_rfl
theorem oZ{K:Frag}:PySem.W.kitOne K (.type "tuple") (.type "tuple")=some true:=by kernel_rfl
theorem uH{K:Frag}:PySem.W.kitOne K (.type "dict") (.type "int")=some false:=by kernel_rfl
theorem rH{K:Frag}:PySem.W.kitOne K (.type "dict") (.type "bool")=some false:=by kernel_rfl
theorem q9{K:Frag}:PySem.W.kitOne K (.type "dict") (.type "tuple")=some false:=by kernel_rfl
section
variable{κ:Type}[DecidableEq κ]
def dY(z07:List (κ×V))(k:κ):Option V:=(z07.find? λkv=>decide (kv.1=k)).map (·.2)
def putK(z07:List (κ×V))(k:κ)(v:V):List (κ×V):=if(z07.any λkv=>decide (kv.1=k))=true then z07.map (λkv=>if kv.1=k then(kv.1,v)else kv)else z07++[(k,v)]
theorem dD{k:κ}(e:p.1=k):dY (p::r) k=some p.2:=by simp[dY,e]
theorem dF{k:κ}(e:¬p.1=k):dY (p::r) k=dY r k:=by simp[dY,e]
theorem lO(k:κ):∀z07,(z07.any λkv=>decide (kv.1=k))=(dY z07 k).isSome
 |[]=>rfl|p::r=>by
  rw[List.any_cons];by_cases e:p.1=k;.simp only[dD e,decide_eq_true e,Bool.true_or,Option.isSome_some]
  .rw[dF e,zB6 e];exact lO k r
theorem vW(k j:κ)(y:V):∀z07,dY (z07.map λkv=>if kv.1=k then(kv.1,y)else kv) j=(dY z07 j).map λx=>if j=k then y else x
 |[]=>rfl|p::r=>by
  have ih:=vW k j y r;rw[zAk];by_cases h:p.1=k
  .rw[zAz h];by_cases e:p.1=j;.rw[dD (p:=(p.1,y)) e,dD e,Option.map_some,zAz (e.symm.trans h)]
   .rw[dF (p:=(p.1,y)) e,dF e,ih]
  .rw[zAy h];by_cases e:p.1=j;.rw[dD (p:=p) e,dD e,Option.map_some,zAy (λz=>h (e.trans z))]
   .rw[dF (p:=p) e,dF e,ih]
theorem tE(k j:κ)(y:V):∀z07,dY z07 k=none->dY (z07++[(k,y)]) j=if j=k then some y else dY z07 j
 |[],_=>by
  by_cases e:k=j;.rw[zAz e.symm];exact dD (p:=(k,y)) e
  .rw[zAy (λz=>e z.symm)];exact dF (p:=(k,y)) e;|p::r,hn=>by
  rw[List.cons_append];have hk:¬p.1=k:=λz=>by rw[dD z]at hn;cases hn
  rw[dF hk]at hn;have ih:=tE k j y r hn;by_cases e:p.1=j;.rw[dD e,dD e,zAy (λz=>hk (e.trans z))]
  .rw[dF e,dF e,ih]
theorem gn(z07:List (κ×V))(k j:κ)(y:V):dY (putK z07 k y) j=if j=k then some y else dY z07 j:=by
 unfold putK;by_cases a:(z07.any λkv=>decide (kv.1=k))=true
 .rw[zAz a,vW];rw[lO]at a;by_cases e:j=k;.obtain⟨x,hx⟩:=Zax.mp a;rw[zAz e,e,hx,Option.map_some,zAz rfl]
  .rw[zAy e];cases dY z07 j with|none=>rfl;|some x=>rw[Option.map_some,zAy e]
 .rw[zAy a];refine tE k j y z07 ?_;rw[lO]at a;cases q:dY z07 k with|none=>rfl;|some x=>rw[q]at a;exact(a rfl).elim
theorem dw(z07:List (κ×V))(k:κ)(v:V):(putK z07 k v).length<=z07.length+1:=by
 unfold putK;split;.rw[zA1];lia
 .rw[zA2,zAe,List.length_nil];lia
theorem RelO.isSome_eq(r:RelO o u):o.isSome=u.isSome:=by cases o with
 |none=>cases u with|none=>rfl;|some _=>exact(r).elim
 |some _=>cases u with|none=>exact(r).elim;|some _=>rfl
theorem RelO.getD(r:RelO o u)(rd:RelV d d'):RelV (o.getD d) (u.getD d'):=by cases o with
 |none=>cases u with|none=>exact rd;|some _=>exact(r).elim
 |some _=>cases u with|none=>exact(r).elim;|some _=>exact r
theorem KV.val(r:KV z07 vs)(k:κ):RelO (dY z07 k) (valueAt vs k):=by induction r with|nil=>exact True.intro;|@cons p q ps qs h t ih=>
  obtain⟨h1,h2⟩:=h;by_cases e:p.1=k
  .have e':q.1=k:=h1.symm.trans e;have b:valueAt (q::qs) k=some q.2:=by simp[valueAt,e']
   rw[dD e,b];exact h2
  .have e':¬q.1=k:=λz=>e (h1.trans z);have b:valueAt (q::qs) k=valueAt qs k:=by simp[valueAt,e']
   rw[dF e,b];exact ih
theorem KV.any(r:KV z07 vs)(k:κ):(z07.any λkv=>decide (kv.1=k))=vs.any λkv=>decide (kv.1=k):=by induction r with|nil=>rfl;|cons h t ih=>rw[List.any_cons,List.any_cons,ih,h.1]
theorem KV.repl(r:KV z07 vs)(k:κ)(ry:RelV y u):KV (z07.map λkv=>if kv.1=k then(kv.1,y)else kv) (vs.map λkv=>if kv.1=k then(kv.1,u)else kv):=by induction r with|nil=>exact .nil;|@cons p q ps qs h t ih=>
  rw[zAk,zAk];refine .cons ?_ ih;obtain⟨h1,h2⟩:=h;by_cases e:p.1=k;.rw[zAz e,zAz (h1.symm.trans e)];exact⟨h1,ry⟩
  .rw[zAy e,zAy (λz=>e (h1.trans z))];exact⟨h1,h2⟩
theorem KV.put(r:KV z07 vs)(k:κ)(ry:RelV y u):KV (putK z07 k y) (stored vs k u):=by
 unfold putK stored;rw[r.any k];by_cases e:(vs.any λkv=>decide (kv.1=k))=true;.rw[zAz e,zAz e];exact r.repl k ry
 .rw[zAy e,zAy e];exact Paired.snoc r ⟨rfl,ry⟩
theorem KV.length{vs:List (κ×Value)}(r:KV z07 vs):z07.length=vs.length:=Paired.length r
end
theorem vX(r:RelV (kV k) u):(cH P w).is k u=true:=by cases k with|inl i=>obtain⟨t,e⟩:=(r);subst e;exact vI P w i t;|inr x=>obtain⟨t,e⟩:=(r);subst e;exact vJ P w x t
theorem tG:∀{ks:List Key}{us:Qa4},Vals (ks.map kV) us->ItemsAre (cH P w) ks us|[],_,r=>by rw[List.map_nil]at r;cases r;exact .nil;|k::ks,_,r=>by cases r with|cons h t=>exact .cons (vX h) (tG t)
abbrev KT(H:Hp):List (List Key×V)->List (List Key×Addr×Value)->Prop:=Paired λp q=>p.1=q.1/\H q.2.1=some (.tup (p.1.map kV))/\RelV p.2 q.2.2
theorem KT.val(r:KT H z07 xs)(k:List Key):RelO (dY z07 k) ((atKey xs k).map (·.2)):=by induction r with|nil=>exact True.intro;|@cons p q ps qs h t ih=>
  obtain⟨h1,_,h2⟩:=h;by_cases e:p.1=k
  .have e':q.1=k:=h1.symm.trans e;have b:atKey (q::qs) k=some q.2:=by simp[atKey,e']
   rw[dD e,b];exact h2
  .have e':¬q.1=k:=λz=>e (h1.trans z);have b:atKey (q::qs) k=atKey qs k:=by simp[atKey,e']
   rw[dF e,b];exact ih
theorem KT.repl(r:KT H z07 xs)(k:List Key)(ry:RelV y u):KT H (z07.map λkv=>if kv.1=k then(kv.1,y)else kv) (xs.map (putAt k u)):=by induction r with|nil=>exact .nil;|@cons p q ps qs h t ih=>
  rw[zAk];refine .cons ?_ ih;obtain⟨h1,h2,h3⟩:=h;unfold putAt;by_cases e:p.1=k;.rw[zAz e,zAz (h1.symm.trans e)];exact⟨h1,h2,ry⟩
  .rw[zAy e,zAy (λz=>e (h1.trans z))];exact⟨h1,h2,h3⟩
theorem KT.put(r:KT H z07 xs)(k:List Key)(hb:H b=some (.tup (k.map kV)))(ry:RelV y u):KT H (putK z07 k y) (storedH xs k b u):=by
 have e:(z07.any λkv=>decide (kv.1=k))=(atKey xs k).isSome:=by rw[lO,(r.val k).isSome_eq,Option.isSome_map]
 unfold putK storedH;rw[e];by_cases q:(atKey xs k).isSome=true;.rw[zAz q,zAz q];exact r.repl k ry
 .rw[zAy q,zAy q];exact Paired.snoc r ⟨rfl,hb,ry⟩
theorem KT.keeps(r:KT H z07 xs)(ht:∀b ys,H b=some (.tup ys)->H' b=some (.tup ys)):KT H' z07 xs:=Paired.mapP r λ_ _ z=>⟨z.1,ht _ _ z.2.1,z.2.2⟩
section
theorem Kl(ok:HOk P w H h)(e:Rd H a u):ObjOk P w H h a u:=e.ok ok
theorem vY(ok:HOk P w H h)(e:Rd H a (.dK z07)):z07.length<=sizeLine/\(a==sysModules)=false/\∃vs,KV z07 vs/\h.DictOf (cH P w) a vs:=show ObjOk P w H h a (.dK z07)from Kl ok e
theorem Ec(ok:HOk P w H h)(e:H a=some (.dK z07)):z07.length<=sizeLine/\(a==sysModules)=false/\∃vs,KV z07 vs/\h.DictOf (cH P w) a vs:=vY ok (.inl e)
theorem uI(ok:HOk P w H h)(e:H a=some (.tup (ks.map kV))):(tupleKind (cH P w)).is h ks a:=by obtain⟨_,z08,r,o,h1,h2,n,h3⟩:=(ok a _ e);exact⟨o,z08.toArray,n,h1,h2,h3,by simpa using tG r⟩
theorem vZ(ok:HOk P w H h)(e:Rd H a (.dT z07)):z07.length<=sizeLine/\(a==sysModules)=false/\∃xs,KT H z07 xs/\h.DictOfH (tupleKind (cH P w)) a xs:=by
 obtain⟨z,y,xs,r,o,es,ep,h1,h2,h3,h4,h5⟩:=(Kl ok e);refine⟨z,y,xs,r,o,es,ep,h1,h2,h3,h4,λx hx=>?_,h5⟩;have all:∀{l:List (List Key×V)}{m:List (List Key×Addr×Value)},KT H l m->∀x∈m,(tupleKind (cH P w)).is h x.1 x.2.1:=by intro l m q;induction q with|nil=>intro x hx;exact nomatch hx;|@cons p q ps qs hq t ih=>
   intro x hx;rcases zAo.mp hx with e|hx;.subst e;exact uI ok (by rw[<-hq.1];exact hq.2.1)
   .exact ih x hx
 exact all r x hx
theorem O8(ok:HOk P w H h)(e:H a=some (.dT z07)):z07.length<=sizeLine/\(a==sysModules)=false/\∃xs,KT H z07 xs/\h.DictOfH (tupleKind (cH P w)) a xs:=vZ ok (.inl e)
end
def DGet(H:Hp)(a:Addr)(y:V)(r:Option V):Prop:=(∃z07 k,Rd H a (.dK z07)/\y=kV k/\r=dY z07 k)\/∃z07 k b,Rd H a (.dT z07)/\y=.ref b/\H b=some (.tup (k.map kV))/\r=dY z07 k
def DPut(H:Hp)(a:Addr)(y v:V)(H':Hp):Prop:=(∃z07 k,H a=some (.dK z07)/\y=kV k/\z07.length<sizeLine/\H'=upd H a (.dK (putK z07 k v)))\/∃z07 k b,H a=some (.dT z07)/\y=.ref b/\H b=some (.tup (k.map kV))/\z07.length<sizeLine/\H'=upd H a (.dT (putK z07 k v))
theorem DGet.k{k:Key}(e:H a=some (.dK z07)):DGet H a (kV k) (dY z07 k):=.inl ⟨z07,k,.inl e,rfl,rfl⟩
theorem DGet.t{k:List Key}(e:H a=some (.dT z07))(eb:H b=some (.tup (k.map kV))):DGet H a (.ref b) (dY z07 k):=.inr ⟨z07,k,b,.inl e,rfl,eb,rfl⟩
theorem DPut.k{k:Key}(e:H a=some (.dK z07))(hl:z07.length<sizeLine):DPut H a (kV k) v (upd H a (.dK (putK z07 k v))):=.inl ⟨z07,k,e,rfl,hl,rfl⟩
theorem DPut.t{k:List Key}(e:H a=some (.dT z07))(eb:H b=some (.tup (k.map kV)))(hl:z07.length<sizeLine):DPut H a (.ref b) v (upd H a (.dT (putK z07 k v))):=.inr ⟨z07,k,b,e,rfl,eb,hl,rfl⟩
section
variable{σ:St}
theorem Inv.big(I:Inv X z06 σ H s):sysModules<s.heap.objs.size:=by have h:mainGlobals<s.heap.objs.size:=(I.mod.glob.keeps I.bk).lt;exact Nat.lt_trans z02 h
theorem BZ(hu:A.units+1<cLine)(I:Inv X z06 σ H s)(g:DGet H a y (some v))(ry:RelV y u)(h:∀w' s',Inv X z06 σ H s'->RelV v w'->Q w' s'):wpAny (model X.prog X.w) A (getItem (.ref a) u) Q E s:=by
 rcases g with⟨z07,k,e,ey,l⟩|⟨z07,k,b,e,ey,eb,l⟩;.subst ey;obtain⟨z,hd,vs,rel,dd⟩:=vY I.hok e;obtain⟨w',hw,fg⟩:=RelO.some_of (v:=v) (o:=valueAt vs k) (by rw[l];exact rel.val k);exact wpAny_getItem_of (vX ry) dd.mapOf hw (h w' _ (I.tok _) fg)
 .subst ey;cases(ry);obtain⟨z,hd,xs,rel,dd⟩:=vZ I.hok e;obtain⟨w',hw,fg⟩:=RelO.some_of (v:=v) (o:=(atKey xs k).map (·.2)) (by rw[l];exact rel.val k);obtain⟨p,hp,kg⟩:=Option.map_eq_some_iff.mp hw;refine wpAny_getItem_heap (tupleKind_room_in1 hu) (uI I.hok eb) dd hp ?_;rw[kg];exact h w' _ (I.tok _) fg
theorem pF(I:Inv X z06 σ H s)(mu:Mut (H a))(hs:Heap.SameBut a s.heap h')(he:∃q,h'.get? a=some q)(new:ObjOk X.prog X.w (upd H a ob) h' a ob):Inv X z06 σ (upd H a ob) {s with heap:=h',toks:=t'}:=I.write (x:=a) (e:=a) mu (.inl rfl) (λb q hb z=>(hs.2 b hb).trans z) he new
theorem yu(z:z07.length<=sizeLine)(hd:(a==sysModules)=false)(rel:KV z07 vs)(dd:h'.DictOf (cH P w) a vs):ObjOk P w H' h' a (.dK z07):=⟨z,hd,vs,rel,dd⟩
theorem Ca(hu:A.units+1<cLine)(I:Inv X z06 σ H s)(g:DPut H a y v H')(ry:RelV y u)(rv:RelV v r)(h:∀s',Inv X z06 σ H' s'->Q () s'):wpAny (model X.prog X.w) A (setItem (.ref a) u r) Q E s:=by
 rcases g with⟨z07,k,e,ey,l,eH⟩|⟨z07,k,b,e,ey,eb,l,eH⟩
 .subst ey eH;obtain⟨z,hd,vs,rel,dd⟩:=Ec I.hok e;have hz:vs.length<=sizeLine:=by rw[<-rel.length];exact z
  have hl:(putK z07 k v).length<=sizeLine:=by have:=dw z07 k v;lia
  refine wpAny_setItem_pairs (hsz:=hz) (vX ry) dd λh' nh hs=>h _ ?_;have he:∃q,h'.get? a=some q:=by obtain⟨q,_,_,hq,_⟩:=nh;exact⟨q,hq⟩
  exact pF I (by rw[e];exact True.intro) hs he (yu hl hd (rel.put k rv) nh)
 .subst ey eH;cases(ry);obtain⟨z,hd,xs,rel,dd⟩:=O8 I.hok e;have hz:xs.length<=sizeLine:=by rw[<-Paired.length rel];exact z
  have hl:(putK z07 k v).length<=sizeLine:=by have:=dw z07 k v;lia
  refine wpAny_setItem_heap (hsz:=hz) (tupleKind_room_in1 hu) (uI I.hok eb) dd λh' nh hs=>h _ ?_;obtain⟨q,es,ep,hq,h2,h3,h4,_,h5⟩:=nh;refine pF I (by rw[e];exact True.intro) hs ⟨q,hq⟩ ⟨hl,hd,_,(rel.put k eb rv).keeps λc ys ec=>?_,q,es,ep,hq,h2,h3,h4,h5⟩;rw[aD (Np ec e (λz=>nomatch z))];exact ec
end
section
end
def O9(i:Expr):Prop:=∀ov iv,subscripted i false ov iv=operate [ov,iv] (getItem ov iv)
theorem Iz{T id:String}(hl:typeLookup (.type T) "__getitem__"=pure (some (.builtin id)))(hs:O9 slice)(h:wpAny (model prog w) A (eval value env) (λo s₁=>wpAny (model prog w) A (eval slice env) (λi s₂=>s₂.TypeIs o T/\wpAny (model prog w) A (getItem o i) Q E s₂) E s₁) E s):wpAny (model prog w) A (eval (.Subscript value slice pos) env) Q E s:=by
 refine Subscript_ (wpAny_mono h (λo s₁ h₁=>wpAny_mono h₁ (λi s₂ lP=>?_) λ_ _ x=>x) λ_ _ x=>x);obtain⟨hT,lP⟩:=lP;refine zAt ?_;refine zAt (wpAny_specialOf hT hl ?_);have fin:wpAny (model prog w) A (subscripted slice false o i) (λr s₃=>wpAny (model prog w) A (letTemporaryGo value o r>>=λ_=>pure r) Q E s₃) E s₂:=by rw[hs o i];exact wpAny_operating (wpAny_mono lP (λr s₃ nX=>zAt (wpAny_letTemporaryGo (zAx nX))) λ_ _ x=>x)
 first|exact zAx (zAt fin);|exact zAt (zAx (zAt fin));|exact zAt fin
theorem wg{σ:St}(I:Inv X z06 σ H s)(g:DGet H a y o):s.TypeIs (.ref a) "dict":=by
 rcases g with⟨z07,k,e,_,_⟩|⟨z07,k,b,e,_,_,_⟩;.obtain⟨_,_,vs,_,dd⟩:=vY I.hok e;exact dd.typeIs
 .obtain⟨_,_,xs,_,dd⟩:=vZ I.hok e;exact dd.typeIs
def Oa(td ty:TE):TE:=λσ H Q=>td σ H λx H1=>ty σ H1 λy H2=>∃a v,x=.ref a/\DGet H2 a y (some v)/\Q v H2
def Ob(td ty tv:TE):TS:=λD σ H=>tv σ H λv H1=>td σ H1 λx H2=>ty σ H2 λy H3=>∃a H4,x=.ref a/\DPut H3 a y v H4/\D.nx σ H4
section
theorem uJ(hu:X.A.units+1<cLine)(ho:PE X o td)(hi:PE X i ty)(hs:O9 i):PE X (.Subscript o i pos) (Oa td ty):=by intro z06 s σ H Q I h;refine Iz PySem.F.slot_dict_getitem.lookup hs (thn (ho z06 s σ H _ I h) λu s1⟨x,H1,I1,rx,q1⟩=>thn (hi z06 s1 σ H1 _ I1 q1) λiv s2=>?_);rintro⟨y,H2,I2,ry,a,v,ex,g,q2⟩;subst ex;obtain rfl:u=Value.ref a:=rx;exact⟨wg I2 g,BZ hu I2 g ry λw' s3 I3 fg=>⟨v,H2,I3,fg,q2⟩⟩
theorem uK(hu:X.A.units+1<cLine)(ho:PE X o td)(hi:PE X i ty)(hv:PE X value tv)(hs:swapsWith value (some (.Subscript o i pos')) pos.line X.env=pure false):PS X (.Assign [.Subscript o i pos'] value pos) (Ob td ty tv):=by intro z06 s σ H D I h;refine wpAny_Assign_Subscript (thn (hv z06 s σ H _ I h) λr s1⟨v,H1,I1,rv,q1⟩=>thn (ho z06 s1 σ H1 _ I1 q1) λu s2⟨x,H2,I2,rx,q2⟩=>thn (hi z06 s2 σ H2 _ I2 q2) λiv s3=>?_) hs;rintro⟨y,H3,I3,ry,a,H4,ex,g,q3⟩;subst ex;obtain rfl:u=Value.ref a:=rx;exact Ca hu I3 g ry rv λs4 I4=>⟨σ,H4,I4,q3⟩
end
theorem qb(h:Heap)(hb:sysModules<h.objs.size):ObjOk P w H (h.push {cls:=.type "dict",data:=.dict #[]}) h.objs.size (.dK []):=⟨zAp _,beq_eq_false_iff_ne.mpr (Ne.symm (zB7 hb)),[],.nil,Heap.DictOf.new h⟩
theorem Ed(h:Heap)(hb:sysModules<h.objs.size):ObjOk P w H (h.push {cls:=.type "dict",data:=.dict #[]}) h.objs.size (.dT []):=⟨zAp _,beq_eq_false_iff_ne.mpr (Ne.symm (zB7 hb)),[],.nil,_,#[],0,zB1 _ rfl,⟨rfl,rfl,rfl⟩,rfl,rfl,List.nodup_nil⟩
def Lk:TE:=λ_ H Q=>∀p,H p=none->Q (.ref p) (upd H p (.dT []))
section
theorem Ef:PE X (.Dict [] [] pos) Lk:=λz06 s σ H Q I h=>wpAny_Dict_empty ⟨.ref s.heap.objs.size,_,I.laid (a:=s.heap.objs.size) (o:=.dT []) (t':=s.toks) (λ_ _ q=>zAu _ q) (zA3 _) (Ed s.heap I.big),rfl,h _ (I.hok.fresh (zA3 _))⟩
end
def uL:List (TE×TE)->St->Hp->(List (V×V)->Hp->Prop)->Prop|[],_,H,Q=>Q [] H|(tk,tv)::r,σ,H,Q=>tk σ H λx H1=>tv σ H1 λy H2=>uL r σ H2 λps H3=>Q ((x,y)::ps) H3
abbrev VV:List (V×V)->List (Value×Value)->Prop:=Paired λp q=>RelV p.1 q.1/\RelV p.2 q.2
def PPs(X:Cx)(pos:Pos)(keys:List (Option Expr))(values:Qa6)(ki:List (TE×TE)):Prop:=∀z06 s(σ:St)H Q,Inv X z06 σ H s->uL ki σ H Q->wpAny (model X.prog X.w) X.A (evalPairs (pairTrees keys values X.env pos)) (λvs s'=>∃ps H',Inv X z06 σ H' s'/\VV ps vs/\Q ps H') X.xe s
theorem zK:PPs X pos [] [] []:=λz06 s σ H Q I h=>pairTrees_nil_walk ⟨[],H,I,.nil,h⟩
theorem wj(hk:PE X k tk)(hv:PE X v tv)(hr:PPs X pos ks vs ki):PPs X pos (some k::ks) (v::vs) ((tk,tv)::ki):=λz06 s σ H Q I h=>pairTrees_cons_walk (thn (hk z06 s σ H _ I h) λu s1⟨x,H1,I1,rx,q1⟩=>thn (hv z06 s1 σ H1 _ I1 q1) λw2 s2⟨y,H2,I2,ry,q2⟩=>thn (hr z06 s2 σ H2 _ I2 q2) λws s3=>by rintro⟨ps,H3,I3,rel,q3⟩;exact⟨(x,y)::ps,H3,I3,.cons ⟨rx,ry⟩ rel,q3⟩)
def iz(z07 more:List (Key×V)):List (Key×V):=more.foldl (λacc kv=>putK acc kv.1 kv.2) z07
theorem KV.merge:∀{more:List (Key×V)}{rs:List (Key×Value)}{z07:List (Key×V)}{vs:List (Key×Value)},KV more rs->KV z07 vs->KV (iz z07 more) (merged vs rs):=by intro more rs z07 vs r;induction r generalizing z07 vs with|nil=>intro q;exact q;|@cons p q ps qs h t ih=>
  intro r0;have e:KV (putK z07 p.1 p.2) (stored vs q.1 q.2):=by have:=r0.put p.1 h.2;rw[<-h.1];exact this
  exact ih e
theorem iB:∀more z07,(iz z07 more).length<=z07.length+more.length|[],z07=>by show z07.length<=z07.length+0;lia;|p::r,z07=>by have h1:=iB r (putK z07 p.1 p.2);have h2:=dw z07 p.1 p.2;show(iz (putK z07 p.1 p.2) r).length<=_;rw[zAe];lia
theorem jZ:∀{z07:List (Key×V)}{ws:List (Value×Value)},VV (z07.map λkv=>(kV kv.1,kv.2)) ws->∃rs,Carries (cH P w) ws rs/\KV z07 rs|[],_,r=>by rw[List.map_nil]at r;cases r;exact⟨[],True.intro,.nil⟩;|p::z07,_,r=>by cases r with|@cons a b as bs h t=>obtain⟨rs,c,q⟩:=jZ (P:=P) (w:=w) t;obtain⟨b1,b2⟩:=b;exact⟨(p.1,b2)::rs,⟨vX h.1,rfl,c⟩,.cons ⟨rfl,h.2⟩ q⟩
def Oc(ki:List (TE×TE)):TE:=λσ H Q=>∀p,H p=none->uL ki σ (upd H p (.dK [])) λps H2=>H2 p=some (.dK [])/\∃z07,ps=z07.map (λkv=>(kV kv.1,kv.2))/\z07.length<=15/\Q (.ref p) (upd H2 p (.dK (iz [] z07)))
theorem IK(h:PPs X pos keys values ki)(lI:keys.all (·.isSome)=true)(hl:keys.length=values.length)(h0:keys≠[])(GU:keys.length<=15):PE X (.Dict keys values pos) (Oc ki):=by
 intro z06 s σ H Q I q;have hn:=I.hok.fresh (zA3 s.heap.objs.size);have I1:=I.laid (a:=s.heap.objs.size) (o:=.dK []) (h':=s.heap.push {cls:=.type "dict",data:=.dict #[]}) (t':=s.toks) (λ_ _ q=>zAu _ q) (zA3 _) (qb s.heap I.big);refine wpAny_Dict_walk (knd:=cH X.prog X.w) lI hl h0 GU (thn (h z06 _ σ _ _ I1 (q _ hn)) λws s2=>?_);rintro⟨ps,H2,I2,rel,e,z07,ep,lk,q2⟩;subst ep;obtain⟨rs,c,rk⟩:=jZ (P:=X.prog) (w:=X.w) rel;obtain⟨z,hd,Tc,r0,dd⟩:=Ec I2.hok e;cases r0;refine⟨rs,c,dd,λh' nh hs=>⟨.ref s.heap.objs.size,_,?_,rfl,q2⟩⟩;have hz:(iz [] z07).length<=sizeLine:=by have h1:=iB z07 [];rw[List.length_nil]at h1;rw[sizeLine_eq];lia
 have he:∃q,h'.get? s.heap.objs.size=some q:=by obtain⟨q,_,_,hq,_⟩:=nh;exact⟨q,hq⟩
 exact pF I2 (by rw[e];exact True.intro) hs he (yu hz hd (rk.merge .nil) nh)
structure M2(X:Cx)(o:Expr)(m:Str)(apos:Pos)(e f:Expr)(bP:Pos):Prop where
 base:attributeBase o m X.env (eval o X.env)=eval o X.env
 few:((backTo bP (starEach [e,f] X.env)).all (λx=>!x.1)&&(backToKw bP (keywordEach [] X.env)).all (λx=>x.1.isSome)&&decide (([e,f]:Qa6).length+([]:List Keyword).length+(if([]:List Keyword).isEmpty then 0 else 1)<30))=true
 line:(apos.endLine==bP.line)=true
 trees:backTo bP (starEach [e,f] X.env)=[(false,eval e X.env),(false,eval f X.env)]
def IsD(H:Hp)(a:Addr):Prop:=(∃z07,Rd H a (.dK z07))\/∃z07,Rd H a (.dT z07)
theorem Ln{σ:St}(I:Inv X z06 σ H s)(d:IsD H a):s.TypeIs (.ref a) "dict"/\(∀b,Value.ref a=.ref b->∃ob,s.heap.get? b=some ob/\ob.dict=none)/\(a==sysModules)=false:=by
 rcases d with⟨z07,e⟩|⟨z07,e⟩;.obtain⟨_,hd,vs,_,dd⟩:=vY I.hok e;refine⟨dd.typeIs,λb q=>?_,hd⟩;cases q;obtain⟨ob,_,_,h1,h2,_⟩:=dd;exact⟨ob,h1,h2.2.1⟩
 .obtain⟨_,hd,xs,_,dd⟩:=vZ I.hok e;refine⟨dd.typeIs,λb q=>?_,hd⟩;cases q;obtain⟨ob,_,_,h1,h2,_⟩:=dd;exact⟨ob,h1,h2.2.1⟩
section
variable{σ:St}
theorem Lp(hu:A.units+1<cLine)(I:Inv X z06 σ H s)(g:DGet H a y o)(ry:RelV y u)(rd:RelV d r)(h:∀w' s',Inv X z06 σ H s'->RelV (o.getD d) w'->Q w' s'):wpAny (model X.prog X.w) A (call (.builtin "dict.get") [.ref a,u,r]) Q E s:=by
 rcases g with⟨z07,k,e,ey,l⟩|⟨z07,k,b,e,ey,eb,l⟩;.subst ey;obtain⟨z,hd,vs,rel,dd⟩:=vY I.hok e;refine call_meetsIn PySem.F.slot_dict_get dd.typeIs PySem.F.entry_dict_get (PySem.F.args_dict_get_3 _ _ _) (meets_dict_get_default (cH X.prog X.w) a (vX ry) hd r) ⟨_,dd.mapOf,h _ _ (I.tok _) ?_⟩;rw[l];exact(rel.val k).getD rd
 .subst ey;cases(ry);obtain⟨z,hd,xs,rel,dd⟩:=vZ I.hok e;refine call_meetsIn PySem.F.slot_dict_get dd.typeIs PySem.F.entry_dict_get (PySem.F.args_dict_get_3 _ _ _) (meetsH_dict_get_default (tupleKind (cH X.prog X.w)) a b hd r) ⟨tupleKind_room_in1 hu,k,xs,uI I.hok eb,dd,h _ _ (I.tok _) ?_⟩;rw[l];exact(rel.val k).getD rd
end
def Lq(td ty tx:TE):TE:=λσ H Q=>td σ H λx H1=>∃a,x=.ref a/\IsD H1 a/\ty σ H1 λy H2=>tx σ H2 λz H3=>∃o,DGet H3 a y o/\Q (o.getD z) H3
section
theorem wk(hu:X.A.units+1<cLine)(ho:PE X o td)(he:PE X e ty)(hf:PE X f tx)(m:M2 X o "get" apos e f bP):PE X (.Call (.Attribute o "get" apos) [e,f] [] bP) (Lq td ty tx):=by intro z06 s σ H Q I h;refine wpAny_Call_method m.base m.few m.line PySem.F.plainAttrs_dict PySem.F.slot_dict_get PySem.F.type_dict_get (thn (ho z06 s σ H _ I h) λu s1=>?_);rintro⟨x,H1,I1,rx,a,ex,d,q1⟩;subst ex;obtain rfl:u=Value.ref a:=rx;obtain⟨t1,t2,_⟩:=Ln I1 d;refine⟨t1,t2,?_⟩;rw[m.trees];refine Calls.callWith_builtin rfl (Calls.evalArgs_plain (Calls.spliced_cons (thn (he z06 s1 σ H1 _ I1 q1) λiv s2⟨y,H2,I2,ry,q2⟩=>Calls.spliced_cons (thn (hf z06 s2 σ H2 _ I2 q2) λfv s3⟨z,H3,I3,rz,ov,g,q3⟩=>Calls.spliced_nil ?_))));exact Lp hu I3 g ry rz λw' s4 I4 fg=>⟨_,H3,I4,fg,q3⟩
end
section
end
section
end
def IV:Key->PyData|.inl i=>.int i|.inr x=>.str x
mutual
inductive IsTh(S:Addr->Prop)(H:Hp):V->PyData->Prop|non:IsTh S H .non .none|bl(b:Bool):IsTh S H (.bl b) (.bool b)|int(i:Int):IsTh S H (.int i) (.int i)|str(x:Str):IsTh S H (.str x) (.str x)|lst{a:Addr}{xs:List V}{ds:Qa3}(hs:S a)(e:H a=some (.lst xs))(r:IsThs S H xs ds):IsTh S H (.ref a) (.list ds)|tup{a:Addr}{xs:List V}{ds:Qa3}(e:H a=some (.tup xs))(r:IsThs S H xs ds):IsTh S H (.ref a) (.tuple ds)|dct{a:Addr}{ks:List (Key×Int)}(hs:S a)(e:H a=some (.dK (ks.map λp=>(p.1,V.int p.2)))):IsTh S H (.ref a) (.dict (ks.map λp=>(IV p.1,.int p.2)))
inductive IsThs(S:Addr->Prop)(H:Hp):List V->Qa3->Prop|nil:IsThs S H [] []|cons{v:V}{d:PyData}{vs:List V}{ds:Qa3}(h:IsTh S H v d)(t:IsThs S H vs ds):IsThs S H (v::vs) (d::ds)
end
section
theorem IsThs.length:∀{vs:List V}{ds:Qa3},IsThs S H vs ds->vs.length=ds.length|_,_,.nil=>rfl|_,_,.cons _ t=>by rw[zAe,zAe,IsThs.length t]
theorem IsThs.get:∀{vs:List V}{ds:Qa3}{i:Nat}{v:V},IsThs S H vs ds->vs[i]?=some v->∃d,ds[i]?=some d/\IsTh S H v d|_,_,_,_,.nil,e=>by simp at e;|_,_,0,_,.cons h _,e=>by simp at e;subst e;exact⟨_,rfl,h⟩;|_,_,i+1,v,.cons _ t,e=>by obtain⟨d,h1,h2⟩:=IsThs.get (i:=i) (v:=v) t (by simpa using e);exact⟨d,by simpa using h1,h2⟩
theorem IsThs.append:∀{vs ws:List V}{ds es:Qa3},IsThs S H vs ds->IsThs S H ws es->IsThs S H (vs++ws) (ds++es)|_,_,_,_,.nil,s=>s|_,_,_,_,.cons h t,s=>.cons h (IsThs.append t s)
theorem IsThs.set(h:IsTh S H x e):∀{vs:List V}{ds:Qa3}i,IsThs S H vs ds->IsThs S H (vs.set i x) (ds.set i e)|_,_,_,.nil=>.nil|_,_,0,.cons _ t=>.cons h t|_,_,i+1,.cons q t=>.cons q (IsThs.set h i t)
theorem IsThs.take:∀{vs:List V}{ds:Qa3}n,IsThs S H vs ds->IsThs S H (vs.take n) (ds.take n)|_,_,0,_=>.nil|_,_,_+1,.nil=>.nil|_,_,n+1,.cons h t=>.cons h (IsThs.take n t)
theorem IsThs.drop:∀{vs:List V}{ds:Qa3}n,IsThs S H vs ds->IsThs S H (vs.drop n) (ds.drop n)|_,_,0,r=>r|_,_,_+1,.nil=>.nil|_,_,n+1,.cons _ t=>IsThs.drop n t
theorem IsThs.erase:∀{vs:List V}{ds:Qa3}i,IsThs S H vs ds->IsThs S H (vs.eraseIdx i) (ds.eraseIdx i)|_,_,_,.nil=>.nil|_,_,0,.cons _ t=>t|_,_,i+1,.cons r t=>.cons r (IsThs.erase i t)
theorem IsThs.ints:∀(ns:WF),IsThs S H (ns.map V.int) (ns.map PyData.int)|[]=>.nil|n::ns=>.cons (.int n) (IsThs.ints ns)
mutual
theorem IsTh.keep(ht:∀b xs,H b=some (.tup xs)->H' b=some (.tup xs))(hs:∀b o,S b->H b=some o->H' b=some o)(hS:∀b o,S b->H b=some o->S' b):∀{v:V}{d:PyData},IsTh S H v d->IsTh S' H' v d|_,_,.non=>.non|_,_,.bl b=>.bl b|_,_,.int i=>.int i|_,_,.str x=>.str x|_,_,.lst s e r=>.lst (hS _ _ s e) (hs _ _ s e) (IsThs.keep ht hs hS r)|_,_,.tup e r=>.tup (ht _ _ e) (IsThs.keep ht hs hS r)|_,_,.dct s e=>.dct (hS _ _ s e) (hs _ _ s e)
theorem IsThs.keep(ht:∀b xs,H b=some (.tup xs)->H' b=some (.tup xs))(hs:∀b o,S b->H b=some o->H' b=some o)(hS:∀b o,S b->H b=some o->S' b):∀{vs:List V}{ds:Qa3},IsThs S H vs ds->IsThs S' H' vs ds|_,_,.nil=>.nil|_,_,.cons h t=>.cons (IsTh.keep ht hs hS h) (IsThs.keep ht hs hS t)
end
def tyD:PyData->String|.none=>"NoneType"|.bool _=>"bool"|.int _=>"int"|.str _=>"str"|.list _=>"list"|.tuple _=>"tuple"|.dict _=>"dict"
theorem IsTh.ty{K:Frag}(h:IsTh S H v d):TyOf K H v (.type (tyD d)):=by cases h with|non=>exact .non;|bl b=>exact .bl b;|int i=>exact .int i;|str x=>exact .str x;|lst s e r=>exact .lst e;|tup e r=>exact .tup e;|dct s e=>exact .dK e
def nH:PyData->Bool|.int _=>true|.bool _=>true|_=>false
def lQ:PyData->Bool|.bool _=>true|_=>false
def cu:PyData->Bool|.tuple _=>true|_=>false
theorem zM{K:Frag}(d:PyData):PySem.W.kitOne K (.type (tyD d)) (.type "int")=some (nH d):=by
 cases d;.exact nG
 .exact uD
 .exact vU
 .exact vV
 .exact uG
 .exact rG
 .exact uH
theorem wu{K:Frag}(d:PyData):PySem.W.kitOne K (.type (tyD d)) (.type "bool")=some (lQ d):=by
 cases d;.exact lN
 .exact rB
 .exact uE
 .exact uF
 .exact rF
 .exact pZ
 .exact rH
theorem fZ{K:Frag}(d:PyData):PySem.W.kitOne K (.type (tyD d)) (.type "tuple")=some (cu d):=by
 cases d;.exact jY
 .exact pW
 .exact rD
 .exact rE
 .exact pY
 .exact oZ
 .exact q9
end
mutual
def sz:PyData->Nat|.none=>1|.bool _=>1|.int _=>1|.str _=>1|.list xs=>1+szs xs|.tuple xs=>1+szs xs|.dict z07=>1+4*z07.length
def szs:Qa3->Nat|[]=>0|x::xs=>sz x+szs xs
end
mutual
def tame:PyData->Bool|.none=>true|.bool _=>true|.int i=>decide (i.natAbs<2^128)|.str x=>decide (x.length<=10)&&x.cps.toList.all λc=>decide (c<16^8)|.list xs=>ju xs|.tuple xs=>ju xs|.dict z07=>gO z07
def ju:Qa3->Bool|[]=>true|x::xs=>tame x&&ju xs
def gO:List (PyData×PyData)->Bool|[]=>true|(.int i,.int j)::r=>decide (i.natAbs<2^128)&&decide (j.natAbs<2^128)&&gO r|(.str x,.int j)::r=>(decide (x.length<=10)&&x.cps.toList.all λc=>decide (c<16^8))&&decide (j.natAbs<2^128)&&gO r|_::_=>false
end
theorem pG{i:Int}(h:i.natAbs<2^128):(Str.ofString (toString i)).length<=130:=by
 have e:=int_text_length_le (a:=i) (k:=128) z02 (by
  by_cases h0:i.natAbs=0;.rw[h0];decide
  .exact(Nat.log2_lt h0).mpr h);rw[PySem.ofString_length];lia
theorem oK:∀ts k acc,(textFrom k acc ts).length<=acc.length+piled ts
 |[],k,acc=>by show acc.length<=acc.length+0;lia;|t::r,k,acc=>by
  have h:=oK r (k+1) (acc++(if k>0 then", "else"":String)++t);have e:(acc++(if k>0 then", "else"":String)++t).length<=acc.length+2+t.length:=by
   rw[strLen_append,strLen_append];split;.show acc.length+2+t.length<=_;lia
   .show acc.length+0+t.length<=_;lia
  rw[piled_cons];show(textFrom (k+1) _ r).length<=_;lia
theorem ww(ts:Qa7):(listText ts).length<=piled ts+2:=by have h:=oK ts 0 "[";unfold listText;rw[strLen_append];have e1:(("[":Str)).length=1:=rfl;have e2:(("]":Str)).length=1:=rfl;lia
theorem zN(ts:Qa7):(Str.join ", " ts).length<=piled ts:=by
 by_cases h:ts=[];.subst h;show 0<=_;lia
 .have:=join_length_add ts h;lia
theorem uM(ts:Qa7):(tupleText ts).length<=piled ts+3:=by
 have h:=zN ts;unfold tupleText;rw[strLen_append,strLen_append];have e1:(("(":Str)).length=1:=rfl;have e2:((if ts.length==1 then",)"else")":String):Str).length<=2:=by
  split;.exact zA3 2
  .exact Zao 1
 lia
theorem wy(ts:Qa7):(dictText ts).length<=piled ts+2:=by have h:=zN ts;unfold dictText;rw[strLen_append,strLen_append];have e1:(("{":Str)).length=1:=rfl;have e2:(("}":Str)).length=1:=rfl;lia
theorem qd{M:List (PyData×PyData)->Prop}(h0:M [])(h1:∀i j r,i.natAbs<2^128->j.natAbs<2^128->M r->M ((.int i,.int j)::r))(h2:∀x j r,(x.length<=10/\∀c∈x.cps.toList,c<16^8)->j.natAbs<2^128->M r->M ((.str x,.int j)::r)):∀z07,gO z07=true->M z07
 |[],_=>h0|(k,v)::r,h=>by
  cases k<;>cases v<;>first|(simp[gO]at h;done)|skip
  all_goals simp only[gO,Bool.and_eq_true,z17,List.all_eq_true]at h;first|exact h1 _ _ _ h.1.1 h.1.2 (qd h0 h1 h2 r h.2)|exact h2 _ _ _ h.1.1 h.1.2 (qd h0 h1 h2 r h.2)
theorem shownKv_le:∀z07,gO z07=true->piled (PyData.shownKv z07)<=400*z07.length:=by
 have e1:((": ":Str)).length=2:=rfl;refine qd (zA3 _) (λi j r a b ih=>?_) (λx j r a b ih=>?_);.have h1:=pG a;have h2:=pG b;show piled ((Str.ofString (toString i)++": "++Str.ofString (toString j))::PyData.shownKv r)<=_;rw[piled_cons,strLen_append,strLen_append,e1,zAe];lia
 .have h1:=StrLaws.reprText_len x a.2;have h2:=pG b;have:=a.1;show piled ((reprText x++": "++Str.ofString (toString j))::PyData.shownKv r)<=_;rw[piled_cons,strLen_append,strLen_append,e1,zAe];lia
mutual
theorem tH:∀d,tame d=true->d.shown.length+2<=200*sz d
 |.none,_=>by decide+kernel;|.bool true,_=>by decide+kernel;|.bool false,_=>by decide+kernel;|.int i,h=>by have:=pG (i:=i) (by simpa[tame]using h);show(Str.ofString (toString i)).length+2<=200*1;lia;|.str x,h=>by
  have h':(decide (x.length<=10)&&x.cps.toList.all λc=>decide (c<16^8))=true:=h;rw[zAc]at h';have h1:x.length<=10:=by simpa using h'.1
  have:=StrLaws.reprText_len x λc hc=>by simpa using Zae.mp h'.2 c hc
  show(reprText x).length+2<=200*1;lia;|.list xs,h=>by have h1:=j9 xs (by simpa[tame]using h);have h2:=ww (PyData.shownAll xs);show(listText (PyData.shownAll xs)).length+2<=200*(1+szs xs);lia;|.tuple xs,h=>by have h1:=j9 xs (by simpa[tame]using h);have h2:=uM (PyData.shownAll xs);show(tupleText (PyData.shownAll xs)).length+2<=200*(1+szs xs);lia;|.dict z07,h=>by have h1:=shownKv_le z07 (by simpa[tame]using h);have h2:=wy (PyData.shownKv z07);show(dictText (PyData.shownKv z07)).length+2<=200*(1+4*z07.length);lia
theorem j9:∀xs,ju xs=true->piled (PyData.shownAll xs)<=200*szs xs|[],_=>by show 0<=_;lia;|x::xs,h=>by have h':(tame x&&ju xs)=true:=h;rw[zAc]at h';have h1:=tH x h'.1;have h2:=j9 xs h'.2;show piled (PyData.shown x::PyData.shownAll xs)<=200*(sz x+szs xs);rw[piled_cons];lia
end
theorem rJ:∀z07,gO z07=true->PyData.showableKv z07=true:=by
 have big:∀{n:Int},n.natAbs<2^128->n.natAbs.log2<1920:=λ{n}hn=>by
  by_cases h0:n.natAbs=0;.rw[h0];decide
  .exact Nat.lt_trans ((Nat.log2_lt h0).mpr hn) z02
 refine qd rfl (λi j r a b ih=>?_) (λx j r a b ih=>?_)<;>simp only[PyData.showableKv,PyData.showable,Bool.and_eq_true,z17];.exact⟨⟨big a,big b⟩,ih⟩
 .exact⟨⟨trivial,big b⟩,ih⟩
mutual
theorem oM:∀d,tame d=true->d.showable=true
 |.none,_=>rfl|.bool _,_=>rfl|.int i,h=>by
  have h':i.natAbs<2^128:=by simpa[tame]using h
  have:i.natAbs.log2<1920:=by
   by_cases h0:i.natAbs=0;.rw[h0];decide
   .exact Nat.lt_trans ((Nat.log2_lt h0).mpr h') z02
  exact zAw this;|.str _,_=>rfl|.list xs,h=>by exact jb xs (by simpa[tame]using h);|.tuple xs,h=>by exact jb xs (by simpa[tame]using h);|.dict z07,h=>by exact rJ z07 (by simpa[tame]using h)
theorem jb:∀xs,ju xs=true->PyData.showableAll xs=true|[],_=>rfl|x::xs,h=>by have h':(tame x&&ju xs)=true:=h;rw[zAc]at h';simp only[PyData.showableAll,Bool.and_eq_true];exact⟨oM x h'.1,jb xs h'.2⟩
end
theorem yw:∀z07,gO z07=true->PyData.depthKv z07=0:=by refine qd rfl (λi j r a b ih=>?_) (λx j r a b ih=>?_)<;>simp only[PyData.depthKv,PyData.depth,ih]<;>rfl
mutual
theorem lU:∀d,tame d=true->d.depth<=sz d|.none,_=>zAp _|.bool _,_=>zAp _|.int i,_=>zAp _|.str _,_=>zAp _|.list xs,h=>by have:=nJ xs (by simpa[tame]using h);simp only[PyData.depth,sz];lia;|.tuple xs,h=>by have:=nJ xs (by simpa[tame]using h);simp only[PyData.depth,sz];lia;|.dict z07,h=>by have:=yw z07 (by simpa[tame]using h);simp only[PyData.depth,sz];lia
theorem nJ:∀xs,ju xs=true->PyData.depthAll xs<=szs xs|[],_=>zAp _|x::xs,h=>by have h':(tame x&&ju xs)=true:=h;rw[zAc]at h';have h1:=lU x h'.1;have h2:=nJ xs h'.2;simp only[PyData.depthAll,szs];lia
end
section
variable{σ:St}{s:Shared}
theorem qe:∀{ks:List (Key×Int)}{vs:List (Key×Value)}{es:List DictEntry},KV (ks.map λp=>(p.1,V.int p.2)) vs->Pairs (cH P w) es vs->(∃as,ReadsAll s.heap (es.map (·.key)) ((ks.map λp=>(IV p.1,PyData.int p.2)).map (·.1)) as/\as=[])/\∃as,ReadsAll s.heap (es.map (·.val)) ((ks.map λp=>(IV p.1,PyData.int p.2)).map (·.2)) as/\as=[]|[],vs,es,r,p=>by cases r;cases p;exact⟨⟨_,.nil,rfl⟩,⟨_,.nil,rfl⟩⟩;|(k,n)::ks,vs,es,r,p=>by cases r with|@cons a b l1 l2 h t=>cases p with|@cons e kv iA kvs' h1 h2 h3=>
    obtain⟨⟨_,i1,rfl⟩,⟨_,i2,rfl⟩⟩:=qe (ks:=ks) t h3;obtain⟨q1,q2⟩:=h;have Na:pK b.1 e.key=true:=h1;rw[<-q1]at Na;obtain⟨tv,Td⟩:∃t,b.2=Value.int n t:=q2;rw[Td]at h2;refine⟨⟨_,?_,rfl⟩,⟨_,?_,rfl⟩⟩
    .show ReadsAll s.heap (e.key::iA.map (·.key)) (IV k::_) ([]++[]);rcases cM Na with⟨i,tk,ei,ev⟩|⟨x,tk,ei,ev⟩;.have ei:k=Sum.inl i:=ei;rw[ev,ei];exact .cons (.int _ _) i1
     .have ei:k=Sum.inr x:=ei;rw[ev,ei];exact .cons (.str _ _) i1
    .show ReadsAll s.heap (e.val::iA.map (·.val)) (PyData.int n::_) ([]++[]);rw[h2];exact .cons (.int _ _) i2
mutual
theorem IsTh.reads(I:Inv X z06 σ H s):∀{v:V}{d:PyData}{u:Value},IsTh S H v d->RelV v u->∃as,Reads s.heap u d as/\∀a∈as,S a
 |_,_,_,.non,r=>by cases(show _=Value.none from r);exact⟨[],.none,λ_ h=>nomatch h⟩;|_,_,_,.bl b,r=>by cases(show _=Value.bool b from r);exact⟨[],.bool b,λ_ h=>nomatch h⟩;|_,_,_,.int i,r=>by obtain⟨t,rfl⟩:=r;exact⟨[],.int i t,λ_ h=>nomatch h⟩;|_,_,_,.str x,r=>by obtain⟨t,rfl⟩:=r;exact⟨[],.str x t,λ_ h=>nomatch h⟩;|_,_,_,@IsTh.lst _ _ a xs ds hs e t,r=>by
  cases(show _=Value.ref a from r);obtain⟨_,z08,n,rv,ho⟩:=(I.hok a _ e);obtain⟨as,h1,h2⟩:=IsThs.reads I t rv;refine⟨a::as,.list ho rfl rfl (by simpa using h1),λb hb=>?_⟩;rcases zAo.mp hb with z|z;.rw[z];exact hs
  .exact h2 b z;|_,_,_,@IsTh.tup _ _ a xs ds e t,r=>by cases(show _=Value.ref a from r);obtain⟨_,z08,rv,o,ho,hc,n,hd⟩:=(show ObjOk X.prog X.w H s.heap a (.tup xs)from I.hok a _ e);obtain⟨as,h1,h2⟩:=IsThs.reads I t rv;exact⟨as,.tuple ho hc hd (by simpa using h1),h2⟩;|_,_,_,@IsTh.dct _ _ a ks hs e,r=>by cases(show _=Value.ref a from r);obtain⟨_,_,vs,rel,o,es,ep,ho,hx,hd,_,hp,_⟩:=(show ObjOk X.prog X.w H s.heap a (.dK _)from I.hok a _ e);obtain⟨⟨_,i1,rfl⟩,⟨_,i2,rfl⟩⟩:=qe (s:=s) rel hp;refine⟨a::[]++[],.dict ho hx.1 hd i1 i2,λb hb=>?_⟩;rw[show b=a by simpa using hb];exact hs
theorem IsThs.reads(I:Inv X z06 σ H s):∀{vs:List V}{ds:Qa3}{us:Qa4},IsThs S H vs ds->Vals vs us->∃as,ReadsAll s.heap us ds as/\∀a∈as,S a|_,_,_,.nil,r=>by cases r;exact⟨[],.nil,λ_ h=>nomatch h⟩;|_,_,_,.cons h t,r=>by cases r with|cons r1 r2=>obtain⟨as,h1,h2⟩:=IsTh.reads I h r1;obtain⟨bs,h3,h4⟩:=IsThs.reads I t r2;exact⟨as++bs,.cons h1 h3,λb hb=>(zA6.mp hb).elim (h2 b) (h4 b)⟩
end
theorem tK(hg:X.A.guards=some [])(hS:¬S sysModules):fK X (.builtin "repr") (λxs H Q=>∃v d,xs=[v]/\IsTh S H v d/\tame d=true/\sz d<=4000/\X.A.units+(sz d+1)<cLine/\Q (.str d.shown) H):=by
 intro z06 s σ H xs us Q I r h;obtain⟨v,d,rfl,th,tm,hz,hu,q⟩:=h;obtain⟨u,rfl,ru⟩:=vals1 r;have hl:=tH d tm;have hsz:d.shown.length<=sizeLine:=by rw[sizeLine_eq];lia
 have fin:∀t h' tk,(∀b o,s.heap.get? b=some o->h'.get? b=some o)->EP X z06 σ Q (.str d.shown t) {s with heap:=h',toks:=tk}:=λt h' tk k=>⟨.str d.shown,H,I.kept k,⟨t,rfl⟩,q⟩
 have ko:=oM d tm;cases th with|non=>cases(show u=Value.none from ru);exact PySem.P.repr_of_none (fin _ s.heap _ λ_ _ e=>e);|bl b=>cases(ru);exact PySem.P.repr_of_bool (fin _ s.heap _ λ_ _ e=>e);|int i=>
  obtain⟨t,rfl⟩:=ru;have:i.natAbs.log2<1920:=by simpa[PyData.showable]using ko
  exact PySem.P.repr_of_int this (fin _ s.heap _ λ_ _ e=>e);|str x=>obtain⟨t,rfl⟩:=ru;exact PySem.P.repr_of_str (fin _ s.heap _ λ_ _ e=>e) hsz;|@lst a xs ds hs e t=>obtain⟨as,rd,ha⟩:=(IsTh.lst hs e t).reads I ru;cases(show u=Value.ref a from ru);exact repr_of_reads' rd ko (λ_ hm=>hS (ha _ hm)) hg (by have:=lU _ tm;lia) (λb o e=>e) (λh' t tk k=>fin t h' tk k) hsz;|@tup a xs ds e t=>obtain⟨as,rd,ha⟩:=(IsTh.tup (S:=S) e t).reads I ru;cases(show u=Value.ref a from ru);exact repr_of_reads' rd ko (λ_ hm=>hS (ha _ hm)) hg (by have:=lU _ tm;lia) (λb o e=>e) (λh' t tk k=>fin t h' tk k) hsz;|@dct a ks hs e=>obtain⟨as,rd,ha⟩:=(IsTh.dct hs e).reads I ru;cases(show u=Value.ref a from ru);exact repr_of_reads' rd ko (λ_ hm=>hS (ha _ hm)) hg (by have:=lU _ tm;lia) (λb o e=>e) (λh' t tk k=>fin t h' tk k) hsz
end
section
def Qs(xs:List V)(i:Nat)(y:V):List V:=xs.take i++y::xs.drop i
inductive RInsertI(x:V)(vs:List V)(H:Hp)(Q:VK):Prop|mk:∀l xs i y,(x=.ref l)->(vs=[.int i,y])->(H l=some (.lst xs))->(0<=i)->(i<=xs.length)->(xs.length<sizeLine)->(Q .non (upd H l (.lst (Qs xs i.toNat y))))->RInsertI  x vs H Q
def IW:V->List V->Hp->VK->Prop:=λx vs H Q=>RInsertI  x vs H Q
theorem tL:MtM X "list.insert" IW:=by
 intro z06 s σ H x vs v us Q I rx rv h;obtain⟨l,xs,i,y,rfl,rfl,hH,h0,h1,hz,q⟩:=h;cases rx;obtain⟨u,w',rfl,⟨t,rfl⟩,fg⟩:=rv.two;obtain⟨z,z08,n,r,hl,e⟩:=I.lstM hH;have hn:=nu;refine call_meets F.slot_list_insert ⟨_,e,rfl⟩ F.entry_list_insert (F.args_list_insert_3 _ _ _) (AutoSeq1.list_insert_list_int_val_1 l z08.toArray n i t w' (by rw[fitsIndex_both z00 z00];exact zAg) (by rw[zA8];lia)) ⟨e,?_⟩;refine⟨.non,_,I.lset (its':=z08.take i.toNat++w'::z08.drop i.toNat) hH e ?_ (Vals.append (r.take _) (.cons fg (r.drop _))) ?_,rfl,q⟩
 .have h2:¬i<0:=z00;have h3:min i.toNat z08.toArray.size=i.toNat:=by rw[zA8];lia
  simp only[h2,h3];simp;exact Zal (by rw[Zap];lia)
 .rw[zA2,zAe,zAd,Zap];lia
theorem Cd(hu:X.A.units<cLine):OpR X (compareOp .Eq) (λx y H Q=>∃a b xs,x=.ref a/\y=.ref b/\SqT X.K H a xs/\SqT X.K H b []/\Q (.bl xs.isEmpty) H):=by
 intro z06 s σ H x y v u Q I rx ry h;obtain⟨a,b,xs,rfl,rfl,ha,hb,q⟩:=h;cases rx;cases ry;obtain⟨z08,r1,p1,_⟩:=I.tuple ha;obtain⟨bX,r2,p2,_⟩:=I.tuple hb;have e2:bX=[]:=r2.zero;subst e2;refine PySem.SeqAt.eq_tupleAt (e:=λ_=>true) p1 p2 hu (λj h1 h2=>absurd h2 z01) ?_;have e3:((List.range (min z08.toArray.size ([]:Qa4).toArray.size)).all (λ_=>true)&&z08.toArray.size==([]:Qa4).toArray.size)=xs.isEmpty:=by have:=r1.length;cases z08 with|nil=>cases r1;rfl;|cons a r=>cases xs with|nil=>simp at this;|cons b r'=>simp
 rw[e3];exact⟨.bl _,H,I,rfl,q⟩
end
section
theorem Lr(hj:s.heap.IsTupleIter j t i)(ht:s.heap.IsTuple t z08)(hx:z08[i]?=some x)(hQ:∀h',h'.IsTupleIter j t (i+1)->Heap.SameBut j s.heap h'->Q x {s with heap:=h'}):wpAny (model prog w) A (Builtin.SmallTypes.nextOf (.ref j)) Q E s:=by obtain⟨o,ho,hc,hd⟩:=id hj;obtain⟨p,hp,_,m,hm⟩:=ht;refine zAt (wpAny_callSpecial?_slot (name:=Str.ofString "__next__") hj.typeIs F.slot_tuple_iterator_next (wpAny_call_entry F.slot_tuple_iterator_next hj.typeIs F.entry_tuple_iterator_next ?_ (F.args_tuple_iterator_next_1 _)));show wpAny _ _ (field (.ref j) 0>>=_) _ _ s;refine zAt (wpAny_field ho hd (x:=.ref t) rfl ?_);refine zAt (wpAny_field ho hd (x:=.int i 0) rfl (zAt (wpAny_seqItems hp hm ?_)));simp only[Int.toNat_natCast,hx];refine zAt (wpAny_setField ho hd z01 (zAx ⟨x,rfl,zAx (hQ _ ⟨_,Heap.get?_update_self _ ho (Obj.isFreed_of_fields (Obj.data_mapFields hd _)),(Obj.cls_mapFields ..).trans hc,by rw[Obj.data_mapFields hd];simp[rawInt]⟩ (Heap.SameBut.update ..))⟩))
theorem yx(hh:A.handled=none)(hj:s.heap.IsTupleIter j t i)(ht:s.heap.IsTuple t z08)(hx:z08[i]?=none)(hE:∀h' e,Heap.ExtBut j s.heap h'->(∃o,h'.get? e=some o/\o.cls=.type "StopIteration")->E (.ref e) {s with heap:=h'}):wpAny (model prog w) A (Builtin.SmallTypes.nextOf (.ref j)) Q E s:=by
 obtain⟨o,ho,hc,hd⟩:=id hj;obtain⟨p,hp,_,m,hm⟩:=ht;refine zAt (wpAny_callSpecial?_slot (name:=Str.ofString "__next__") hj.typeIs F.slot_tuple_iterator_next (wpAny_call_entry F.slot_tuple_iterator_next hj.typeIs F.entry_tuple_iterator_next ?_ (F.args_tuple_iterator_next_1 _)));show wpAny _ _ (field (.ref j) 0>>=_) _ _ s;refine zAt (wpAny_field ho hd (x:=.ref t) rfl ?_);refine zAt (wpAny_field ho hd (x:=.int i 0) rfl (zAt (wpAny_seqItems hp hm ?_)));simp only[Int.toNat_natCast,hx];refine zAt (wpAny_rule (zAt (wpAny_setField ho hd z01 ?_)));refine zAt ?_;refine zAt (Zac (zAt (m:=firstArgMember _ _) (wpAny_of_eq (a:=Value.none) (by first|rfl|(simp only[firstArgMember];rfl)) (Zac ?_ (by size_fits)))) (by size_fits));simp only[raiseNew];refine zAt (wpAny_handled ?_);first|rw[show A.in1.handled=none from hh];|rw[hh]
 exact zAt (zAx (wpAny_throw (hE _ _ (((Heap.SameBut.update ..).extBut.push _).push _) ⟨_,zB1 _ rfl,rfl⟩)))
end
def Itz(K:Frag)(a b:Addr):It:=⟨λi H=>∃xs ys x y,SqT K H a xs/\SqL K H b ys/\xs[i]?=some x/\ys[i]?=some y,λi H v H'=>∃T,H T=none/\v=.ref T/\∀xs ys,SqT K H a xs->SqL K H b ys->∃x y,xs[i]?=some x/\ys[i]?=some y/\H'=upd H T (.tup [x,y]),λi H=>∃xs,SqT K H a xs/\xs.length<=i⟩
section
end
theorem IsTh.same(h:IsTh S H v d)(s:Same H H'):IsTh S H' v d:=h.keep (λb xs e=>s b _ e) (λb o _ e=>s b o e) λ_ _ z _=>z
theorem IsThs.same(h:IsThs S H v d)(s:Same H H'):IsThs S H' v d:=h.keep (λb xs e=>s b _ e) (λb o _ e=>s b o e) λ_ _ z _=>z
theorem Same.upd(h:H D=none):Same H (upd H D o):=λb u e=>by rw[aD (aH e h)];exact e
theorem Same.updR(s:Same H H')(h:H' D=none):Same H (L2.upd H' D o):=s.trans (Same.upd h)
theorem wz{K:Frag}(f:PyData->Bool){H0:Hp}{Fin:List V->Hp->Prop}(hT:H0 a=some (.tup xs))(th:IsThs S H0 xs ds)(hl:xs.length<sizeLine)(md:∀v d H Q,d∈ds->Same H0 H->IsTh S H v d->(∀H',Same H H'->Q (.bl (f d)) H')->te (eC.set j (some v)) H Q)(fin:∀H',Same H0 H'->Fin (ds.map λd=>V.bl (f d)) H'):lK (Itt K a) (bR j) vP te Fin eC H0:=by
 have hlen:=th.length;refine⟨λi m ys σ H=>m=xs.length-i/\i<=xs.length/\ys=(ds.take i).map (λd=>V.bl (f d))/\(∀o,σ.set j o=eC.set j o)/\Same H0 H,⟨_,rfl,zAp _,rfl,λ_=>rfl,Same.refl _⟩,?_⟩;rintro i m ys σ H⟨rfl,hi,rfl,gE,hs⟩;have sq:SqT K H a xs:=SqT.of (hs _ _ hT);refine⟨by rw[zA1,zAd];lia,?_⟩;by_cases aI:i<xs.length;.refine .inr ⟨⟨xs,xs[i],sq,by simp[aI]⟩,λx H' y=>?_⟩;obtain⟨e,y⟩:=y;subst e;have hx:=y xs sq;obtain⟨d,hd,ht⟩:=(th.same hs).get hx;show te (σ.set j (some x)) H' _;rw[gE];refine md x d H' _ (zB5 hd) hs ht λH2 s2=>⟨xs.length-(i+1),z00,rfl,aI,?_,λo=>by rw[List.set_set],hs.trans s2⟩;rw[zAj,hd];simp
 .have e:i=xs.length:=z00;subst e;refine .inl ⟨⟨xs,sq,zA3 _⟩,?_⟩;rw[hlen,zAm];exact fin H hs
theorem Eg{ds:Qa3}:ds.map (λd=>V.bl (f d))=(ds.map f).map V.bl:=by rw[zAr];rfl
theorem Ls{ds:Qa3}:(ds.map f).all id=ds.all f:=by rw[List.all_map];rfl
section
def Eh(t:TA):TE:=λσ H Q=>t σ H λxs H1=>xs.length<=sizeLine/\∀p,H1 p=none->p≠sysModules->Q (.ref p) (upd H1 p (.lst xs))
theorem zP(h:PA X es t):PE X (.List es pos) (Eh t):=by intro z06 s σ H Q I hq;refine wpAny_List_spliced (thn (h pos z06 s σ H _ I hq) λus s1⟨xs,H1,I1,r,z,q⟩=>⟨by rw[<-r.length];exact z,?_⟩);have hf:H1 s1.heap.objs.size=none:=I1.hok.fresh (zA3 _);refine⟨.ref s1.heap.objs.size,_,I1.laid (o:=.lst xs) (t':=s1.toks) (λb u e=>zAu _ e) (zA3 _) ⟨z,us,0,r,zB1 _ rfl⟩,rfl,q _ hf (Zam I1.big)⟩
theorem rK:fK X (.type "list") (λxs H Q=>∃p ys,xs=[.ref p]/\SqT X.K H p ys/\∀l,H l=none->l≠sysModules->Q (.ref l) (upd H l (.lst ys))):=by intro z06 s σ H xs us Q I r h;obtain⟨p,ys,rfl,hq,q⟩:=h;obtain⟨u,rfl,rx⟩:=vals1 r;cases rx;obtain⟨z08,r',pl,hz⟩:=I.tuple hq;have hlen:=r'.length;obtain⟨o,ho,hc,n,hd⟩:=pl;refine call_list_seq p (.inr rfl) ho hc hd (λh' c' kp e=>?_) (by simp only[List.size_toArray];lia);exact⟨.ref s.heap.objs.size,_,I.laid (t':=s.toks) kp (zA3 _) (show ObjOk X.prog X.w _ h' _ (.lst ys)from⟨hz,z08,c',r',e⟩),rfl,q _ (I.hok.fresh (zA3 _)) (Zam I.big)⟩
def yz:TE:=λ_ H Q=>∀p,H p=none->p≠sysModules->Q (.ref p) (upd H p (.dK []))
theorem Ei:PE X (.Dict [] [] pos) yz:=λz06 s σ H Q I h=>wpAny_Dict_empty ⟨.ref s.heap.objs.size,_,I.laid (a:=s.heap.objs.size) (o:=.dK []) (t':=s.toks) (λ_ _ q=>zAu _ q) (zA3 _) (qb s.heap I.big),rfl,h _ (I.hok.fresh (zA3 _)) (Zam I.big)⟩
def yC(ki:List (TE×TE)):TE:=λσ H Q=>∀p,H p=none->p≠sysModules->uL ki σ (upd H p (.dK [])) λps H2=>H2 p=some (.dK [])/\∃z07,ps=z07.map (λkv=>(kV kv.1,kv.2))/\z07.length<=15/\Q (.ref p) (upd H2 p (.dK (iz [] z07)))
theorem Ej(h:PPs X pos keys values ki)(lI:keys.all (·.isSome)=true)(hl:keys.length=values.length)(h0:keys≠[])(GU:keys.length<=15):PE X (.Dict keys values pos) (yC ki):=by
 intro z06 s σ H Q I q;have hn:=I.hok.fresh (zA3 s.heap.objs.size);have I1:=I.laid (a:=s.heap.objs.size) (o:=.dK []) (h':=s.heap.push {cls:=.type "dict",data:=.dict #[]}) (t':=s.toks) (λ_ _ q=>zAu _ q) (zA3 _) (qb s.heap I.big);refine wpAny_Dict_walk (knd:=cH X.prog X.w) lI hl h0 GU (thn (h z06 _ σ _ _ I1 (q _ hn (Zam I.big))) λws s2=>?_);rintro⟨ps,H2,I2,rel,e,z07,ep,lk,q2⟩;subst ep;obtain⟨rs,c,rk⟩:=jZ (P:=X.prog) (w:=X.w) rel;obtain⟨z,hd,Tc,r0,dd⟩:=Ec I2.hok e;cases r0;refine⟨rs,c,dd,λh' nh hs=>⟨.ref s.heap.objs.size,_,?_,rfl,q2⟩⟩;have hz:(iz [] z07).length<=sizeLine:=by have h1:=iB z07 [];rw[List.length_nil]at h1;rw[sizeLine_eq];lia
 have he:∃q,h'.get? s.heap.objs.size=some q:=by obtain⟨q,_,_,hq,_⟩:=nh;exact⟨q,hq⟩
 exact pF I2 (by rw[e];exact True.intro) hs he (yu hz hd (rk.merge .nil) nh)
end
section
def zQ(r r' EJ:R2)(ta tb tc td:TE):TE:=λσ H Q=>ta σ H λx H1=>tb σ H1 λy H2=>r x y H2 λz H3=>∃k,z=.bl k/\(if k=true then tc σ H3 λx2 H4=>r' y x2 H4 λz2 H5=>∃k2,z2=.bl k2/\(if k2=true then td σ H5 λx3 H6=>EJ x2 x3 H6 Q else Q (.bl false) H5)else Q (.bl false) H3)
theorem Ce(h1:OpR X (compareOp o1) r)(h2:OpR X (compareOp o2) r')(h3:OpR X (compareOp o3) EJ)(ha:PE X a ta)(hb:PE X b tb)(hc:PE X c tc)(hd:PE X d td)(hm:lastMarks [o1,o2,o3] [b,c,d]=false:=by with_unfolding_all rfl):PE X (.Compare a [o1,o2,o3] [b,c,d] pos) (zQ r r' EJ ta tb tc td):=by intro z06 s σ H Q I h;refine Compare_chain (thn (ha z06 s σ H _ I h) λv s1⟨x,H1,I1,r1,q1⟩=>chain_link (thn (hb z06 s1 σ H1 _ I1 q1) λu s2⟨y,H2,I2,r2,q2⟩=>thn (h1 z06 s2 σ H2 x y v u _ I2 r1 r2 q2) λg s3⟨z,H3,I3,r3,k,e,q3⟩=>?_)) hm;subst e;cases r3;refine wpAny_truthy_bool ?_;cases k with|false=>exact ite_ff ⟨.bl false,H3,I3,rfl,q3⟩;|true=>refine ite_tt (chain_link (thn (hc z06 s3 σ H3 _ I3 q3) λw' s4⟨z',H4,I4,r4,q4⟩=>thn (h2 z06 s4 σ H4 y z' u w' _ I4 r2 r4 q4) λg2 s5=>?_));rintro⟨z5,H5,I5,r5,k2,e2,q5⟩;subst e2;cases r5;refine wpAny_truthy_bool ?_;cases k2 with|false=>exact ite_ff ⟨.bl false,H5,I5,rfl,q5⟩;|true=>exact ite_tt (chain_last (thn (hd z06 s5 σ H5 _ I5 q5) λw6 s6=>by rintro⟨z6,H6,I6,r6,q6⟩;exact h3 z06 s6 σ H6 z' z6 w' w6 Q I6 r4 r6 q6))
end
def Ev(σ:St)(H:Hp)(t:TE)(v:V):Prop:=∀Q,Q v H->t σ H Q
section
theorem fD:Ev σ H (tC v) v:=λ_ h=>h
theorem dZ(h:σ[i]?=some (some v)):Ev σ H (oX i) v:=λ_ q=>⟨v,h,q⟩
theorem Ek(a:Ev σ H ta (.int i))(b:Ev σ H tb (.int j))(c:C i j):Ev σ H (tOp (rI C g) ta tb) (g i j):=λ_ q=>a _ (b _ ⟨i,j,rfl,rfl,c,q⟩)
theorem cg{p q:Int->Int->Bool}(a:Ev σ H ta (.int i))(b:Ev σ H tb (.int j))(c:Ev σ H tc (.int k)):Ev σ H (yo (rI0 λi j=>.bl (p i j)) (rI0 λi j=>.bl (q i j)) ta tb tc) (.bl (p i j&&q j k)):=λQ h=>a _ (b _ ⟨i,j,rfl,rfl,_,rfl,by cases e:p i j with|false=>rw[e]at h;exact bx h;|true=>rw[e]at h;exact bw (c _ ⟨j,k,rfl,rfl,h⟩)⟩)
theorem Cg{p q r:Int->Int->Bool}(a:Ev σ H ta (.int i))(b:Ev σ H tb (.int j))(c:Ev σ H tc (.int k))(d:Ev σ H td (.int l)):Ev σ H (zQ (rI0 λi j=>.bl (p i j)) (rI0 λi j=>.bl (q i j)) (rI0 λi j=>.bl (r i j)) ta tb tc td) (.bl (p i j&&(q j k&&r k l))):=λQ h=>a _ (b _ ⟨i,j,rfl,rfl,_,rfl,by cases e:p i j with|false=>rw[e]at h;exact bx h;|true=>rw[e]at h;refine bw (c _ ⟨j,k,rfl,rfl,_,rfl,?_⟩);cases e2:q j k with|false=>rw[e2]at h;exact bx h;|true=>rw[e2]at h;exact bw (d _ ⟨k,l,rfl,rfl,h⟩)⟩)
theorem jc(x:Ev σ H ta (.bl b))(y:b=true->Ev σ H tb (.bl c)):Ev σ H (Kf ta tb) (.bl (b&&c)):=λQ h=>x _ ⟨b,rfl,by cases e:b with|false=>rw[e]at h;exact bx h;|true=>rw[e]at h;exact bw (y e _ h)⟩
end
structure Plain(e:Expr):Prop where eq:∀es env,starEach (e::es) env=(false,eval e env)::starEach es env
theorem jw{c j p}:Plain (.Constant c j p):=⟨λ_ _=>rfl⟩
theorem km{x p}:Plain (.Name x p):=⟨λ_ _=>rfl⟩
theorem jx{es k p}:Plain (.Tuple es k p):=⟨λ_ _=>rfl⟩
theorem kE{es p}:Plain (.List es p):=⟨λ_ _=>rfl⟩
theorem kI{ks vs p}:Plain (.Dict ks vs p):=⟨λ_ _=>rfl⟩
theorem kJ{f as ks p}:Plain (.Call f as ks p):=⟨λ_ _=>rfl⟩
theorem plain_bin{a o b p}:Plain (.BinOp a o b p):=⟨λ_ _=>rfl⟩
theorem qg{o a p}:Plain (.UnaryOp o a p):=⟨λ_ _=>rfl⟩
theorem nM{a b p}:Plain (.Subscript a b p):=⟨λ_ _=>rfl⟩
theorem kO{a b c p}:Plain (.ListComp a b c p):=⟨λ_ _=>rfl⟩
theorem nO{a b c p}:Plain (.Compare a b c p):=⟨λ_ _=>rfl⟩
section
theorem aq(ha:PE X e te)(hr:PA X es t)(hp:Plain e:=by first|exact km|exact jw|exact kJ|exact jx|exact kE|exact plain_bin|exact nM|exact qg|exact kI|exact kO|exact nO):PA X (e::es) (dU te t):=aP ha hr (hp.eq _ _)
end
structure AA(X:Cx)(es:Qa6)(t:TA):Prop where run:PA X es t
section
theorem bG:AA X [] nA:=⟨aj⟩
theorem kW(ha:PE X e te)(hr:AA X es t)(hp:Plain e:=by first|exact km|exact jw|exact kJ|exact jx|exact kE|exact plain_bin|exact nM|exact qg|exact kI|exact kO|exact nO):AA X (e::es) (dU te t):=⟨aP ha hr.run (hp.eq _ _)⟩
theorem zR{x1}(h:AA X es t):PE X (.Tuple es x1 pos) (qY t):=cJ h.run
theorem uN(h:AA X es t):PE X (.List es pos) (Il t):=cY h.run
end
inductive IsInts:Qa6->WF->Prop|nil:IsInts [] []|cons{i:Int}{j:Nat}{p:Pos}{es:Qa6}{is:WF}:IsInts es is->IsInts (.Constant (.int i) j p::es) (i::is)
def wA(is:WF):TA:=λ_ H Q=>Q (is.map V.int) H
theorem jP:∀{es:Qa6}{is:WF},IsInts es is->PA X es (wA is)|_,_,.nil=>λ_ _ _ _ H Q I h=>Calls.spliced_nil ⟨[],H,I,.nil,h⟩|_,_,@IsInts.cons i j p es is r=>by have h:=aq (X:=X) (aB (i:=i) (j:=j) (pos:=p)) (jP r);exact h
theorem Lw{a b c p q r}:PE X (.Tuple [.Constant (.int i) a p,.Constant (.int j) b q] c r) (qY (wA [i,j])):=cJ (jP (.cons (.cons .nil)))
theorem J0{a b c d p q q' r r'}:PE X (.Tuple [.Constant (.int i) a p,.BinOp (.Constant (.int j) b q) .Pow (.Constant (.int k) d q') r'] c r) (qY (dU (tC (.int i)) (dU (tOp (rI DN λi j=>.int (i^j.toNat)) (tC (.int j)) (tC (.int k))) nA))):=cJ (aq aB (aq (aV nj aB aB) aj))
theorem eQ{k:Nat}{pos:Pos}{K:Frag}{n:Nat}(hK:X.K=K)(hc:X.calm=true)(h:PGs X es t)(hn:(assignEach es X.env).length=n:=by rfl)(dP:(assignEach es X.env).findIdx? (·.1)=none:=by rfl):PG X (.Tuple es k pos) (lE K n t):=by subst hK;exact bU hc h hn dP
structure BE(X:Cx)(e:Expr)(t:TE):Prop where run:PE X e t
section
theorem aZ(ha:BE X e te)(hr:AA X es t)(hp:Plain e:=by first|exact km|exact jw|exact kJ|exact jx|exact kE|exact plain_bin|exact nM|exact qg|exact kI|exact kO|exact nO):AA X (e::es) (dU te t):=kW ha.run hr hp
theorem Km(h:BE X e te):PE X e te:=h.run
theorem iC{j}:BE X (.Constant (.int i) j pos) (tC (.int i)):=⟨aB⟩
theorem tM{j}:BE X (.Constant (.bool b) j pos) (tC (.bl b)):=⟨gj⟩
theorem yD{j}:BE X (.Constant .none j pos) (tC .non):=⟨iw⟩
theorem cR{j}:BE X (.Constant (.str x) j pos) (tC (.str x)):=⟨pM⟩
theorem El{j q}:BE X (.UnaryOp .USub (.Constant (.int i) j q) pos) (tUn (rU λi=>.int (-i)) (tC (.int i))):=⟨sG nq aB⟩
theorem Em{j j' q q'}:BE X (.BinOp (.Constant (.int i) j q) .Pow (.Constant (.int k) j' q') pos) (tOp (rI DN λi j=>.int (i^j.toNat)) (tC (.int i)) (tC (.int k))):=⟨aV nj aB aB⟩
theorem gP{x1}(h:AA X es t):BE X (.Tuple es x1 pos) (qY t):=⟨cJ h.run⟩
theorem eF(h:AA X es t):BE X (.List es pos) (Il t):=⟨cY h.run⟩
theorem qi{a b c p q r}:BE X (.Tuple [.Constant (.int i) a p,.Constant (.int j) b q] c r) (qY (wA [i,j])):=⟨Lw⟩
theorem J1{a b c d p q q' r r'}:BE X (.Tuple [.Constant (.int i) a p,.BinOp (.Constant (.int j) b q) .Pow (.Constant (.int k) d q') r'] c r) (qY (dU (tC (.int i)) (dU (tOp (rI DN λi j=>.int (i^j.toNat)) (tC (.int j)) (tC (.int k))) nA))):=⟨J0⟩
end
structure BS(X:Cx)(st:Stmt)(t:TS):Prop where run:PS X st t
structure BSs(X:Cx)(F2:List Stmt)(t:TS):Prop where run:PSs X F2 t
section
variable{st:Stmt}{pos:Pos}
theorem tQ(h:BSs X rest t):PSs X rest t:=h.run
theorem aR(h1:BS X st t)(h2:BSs X rest u):BSs X (st::rest) (Ig t u):=⟨aA h1.run h2.run⟩
theorem dN(h1:BS X st t):BSs X [st] t:=⟨aF h1.run⟩
theorem Lx(hN:X.N.Nodup)(hi:X.N[i]?=some x)(hx:Loc X.env.scope x)(he:BE X e te)(hs:swapsWith e (some (.Name x pos')) pos.line X.env=pure false:=by rfl)(hf:X.fn x=true\/X.env.scope.names.lookup x=some .local:=by first|exact .inl rfl|exact .inr rfl|assumption):BS X (.Assign [.Name x pos'] e pos) (yg te (bR i)):=⟨jo hN hi hx he.run hs hf⟩
theorem jy(he:BE X e te):BS X (.Return (some e) pos) (KY te):=⟨aN he.run⟩
theorem oN(ho:OpR X (binaryOp op) r)(ha:BE X a ta)(hb:BE X b tb):BE X (.BinOp a op b pos) (tOp r ta tb):=⟨aV ho ha.run hb.run⟩
theorem qj(hr:IxR X r)(ha:BE X a ta)(hb:BE X b tb)(hs:uA b):BE X (.Subscript a b pos) (tOp r ta tb):=⟨Kh hr ha.run hb.run hs⟩
end
theorem pgn{X:Cx}{pos:Pos}(i:Nat)(hN:X.N.Nodup)(hi:X.N[i]?=some x:=by rfl)(hx:Loc X.env.scope x:=by exact Or.inl rfl)(hf:X.fn x=true\/X.env.scope.names.lookup x=some .local:=by first|exact .inl rfl|exact .inr rfl):PG X (.Name x pos) (bR i):=bC hN hi hx hf
theorem pss{pos pos':Pos}(i:Nat)(hN:X.N.Nodup)(he:PE X e te)(hi:X.N[i]?=some x:=by rfl)(hx:Loc X.env.scope x:=by exact Or.inl rfl)(hs:swapsWith e (some (.Name x pos')) pos.line X.env=pure false:=by rfl)(hf:X.fn x=true\/X.env.scope.names.lookup x=some .local:=by first|exact .inl rfl|exact .inr rfl):PS X (.Assign [.Name x pos'] e pos) (yg te (bR i)):=jo hN hi hx he hs hf
theorem gW{pos pos':Pos}(i:Nat)(hN:X.N.Nodup)(he:BE X e te)(hi:X.N[i]?=some x:=by rfl)(hx:Loc X.env.scope x:=by exact Or.inl rfl)(hs:swapsWith e (some (.Name x pos')) pos.line X.env=pure false:=by rfl)(hf:X.fn x=true\/X.env.scope.names.lookup x=some .local:=by first|exact .inl rfl|exact .inr rfl):BS X (.Assign [.Name x pos'] e pos) (yg te (bR i)):=Lx hN hi hx he hs hf
theorem pX(hr:IxR X r)(ha:PE X a ta)(hb:PE X b tb)(hs:uA b:=by exact λ_ _=>rfl):PE X (.Subscript a b pos) (tOp r ta tb):=Kh hr ha hb hs
theorem zL{n:Nat}(h:Nat.ble n 1000=true:=by rfl):n<=sizeLine:=Zaf (Zaq h) z02
theorem cI(h:Caps X bS N r)(h1:X.N[i]?=some x:=by rfl)(h2:X.env.kindOf x=some .cell:=by rfl)(h3:bS.cells.lookup x=X.env.cells.lookup x:=by rfl)(h4:bS.kindOf x=some .cell:=by rfl):Caps X bS (x::N) (some i::r):=⟨⟨h1,.inl h2,h3,.inl h4⟩,h⟩
theorem fQS{N P:Qa7}{sc:Scope}(h1:sc.kind=.function:=by rfl)(h2:sc.isCoroutine=false:=by rfl)(h3:sc.isGenerator=false:=by rfl)(h4:N.Nodup:=by decide+kernel)(h5:N.take P.length=P:=by rfl)(h6:∀x∈P,sc.names.lookup x=some .local\/sc.names.lookup x=some .cell:=by decide+kernel)(h7:∀y∈sc.names,y.2≠.free:=by decide+kernel):FnScope N P sc:=⟨h1,h2,h3,h4,h5,h6,h7⟩
section
theorem zT(h:AA X es t):BE X (.List es pos) (Eh t):=⟨zP h.run⟩
theorem En:BE X (.Dict [] [] pos) yz:=⟨Ei⟩
theorem Eo{a b p q}:BE X (.Dict [some (.Constant (.int i) a p)] [.Constant (.int j) b q] pos) (yC [(tC (.int i),tC (.int j))]):=⟨Ej (wj aB aB zK) rfl rfl z01 (by show 1<=15;decide)⟩
end
def ThE(S:Addr->Prop)(σ:St)(H:Hp)(t:TE)(d:PyData):Prop:=∀H0,Same H H0->∀Q,(∀v H',Same H0 H'->IsTh S H' v d->Q v H')->t σ H0 Q
def ThA(S:Addr->Prop)(σ:St)(H:Hp)(t:TA)(ds:Qa3):Prop:=∀H0,Same H H0->∀Q,(∀vs H',Same H0 H'->IsThs S H' vs ds->Q vs H')->t σ H0 Q
section
theorem J3(h:∀H',IsTh S H' v d):ThE S σ H (tC v) d:=λH0 _ Q q=>q v H0 (Same.refl _) (h H0)
theorem jz:ThE S σ H (tC (.int i)) (.int i):=J3 λ_=>.int i
theorem Ko:ThE S σ H (tC (.bl b)) (.bool b):=J3 λ_=>.bl b
theorem Ep:ThE S σ H (tC .non) .none:=J3 λ_=>.non
theorem uO:ThE S σ H (tC (.str x)) (.str x):=J3 λ_=>.str x
theorem Er(h:∀H',Ev σ H' t (.int i)):ThE S σ H t (.int i):=λH0 _ Q q=>h H0 _ (q _ H0 (Same.refl _) (.int i))
theorem gD:ThA S σ H nA []:=λH0 _ Q q=>q [] H0 (Same.refl _) .nil
theorem bj(h1:ThE S σ H te d)(h2:ThA S σ H ta ds):ThA S σ H (dU te ta) (d::ds):=λH0 s0 Q q=>h1 H0 s0 _ λv H1 s1 t1=>h2 H1 (s0.trans s1) _ λvs H2 s2 t2=>q (v::vs) H2 (s1.trans s2) (.cons (t1.same s2) t2)
theorem J7(is:WF):ThA S σ H (wA is) (is.map PyData.int):=λH0 _ Q q=>q _ H0 (Same.refl _) (IsThs.ints is)
theorem jA(h:ThA S σ H ta ds)(hl:ds.length<=4000):ThE S σ H (qY ta) (.tuple ds):=λH0 s0 Q q=>h H0 s0 _ λvs H1 s1 t1=>⟨by rw[t1.length,sizeLine_eq];lia,λp hp=>q _ _ (s1.updR hp) (.tup ao (t1.same (Same.upd hp)))⟩
theorem zU(h:ThA S σ H ta ds)(hl:ds.length<=4000)(hS:∀H',Same H H'->∀p,H' p=none->p≠sysModules->S p):ThE S σ H (Eh ta) (.list ds):=λH0 s0 Q q=>h H0 s0 _ λvs H1 s1 t1=>⟨by rw[t1.length,sizeLine_eq];lia,λp hp np=>q _ _ (s1.updR hp) (.lst (hS H1 (s0.trans s1) p hp np) ao (t1.same (Same.upd hp)))⟩
theorem J8(hS:∀H',Same H H'->∀p,H' p=none->p≠sysModules->S p):ThE S σ H yz (.dict []):=λH0 s0 Q q p hp np=>q _ _ (Same.upd hp) (.dct (ks:=[]) (hS H0 s0 p hp np) ao)
theorem Es(hS:∀H',Same H H'->∀p,H' p=none->p≠sysModules->S p):ThE S σ H (yC [(tC (.int i),tC (.int j))]) (.dict [(.int i,.int j)]):=λH0 s0 Q q p hp np=>by refine⟨ao,[(Sum.inl i,.int j)],rfl,by show 1<=15;decide,q _ _ (λb o e=>?_) (.dct (ks:=[(Sum.inl i,j)]) (hS H0 s0 p hp np) ao)⟩;rw[aD (aH e hp),aD (aH e hp)];exact e
end
section
theorem cB(h:D.nx σ H):Dy D σ H:=h
theorem aG(h:t {D with nx:=u D} σ H):Ig t u D σ H:=h
theorem jQ(h:∀c,(∀ar H',u D ar H'->c ar H')->t {D with nx:=c} σ H):Ig t u D σ H:=h (u D) λ_ _ z=>z
theorem aU(h:te σ H λx H1=>g x σ H1 D.nx):yg te g D σ H:=h
theorem gQ(h:te σ H D.rt):KY te D σ H:=h
theorem jB(h:ta σ H λxs H1=>xs.length<=sizeLine/\∀p,H1 p=none->Q (.ref p) (upd H1 p (.lst xs))):Il ta σ H Q:=h
theorem aK(h:R (σ.set i (some v)) H):bR i v σ H R:=h
end
theorem Et{K:Frag}(f:PyData->PyData->Bool){H0:Hp}{Fin:List V->Hp->Prop}(inv:St->Prop)(h0:inv eC)(ea:H0 a=some (.tup xs))(eb:H0 b=some (.lst zs))(r1:IsThs S H0 xs ds)(r2:IsThs S' H0 zs es)(hl:ds.length=es.length)(hz:xs.length<sizeLine)(step:∀T x z d e σ H(R:St->VK),d∈ds->e∈es->inv σ->Same H0 H->H T=some (.tup [x,z])->IsTh S H x d->IsTh S' H z e->(∀ay H',inv ay->Same H H'->R ay (.bl (f d e)) H')->g (.ref T) σ H λay H2=>te ay H2 (R ay))(fin:∀H',Same H0 H'->Fin ((List.zipWith f ds es).map V.bl) H'):lK (Itz K a b) g vP te Fin eC H0:=by
 have l1:=r1.length;have l2:=r2.length;refine⟨λi m ys σ H=>m=xs.length-i/\i<=xs.length/\ys=((List.zipWith f ds es).take i).map V.bl/\inv σ/\Same H0 H,⟨_,rfl,zAp _,rfl,h0,Same.refl _⟩,?_⟩;rintro i m ys σ H⟨rfl,hi,rfl,gE,hs⟩;have q1:SqT K H a xs:=SqT.of (hs _ _ ea);have q2:SqL K H b zs:=SqL.of (hs _ _ eb);refine⟨by rw[zA1,zAd];lia,?_⟩;by_cases aI:i<xs.length
 .have GV:i<zs.length:=z00;refine .inr ⟨⟨xs,zs,xs[i],zs[i],q1,q2,by simp[aI],by simp[GV]⟩,λv H' y=>?_⟩;obtain⟨T,nT,rfl,y⟩:=y;obtain⟨x,z,ex,ez,rfl⟩:=y xs zs q1 q2;obtain⟨d,hd,td⟩:=(r1.same (hs.updR (o:=.tup [x,z]) nT)).get ex;obtain⟨e,he,t2⟩:=(r2.same (hs.updR (o:=.tup [x,z]) nT)).get ez;refine step T x z d e σ _ (λay y H4=>∃m',m'<xs.length-i/\m'=xs.length-(i+1)/\i+1<=xs.length/\((List.zipWith f ds es).take i).map V.bl++[y]=((List.zipWith f ds es).take (i+1)).map V.bl/\inv ay/\Same H0 H4) (zB5 hd) (zB5 he) gE (hs.updR nT) ao td t2 λay H2 i2 s2=>⟨xs.length-(i+1),z00,rfl,aI,?_,i2,(hs.updR nT).trans s2⟩;have hz:(List.zipWith f ds es)[i]?=some (f d e):=by rw[List.getElem?_zipWith,hd,he]
  rw[zAj,hz];simp
 .have e:i=xs.length:=z00;subst e;refine .inl ⟨⟨xs,q1,zA3 _⟩,?_⟩;rw[Zal (by rw[List.length_zipWith];lia)];exact fin H hs
section
def Od(i j k:Nat)(ta:TA):TS:=λD σ H=>ta σ H λvs H1=>∃v w u,vs=[v,w,u]/\D.nx (((σ.set i (some v)).set j (some w)).set k (some u)) H1
theorem J9{kt k2 pt2}(hc:X.calm=true)(hN:X.N.Nodup)(hi:X.N[i]?=some x)(hj:X.N[j]?=some y)(hk:X.N[k]?=some z)(sM:i≠j)(Tf:i≠k)(hjk:j≠k)(hx:X.env.scope.names.lookup x=some .local)(hy:X.env.scope.names.lookup y=some .local)(hz:X.env.scope.names.lookup z=some .local)(ha:PA X [a,b,c] ta)(hw:swappedStores [.Tuple [.Name x px,.Name y py,.Name z pz] kt pt] (.Tuple [a,b,c] k2 pt2) X.env=pure (some [x,y,z]))(hs:swapsWithSole [.Tuple [.Name x px,.Name y py,.Name z pz] kt pt] (.Tuple [a,b,c] k2 pt2) pos.line X.env=pure false:=by rfl):PS X (.Assign [.Tuple [.Name x px,.Name y py,.Name z pz] kt pt] (.Tuple [a,b,c] k2 pt2) pos) (Od i j k ta):=by
 intro z06 s σ H D I h;refine Assign_Tuple_swapped (names:=[x,y,z]) (Tuple_ (thn (ha _ z06 s σ H _ I h) λus s1=>?_)) hs hw;rintro⟨vs,H1,I1,r1,q1⟩;obtain⟨v,w,u,e1,q1⟩:=q1;subst e1;obtain⟨u1,u2,u3,rfl,rv,fg,ru⟩:∃u1 u2 u3,us=[u1,u2,u3]/\RelV v u1/\RelV w u2/\RelV u u3:=by cases r1 with|cons p q=>cases q with|cons p' q'=>cases q' with|cons p2 q2=>cases q2;exact⟨_,_,_,rfl,p,p',p2⟩
 refine Zac ?_ (by show 3<=sizeLine;decide);have I2:Inv X z06 σ H1 {s1 with heap:=s1.heap.push {cls:=.type "tuple",data:=.seq [u1,u2,u3].toArray}}:=I1.kept (t':=s1.toks) λb o e=>zAu _ e;refine unpackItems_tuple (items:=#[u1,u2,u3]) (I.ok.hd hc) (IsTup.new s1.heap _) λh' dQ=>?_;have I3:=I2.kept (h':=h') (t':=s1.toks) λb o e=>dQ b o (zB7 (zB0 e)) e;refine assignInOrder_cons (wpAny_bindName (gh I3 hN hk (.inl hz) ru (λs2 I4=>?_) (.inr hz)));refine assignInOrder_cons (wpAny_bindName (gh I4 hN hj (.inl hy) fg (λs3 I5=>?_) (.inr hy)));refine assignInOrder_cons (wpAny_bindName (gh I5 hN hi (.inl hx) rv (λs4 I6=>assignInOrder_nil ?_) (.inr hx)));rw[List.set_comm _ _ (Ne.symm sM),List.set_comm _ _ (Ne.symm Tf),List.set_comm _ _ (Ne.symm hjk)]at I6;exact⟨_,H1,I6,q1⟩
end
end L2
namespace L2.ZT
open PySem PySem.Spec PyProof.Rows L2
def nm(t:Bool):String:=match t with|true=>"tuple_iterator"|false=>"list_iterator"
def tn(t:Bool):String:=match t with|true=>"tuple"|false=>"list"
def Io(t:Bool)(h:Heap)(a l:Addr)(i:Nat):Prop:=∃o,h.get? a=some o/\o.cls=.type (nm t)/\o.data=.fields #[.ref l,.int i 0]
def Sq(t:Bool)(h:Heap)(a:Addr)(items:Qa5):Prop:=∃o,h.get? a=some o/\o.cls=.type (tn t)/\∃n,o.data=.seq items n
def SQ(t:Bool)(K:Frag)(H:Hp)(a:Addr)(xs:List V):Prop:=match t with|true=>SqT K H a xs|false=>SqL K H a xs
theorem Io.at(x:Io t h a l i)(e:∀o,h.get? a=some o->h'.get? a=some o):Io t h' a l i:=by obtain⟨o,ho,r⟩:=x;exact⟨o,e _ ho,r⟩
theorem Io.extBut(x:Io t h a l i)(e:Heap.ExtBut b h h')(n:a≠b):Io t h' a l i:=x.at λo q=>e _ _ n q
theorem Sq.at(x:Sq t h a xs)(e:∀o,h.get? a=some o->h'.get? a=some o):Sq t h' a xs:=by obtain⟨o,ho,r⟩:=x;exact⟨o,e _ ho,r⟩
theorem Sq.extBut(x:Sq t h a xs)(e:Heap.ExtBut b h h')(n:a≠b):Sq t h' a xs:=x.at λo q=>e _ _ n q
theorem oO{σ:St}(I:Inv X z06 σ H s)(h:SQ t X.K H a xs):∃z08:Qa4,Vals xs z08/\Sq t s.heap a z08.toArray/\xs.length<=sizeLine:=by
 cases t;.obtain⟨z08,r,p,z⟩:=I.list h;exact⟨z08,r,p.isList,z⟩
 .exact I.tuple h
theorem yE{σ:St}(I:Inv X z06 σ H s)(h:SQ t X.K H a xs)(h':SQ t X.K H a ys):xs=ys:=by
 cases t;.exact I.list_inj h h'
 .exact I.tuple_inj h h'
section
theorem nx(hj:Io t s.heap j l i)(ht:Sq t s.heap l z08)(hx:z08[i]?=some x)(hQ:∀h',Io t h' j l (i+1)->Heap.SameBut j s.heap h'->Q x {s with heap:=h'}):wpAny (model prog w) A (Builtin.SmallTypes.nextOf (.ref j)) Q E s:=by
 cases t;.exact wpAny_nextOf_list_item hj ht hx hQ
 .exact Lr hj ht hx hQ
theorem yF(hh:A.handled=none)(hj:Io t s.heap j l i)(ht:Sq t s.heap l z08)(hx:z08[i]?=none)(hE:∀h' e,Heap.ExtBut j s.heap h'->(∃o,h'.get? e=some o/\o.cls=.type "StopIteration")->E (.ref e) {s with heap:=h'}):wpAny (model prog w) A (Builtin.SmallTypes.nextOf (.ref j)) Q E s:=by
 cases t;.exact wpAny_nextOf_list_end hh hj ht hx hE
 .exact yx hh hj ht hx hE
theorem ql(hl:Sq t s.heap l z08)(hQ:Q (.ref s.heap.objs.size) {s with heap:=s.heap.push {cls:=.type (nm t),data:=.fields #[.ref l,.int 0 0]}}):wpAny (model prog w) A (pyIter (.ref l)) Q E s:=by
 cases t;.exact wpAny_pyIter_list hl hQ
 .exact wpAny_pyIter_tuple hl hQ
end
theorem draws(hh:A.handled=none)(it a:Addr)(fy:a≠it)(z08:Qa5):Draws prog w A it [it,a] z08.size (λi v=>z08[i]?=some v) (λi h=>Io t h it a i/\Sq t h a z08)where
 live:=λ_ _ st=>by obtain⟨o,ho,_⟩:=st.1;exact⟨o,ho⟩
 frame:=λ_ _ _ st hk=>⟨st.1.at λo e=>hk it z01 o e,st.2.at λo e=>hk a z01 o e⟩;item:=λi s Q E hi st hQ=>nx st.1 st.2 (x:=z08[i]) (by simp[hi]) λh' h1 h2=>hQ _ h' s.toks (by simp[hi]) ⟨h1,st.2.extBut h2.extBut fy⟩ h2;done:=λs Q E st hE=>yF hh st.1 st.2 z01 hE
abbrev eA(t0:Bool)(h:Heap)(t:Addr):Heap:=h.push {cls:=.type (nm t0),data:=.fields #[.ref t,.int 0 0]}
theorem qm(t:Addr)(z08:Qa5):Meets (Builtin.«enumerate.__new__» ⟨[.type "enumerate",.ref t],[]⟩) (λ_ R s=>Sq t0 s.heap t z08/\R (.ok (.ret (.ref (eA t0 s.heap t).objs.size))) {s with heap:=(eA t0 s.heap t).push {cls:=.type "enumerate",data:=.fields #[.none,.bool false,.ref s.heap.objs.size,rawInt 0,.none,.none]}}):=.of_wp λprog w A R s h=>by
  obtain⟨hp,g,d,tk,os⟩:=s;obtain⟨ht,h⟩:=h;have A9:=sub_enumerate;have hT:Sq t0 (Shared.heap ⟨hp,g,d,tk,os⟩) t z08:=ht;wp_walk;refine wpAny_stack_any λst=>zAx ?_;split
  .rename_i c _ _ _ _ _;cases(c==Value.type "enumerate");.wp_walk using ql hT;exact⟨_,rfl,h⟩
   .wp_walk using ql hT;exact⟨_,rfl,h⟩
  .wp_walk using ql hT;exact⟨_,rfl,h⟩
theorem rM{s:Shared}(ht:Sq t0 s.heap t z08)(h:∀h',IsEnum h' (s.heap.objs.size+1) s.heap.objs.size 0 .none->Io t0 h' s.heap.objs.size t 0->(∀c o,s.heap.get? c=some o->h'.get? c=some o)->Q (.ref (s.heap.objs.size+1)) {s with heap:=h'}):wpAny (model prog w) A (call (.type "enumerate") [.ref t]) Q E s:=by refine callType_new F.called_enumerate z02 (F.typeCall_enumerate_1 _) (F.newCall_enumerate_1 _) (λobj=>F.args_object_init_2 obj _) F.entry_enumerate_new (qm t z08) ⟨ht,?_⟩;have e1:(eA t0 s.heap t).objs.size=s.heap.objs.size+1:=Heap.size_push ..;have g2:=zB1 (eA t0 s.heap t) (o:={cls:=.type "enumerate",data:=.fields #[.none,.bool false,.ref s.heap.objs.size,rawInt 0,.none,.none]}) rfl;have g1:=zAu {cls:=.type "enumerate",data:=.fields #[.none,.bool false,.ref s.heap.objs.size,rawInt 0,.none,.none]} (zB1 s.heap (o:={cls:=.type (nm t0),data:=.fields #[.ref t,.int 0 0]}) rfl);rw[e1]at g2⊢;exact⟨⟨_,g2,rfl⟩,h _ g2 ⟨_,g1,rfl,rfl⟩ λc o x=>zAu _ (zAu _ x)⟩
def Ite(t0:Bool)(K:Frag)(a:Addr):It:=⟨λi H=>∃xs x,SQ t0 K H a xs/\xs[i]?=some x,λi H v H'=>∃T,H T=none/\v=.ref T/\∀xs,SQ t0 K H a xs->∃x,xs[i]?=some x/\H'=upd H T (.tup [.int i,x]),λi H=>∃xs,SQ t0 K H a xs/\xs.length<=i⟩
def tne(t0:Bool)(e it a:Addr)(i:Nat)(h:Heap):Prop:=(∃old,IsEnum h e it i old)/\Io t0 h it a i
theorem Ci{K:Frag}(GW:e≠it)(Tg:e≠a)(Th:a≠it):Turn P w K (.Tuple es k pos) (Ite t0 K a) [e,it] e (tne t0 e it a)where
 mem:=by simp
 obj:=λi h st c hc=>by
  obtain⟨⟨old,s1⟩,⟨o4,s4,c4,d4⟩⟩:=st;simp only[List.mem_cons,List.not_mem_nil,or_false]at hc;rcases hc with z|z<;>subst z;.exact⟨_,s1,λv q=>by cases q⟩
  .exact⟨_,s4,λv q=>by rw[d4]at q;cases q⟩
 keep:=λi h h' st kp=>by obtain⟨⟨old,s1⟩,s4⟩:=st;exact⟨⟨old,kp e z01 _ s1⟩,s4.at λo z=>kp it z01 o z⟩
 item:=by
  intro X hP hw hK hc i z06 s σ H E I hf st hg;subst hP hw hK;obtain⟨⟨old,s1⟩,s4⟩:=st;obtain⟨xs,x,oo,hx⟩:=hg;obtain⟨z08,rv,p,_⟩:=oO I oo;obtain⟨ux,EK,rx⟩:=rv.get hx;have aI:i<z08.toArray.size:=by have:=(zAa.mp EK).1;simpa using this
  have D:=draws (t:=t0) (prog:=X.prog) (w:=X.w) (A:=X.A.in1) (I.ok.hd hc) it a Th z08.toArray;refine wpAny_pyNext_enum_itemD D s1 ⟨s4,p⟩ aI GW (by simp[GW,Tg]) λu h1 tk hu g1 g3 g5 g6 kp=>?_;have eu:u=ux:=by have hu:z08.toArray[i]?=some u:=hu;rw[List.getElem?_toArray,EK]at hu;exact(zAl hu).symm
  subst eu;refine⟨_,rfl,?_⟩;refine wpAny_letOwnedTupleGo_enum g1 λh2 e1 sb=>?_;have live:∀c,c∈[e,it]->∃o,s.heap.get? c=some o:=λc bg=>by
   simp only[List.mem_cons,List.not_mem_nil,or_false]at bg;rcases bg with q|q<;>subst q;.exact⟨_,s1⟩
   .obtain⟨o,h,_⟩:=s4;exact⟨o,h⟩
  have ne:∀c,c∈[e,it]->c≠s.heap.objs.size:=λc bg z=>by obtain⟨o,ho⟩:=live c bg;exact absurd (zB0 ho) (by rw[z];exact Zaj _)
  have hT:H s.heap.objs.size=none:=I.hok.fresh (zA3 _);have kept:∀c o,c∉[e,it]->s.heap.get? c=some o->h2.get? c=some o:=λc o bg z=>sb.extBut _ _ (λq=>bg (by simp[q])) (kp c o (λq=>bg (by simp[q])) (λq=>bg (by simp[q])) z);have trk:∀c o,H c=some o->c∉[e,it]:=λc o z bg=>by have:=(hf c bg).1;rw[z]at this;cases this
  have uS:h2.get? s.heap.objs.size=some {cls:=.type "tuple",data:=.seq #[.int i tk,u]}:=sb.extBut _ _ (Ne.symm (ne e z01)) g5;have mf:HOk X.prog X.w (upd H s.heap.objs.size (.tup [.int i,x])) h2:=λc o z=>by
   by_cases hb:c=s.heap.objs.size;.subst hb;rw[ao]at z;cases z;exact⟨by show 2<=sizeLine;decide,[.int i tk,u],.cons ⟨tk,rfl⟩ (.cons rx .nil),_,uS,rfl,_,rfl⟩
   .rw[aD hb]at z;refine(I.hok c o z).stay (λd v hd q=>kept d v ?_ q) (λd q=>by rw[aD (aH q hT)];exact q) λd l q=>by rw[aD (aH q hT)];exact q
    rcases hd with e'|e';.rw[e'];exact trk c o z
    .exact trk d _ e'
  have I2:Inv X z06 σ (upd H s.heap.objs.size (.tup [.int i,x])) {s with heap:=h2,toks:=tk+1}:=by
   refine I.step (g':=s.gens) (d':=s.drawn) (t':=tk+1) (ch:=[e,it]) (λc bg=>?_) (λc o _ _ hn z _=>kept c o hn z) (λc o _ _ hn z _=>⟨o.slots,kept c o hn z⟩) (λc o _ z n=>by rw[aD (zB7 (zB0 z))];exact n) (λc o hn z=>⟨o,kept c o hn z⟩) (λc l z=>by rw[aD (aH z hT)];exact z) (λc o l z=>by rw[aD (aH z hT)];exact z) (λc l z=>⟨#[],by rw[aD (aH z hT),z];simp⟩) (λm hm=>?_) mf I.bare;.obtain⟨f0,f1,f2,f3,f4,f5⟩:=hf c bg;exact⟨f3,f1,f4,f5⟩
   .obtain⟨o,iA,ep,ho,r⟩:=hm;refine⟨o,iA,ep,kept _ o (λbg=>?_) ho,r⟩;exact(hf _ bg).2.1 rfl
  refine⟨.ref s.heap.objs.size,_,I2,rfl,⟨s.heap.objs.size,hT,rfl,λGY yB=>⟨x,?_,rfl⟩⟩,⟨⟨u,?_⟩,?_⟩,λc bg=>?_⟩;.rw[yE I yB oo];exact hx
  .have:=e1;rw[show(((i+1:Nat):Int))=(i:Int)+1 by lia];exact this
  .exact g3.1.extBut sb.extBut GW.symm
  .rw[aD (ne c bg)];exact(hf c bg).1
 done:=by
  intro X hP hw hK hc i z06 s σ H E I hf st hg;subst hP hw hK;obtain⟨⟨old,s1⟩,s4⟩:=st;obtain⟨xs,oo,hlen⟩:=hg;obtain⟨z08,rv,p,_⟩:=oO I oo;have hl:=rv.length;have hT:s.TypeIs (.ref e) "enumerate":=⟨_,s1,rfl⟩;have fin:∀h',Heap.ExtBut it s.heap h'->Inv X z06 σ H {s with heap:=h'}:=λh' kp=>by obtain⟨f0,f1,f2,f3,f4,f5⟩:=hf it z01;exact I.turned (t':=s.toks) (λb o hb z=>kp b o hb z) f0 f1 f3 f4 f5
  unfold pyNext;refine zAt (wpAny_attempt (wpAny_callSpecial?_slot (name:=Str.ofString "__next__") hT F.slot_enumerate_next (wpAny_call_entry F.slot_enumerate_next hT F.entry_enumerate_next ?_ (F.args_enumerate_next_1 _))));show wpAny _ _ (field (.ref e) 2>>=_) _ _ _;refine zAt (wpAny_field s1 rfl (x:=.ref it) rfl ?_);refine zAt (yF (I.ok.hd hc) s4 p (by simp;lia) λh' x EG dQ=>?_);obtain⟨o,ho,Ti⟩:=dQ;refine zAt (wpAny_isInstance (T:="StopIteration") (b:=true) ⟨o,ho,Ti⟩ isSubtype_stop (zAx ⟨rfl,fin h' EG⟩))
 self:=λ_ _ _ _ _ st h=>wpAny_pyIter_enum st.1.choose_spec h
section
def Oe(t0:Bool)(K:Frag)(t:TA):TI:=λσ H R=>t σ H λvs H1=>∃a xs,vs=[.ref a]/\SQ t0 K H1 a xs/\R (Ite t0 K a) H1
theorem pi_enum(t0:Bool)(hg:Gl X "enumerate")(hm:X.mg "enumerate"=none)(ha:PA X [a] ta)(hs:starEach [a] X.env=[(false,eval a X.env)]:=by rfl):PI X (.Tuple es k tp) (.Call (.Name "enumerate" p) [a] [] pos) (Oe t0 X.K ta):=by
 intro z06 s σ H R I h;refine Call_ (iy I hg hm boot_enumerate (PyProof.Rows.callWith_type1 (thn (ha pos z06 s σ H _ I h) λus s1=>?_) hs rfl));rintro⟨vs,H1,I1,r1,q1⟩;obtain⟨x,xs,e,hx,q⟩:=q1;subst e;obtain⟨u,rfl,ru⟩:=vals1 r1;cases ru;obtain⟨z08,_,p1,_⟩:=oO I1 hx;refine rM p1 λh' z1 z4 kp=>?_;refine wpAny_pyIter_enum z1 ?_;have lx:x<s1.heap.objs.size:=by obtain⟨_,e,_⟩:=p1;exact zB0 e
 refine⟨_,_,_,_,H1,rfl,I1.kept (t':=s1.toks) kp,Ci (e:=s1.heap.objs.size+1) (it:=s1.heap.objs.size) (a:=x) (Nat.succ_ne_self _) (Zam (Zba lx)) (zB7 lx),⟨⟨_,z1⟩,z4⟩,λc hc=>?_,q⟩;have hle:s1.heap.objs.size<=c:=by grind
 exact I1.fpOk hle (I1.hok.fresh hle)
end
theorem for_enum(t0:Bool){K:Frag}{g:TG}{tb:TS}{D:Ends}{σ:St}{H:Hp}(Pv:Nat->St->Hp->Prop)(h0:Pv 0 σ H)(hl:∀i σ H,i<=xs.length->Pv i σ H->SQ t0 K H a xs)(hs:∀i x σ H T,xs[i]?=some x->Pv i σ H->H T=none->g (.ref T) σ (upd H T (.tup [.int i,x])) λay H2=>tb {D with nx:=Pv (i+1),ct:=Pv (i+1),bk:=D.nx} ay H2)(hd:∀σ H,Pv xs.length σ H->D.nx σ H):∃W:Nat->Nat->St->Hp->Prop,(∃m,W 0 m σ H)/\∀i m σ H,W i m σ H->((Ite t0 K a).stop i H/\D.nx σ H)\/((Ite t0 K a).go i H/\∃N,(∀ar H',N ar H'->∃m',m'<m/\W (i+1) m' ar H')/\∀x H',(Ite t0 K a).yld i H x H'->g x σ H' λay H2=>tb {D with nx:=N,ct:=N,bk:=D.nx} ay H2):=by
 refine⟨λi m σ H=>m=xs.length-i/\i<=xs.length/\Pv i σ H,⟨xs.length,by simp,zAp _,h0⟩,?_⟩;rintro i m σ H⟨rfl,hi,p⟩;have q:=hl i σ H hi p;by_cases aI:i<xs.length;.refine .inr ⟨⟨xs,xs[i],q,by simp[aI]⟩,Pv (i+1),λar H' p'=>⟨xs.length-(i+1),z00,rfl,aI,p'⟩,λx H' y=>?_⟩;obtain⟨T,nT,rfl,y⟩:=y;obtain⟨x,ex,rfl⟩:=y xs q;exact hs i x σ H T ex p nT
 .have e:i=xs.length:=z00;subst e;exact .inl ⟨⟨xs,q,zA3 _⟩,hd σ H p⟩
end L2.ZT
namespace L2
open PySem PySem.Spec PyProof.Rows
section
theorem rN(hc:X.calm=true):fK X (.builtin "min") (λxs H Q=>∃(p:Addr)(ns:WF),xs=[.ref p]/\SqL X.K H p (ns.map V.int)/\ns≠[]/\∀M,M∈ns->(∀a∈ns,M<=a)->Q (.int M) H):=by
 intro z06 s σ H xs us Q I r h;obtain⟨p,ns,rfl,hq,fy,q⟩:=h;obtain⟨u,rfl,ru⟩:=vals1 r;cases ru;obtain⟨z08,rv,pl,hz⟩:=I.list hq;have hi:IntsAre z08 ns:=intsAre_of rv;obtain⟨zs,ez⟩:=(hi.allInts:AllInts z08.toArray).items;have en:numsOf z08=ns:=hi.numsOf;have hl:s.heap.IsList p (intItems zs):=ez▸pl.isList;have bq:0<zs.size:=by
  have e1:(intItems zs).size=z08.length:=by rw[<-ez,zA8]
  have e2:=rv.length;rw[zA1]at e2;have e3:0<ns.length:=List.length_pos_iff.mpr fy;simp only[intItems,Array.size_map]at e1;lia
 have hn:numsOf (intItems zs).toList=ns:=by rw[<-ez];exact en
 refine min_intList (I.ok.hd hc) hl bq λv h' tk hv hk=>?_;obtain⟨t,rfl⟩:=intItems_at hv;obtain⟨h1,h2⟩:=argBest_lt (numAt zs) (zs.size-1);rw[nums_intItems]at hn;refine⟨.int _,H,I.kept (t':=tk) hk,⟨t,rfl⟩,q _ ?_ λa ha=>?_⟩;.rw[<-hn,numAt_eq];exact getD_mem (by rw[zA1,zA9];lia)
 .rw[<-hn]at ha;obtain⟨j,hj,rfl⟩:=mem_getD ha;rw[zA1,zA9]at hj;rw[<-numAt_eq];exact h2 j z00
inductive RCatT0I(K:Frag)(x:V)(y:V)(H:Hp)(Q:VK):Prop|mk:∀a b ys,(x=.ref a)->(y=.ref b)->(SqT K H a [])->(SqT K H b ys)->(Q (.ref b) H)->RCatT0I K x y H Q
def Ly(K:Frag):R2:=λx y H Q=>RCatT0I K x y H Q
open Builtin in
theorem Eu(l b:Addr)(z08:Qa5)(n m:Nat)(dd yn:Option Addr)(sl kB:Array (Option Value)):Meets (Builtin.«tuple.__add__» ⟨[.ref l,.ref b],[]⟩) (λ_ R s=>s.heap.get? l=some {cls:=.type "tuple",dict:=dd,data:=.seq #[] n,slots:=sl}/\s.heap.get? b=some {cls:=.type "tuple",dict:=yn,data:=.seq z08 m,slots:=kB}/\R (.ok (.ret (.ref b))) s):=by refine .of_wp λprog w A R s h=>?_;obtain⟨hl,hb,h⟩:=h;have f2:=PySem.AutoSeq1.sub_tuple_tuple;wp_walk;exact⟨_,rfl,h⟩
theorem Ex:OpR X (binaryOp .Add) (Ly X.K):=by intro z06 s σ H x y v u Q I rx ry h;obtain⟨a,b,ys,rfl,rfl,ha,hb,q⟩:=h;cases rx;cases ry;obtain⟨z08,r1,p1,_⟩:=I.tuple ha;obtain⟨bX,r2,p2,_⟩:=I.tuple hb;have e:z08=[]:=r1.zero;subst e;obtain⟨⟨cls,dd,data,sl⟩,ho,hc,n,hd⟩:=id p1;obtain⟨⟨F6,yn,data2,kB⟩,nN,tq,n2,hd2⟩:=id p2;simp only at hc hd tq hd2;subst hc hd tq hd2;exact concat_meets ⟨_,ho,rfl⟩ ⟨_,nN,rfl⟩ noFill_tuple_add seq_tuple_add PySem.F.slot_tuple_add PySem.F.entry_tuple_add (PySem.F.args_tuple_add_2 _ _) (Eu a b bX.toArray n n2 dd yn sl kB) ⟨ho,nN,.ref b,H,I,rfl,q⟩
theorem Ey:OpR X (binaryOp .Add) (λx y H Q=>∃a b xs ys,x=.ref a/\y=.ref b/\SqT X.K H a xs/\SqT X.K H b ys/\ys≠[]/\xs.length+ys.length<=sizeLine/\(xs=[]->Q (.ref b) H)/\(xs≠[]->∀p,H p=none->Q (.ref p) (upd H p (.tup (xs++ys))))):=by
 intro z06 s σ H x y v u Q I rx ry h;obtain⟨a,b,xs,ys,rfl,rfl,ha,hb,hy,hz,q1,q2⟩:=h;by_cases hx:xs=[];.subst hx;exact Ex z06 s σ H _ _ v u Q I rx ry ⟨a,b,ys,rfl,rfl,ha,hb,q1 rfl⟩
 .exact Ip z06 s σ H _ _ v u Q I rx ry ⟨a,b,xs,ys,rfl,rfl,ha,hb,hx,hz,λz=>absurd z hy,λ_=>q2 hx⟩
end
section
open HT in
theorem lV{lo hi:Option Int}(ht:IsTup s.heap t items)(hs:s.heap.IsSliceOf sl vl vu .none)(pl:IsPart vl lo)(pu:IsPart vu hi)(h1:sIx items.size 0 lo=0)(h2:sIx items.size items.size hi=items.size)(h:Q (.ref t) s):wpAny (model prog w) A (getItem (.ref t) (.ref sl)) Q E s:=by
 obtain⟨os,tw,EF,AS⟩:=id hs;have F7:s.TypeIs (.ref sl) "slice":=⟨os,tw,EF⟩;unfold getItem;try with_reducible refine wpAny_holding ?_
 first|refine zAt (zAx ?_)|skip
 refine zAt (wpAny_sequenceKey ht.typeIs z02 ?_);refine zAt (wpAny_callSpecial?_slot (name:=Str.ofString "__getitem__") ht.typeIs PyProof.Rows.slot_tuple_getitem (wpAny_call_entry PyProof.Rows.slot_tuple_getitem ht.typeIs entry_tuple_getitem ?_ (args_tuple_getitem _ _)));show wpAny _ _ (Builtin.Tuple.tupleItemsOf (.ref t)>>=_) _ _ s;refine zAt (tupleItemsOf_ ht ?_);refine zAt (wpAny_typeOf F7 ?_);refine zAt (iK hs pl pu ?_);rw[h1,h2];show wpAny _ _ (if((((0:Nat):Int))==0&&(1:Int)==1&&(items.size-0)==items.size)=true then _ else _) _ _ s;rw[zAz z01];refine zAt (zAt (wpAny_typeOf ht.typeIs (zAx ?_)));rw[zAz z02];exact zAt (wpAny_rule (zAx ⟨_,rfl,zAx h⟩))
end
section
inductive RSlWI(K:Frag)(x:V)(lo:Option Int)(hi:Option Int)(H:Hp)(Q:VK):Prop|mk:∀a xs,(x=.ref a)->(SqT K H a xs)->(((HT.sIx xs.length 0 lo=0/\HT.sIx xs.length xs.length hi=xs.length)->Q (.ref a) H))->((¬(HT.sIx xs.length 0 lo=0/\HT.sIx xs.length xs.length hi=xs.length)->∀p,H p=none->Q (.ref p) (upd H p (.tup (lG xs lo hi)))))->RSlWI K x lo hi H Q
def Qt(K:Frag):V->Option Int->Option Int->Hp->VK->Prop:=λx lo hi H Q=>RSlWI K x lo hi H Q
theorem zV:SlR X (Qt X.K):=by
 intro z06 s σ H x v vl vu lo hi sl Q I rx hs pl pu h;obtain⟨a,xs,rfl,hx,q1,q2⟩:=h;by_cases hw:HT.sIx xs.length 0 lo=0/\HT.sIx xs.length xs.length hi=xs.length
 .cases rx;obtain⟨z08,r,ht,hz⟩:=I.tuple hx;have hlen:z08.toArray.size=xs.length:=by rw[zA8];exact r.length.symm
  refine⟨"tuple",_,PyProof.Rows.slot_tuple_getitem.lookup,ht.typeIs,?_⟩;exact lV ht hs pl pu (by rw[hlen];exact hw.1) (by rw[hlen];exact hw.2) ⟨.ref a,H,I,rfl,q1 hw⟩
 .exact Le z06 s σ H _ v vl vu lo hi sl Q I rx hs pl pu ⟨a,xs,rfl,hx,hw,q2 hw⟩
end
section
end
section
end
end L2
namespace L2.ZT
open PySem PySem.Spec PyProof.Rows L2
section
theorem wB{z TI TO i1 i2 l1 l2:Addr}(D:ZipApart z TI TO i1 i2 l1 l2)(hz:IsZip s.heap z TI TO .none)(ot:IsPair s.heap TI (.ref i1) (.ref i2))(EL:IsPair s.heap TO a b)(h1:Io t1 s.heap i1 l1 k)(h2:Io t2 s.heap i2 l2 k)(de:Sq t1 s.heap l1 xs)(fF:Sq t2 s.heap l2 ys)(hx:xs[k]?=some x)(hy:ys[k]?=some y)(hQ:∀h',IsZip h' z TI TO (rawInt s.heap.objs.size)->IsPair h' TO x y->Io t1 h' i1 l1 (k+1)->Io t2 h' i2 l2 (k+1)->IsPair h' s.heap.objs.size x y->h'.objs.size=s.heap.objs.size+1->(∀c o,c≠z->c≠TO->c≠i1->c≠i2->s.heap.get? c=some o->h'.get? c=some o)->Q (some (.ref s.heap.objs.size)) {s with heap:=h'}):wpAny (model prog w) A (pyNext (.ref z)) Q E s:=by
 have hT:s.TypeIs (.ref z) "zip":=⟨_,hz,rfl⟩;unfold pyNext;refine zAt (wpAny_attempt (wpAny_callSpecial?_slot (name:=Str.ofString "__next__") hT F.slot_zip_next (wpAny_call_entry F.slot_zip_next hT F.entry_zip_next ?_ (F.args_zip_next_1 _))));show wpAny _ _ (field (.ref z) 2>>=_) _ _ _;refine zAt (wpAny_field hz rfl (x:=.bool false) rfl ?_);show wpAny _ _ (field (.ref z) 3>>=_) _ _ _;refine zAt (wpAny_field hz rfl (x:=.ref TI) rfl (zAt (wpAny_seqItems ot rfl ?_)));refine zAt ?_;unfold Builtin.SmallTypes.ownedTupleIsFree;refine zAt (wpAny_field hz rfl (x:=.none) rfl (zAx ?_));simp only[if_true];refine zAt (wpAny_rule (zAt (wpAny_field hz rfl (x:=.ref TO) rfl (zAt (wpAny_setField_rec hz z01 λg1 z1 s1=>?_)))));replace z1:IsZip g1 z TI TO .ellipsis:=z1;refine zAt ?_;simp only[List.zipIdx_cons,List.zipIdx_nil,List.forIn_cons,List.forIn_nil];refine zAt (zAt (wpAny_onRaise ?_));show wpAny _ _ (Builtin.SmallTypes.nextOf (.ref i1)>>=_) _ _ _;refine zAt (nx (h1.extBut s1.extBut D.i1z) (de.extBut s1.extBut D.l1z) hx λg2 q1 s2=>zAx ?_);have o2:IsPair g2 TO a b:=s2.extBut _ _ D.TOi1 (s1.extBut _ _ D.TOz EL);refine zAt (wpAny_seqItems o2 rfl (zAt (wpAny_updateSeq_pair o2 λg3 o3 s3=>?_)));replace o3:IsPair g3 TO x b:=o3;refine zAt (wpAny_letGo (zAx (zAt (zAt (wpAny_onRaise ?_)))));show wpAny _ _ (Builtin.SmallTypes.nextOf (.ref i2)>>=_) _ _ _;refine zAt (nx (((h2.extBut s1.extBut D.i2z).extBut s2.extBut D.i12.symm).extBut s3.extBut D.TOi2.symm) (((fF.extBut s1.extBut D.l2z).extBut s2.extBut D.l2i1).extBut s3.extBut D.l2TO) hy λg4 q2 s4=>zAx ?_);have o4:IsPair g4 TO x b:=s4.extBut _ _ D.TOi2 o3;refine zAt (wpAny_seqItems o4 rfl (zAt (wpAny_updateSeq_pair o4 λg5 o5 s5=>?_)));replace o5:IsPair g5 TO x y:=o5;refine zAt (wpAny_letGo (zAx (zAx (zAt (wpAny_seqItems o5 rfl (zAt (wpAny_newTuple ?_)))))));have hsz:g5.objs.size=s.heap.objs.size:=by rw[s5.1,s4.1,s3.1,s2.1,s1.1]
 have z5:IsZip g5 z TI TO .ellipsis:=s5.extBut _ _ D.TOz.symm (s4.extBut _ _ D.i2z.symm (s3.extBut _ _ D.TOz.symm (s2.extBut _ _ D.i1z.symm z1)));have k5:∀c o,c≠z->c≠TO->c≠i1->c≠i2->s.heap.get? c=some o->g5.get? c=some o:=λc o c1 c2 c3 c4 e=>s5.extBut _ _ c2 (s4.extBut _ _ c4 (s3.extBut _ _ c2 (s2.extBut _ _ c3 (s1.extBut _ _ c1 e))));have p1:Io t1 g5 i1 l1 (k+1):=((q1.extBut s3.extBut D.TOi1.symm).extBut s4.extBut D.i12).extBut s5.extBut D.TOi1.symm;have p2:Io t2 g5 i2 l2 (k+1):=q2.extBut s5.extBut D.TOi2.symm;have Nd:z<g5.objs.size:=zB0 z5;refine zAt ?_;unfold Builtin.SmallTypes.ownedTupleHandOut;have z6:IsZip (g5.push {cls:=.type "tuple",data:=.seq #[x,y]}) z TI TO .ellipsis:=zAu _ z5;refine zAt (wpAny_setField_rec z6 z01 λg7 z7 s7=>?_);replace z7:IsZip g7 z TI TO (rawInt g5.objs.size):=z7;refine wpAny_setField_rec z7 z01 λg8 z8 s8=>?_;replace z8:IsZip g8 z TI TO (rawInt g5.objs.size):=z8;have up:∀c o,c≠z->g5.get? c=some o->g8.get? c=some o:=λc o c1 e=>s8.extBut _ _ c1 (s7.extBut _ _ c1 (zAu _ e));have t8:IsPair g8 g5.objs.size x y:=s8.extBut _ _ (Zam Nd) (s7.extBut _ _ (Zam Nd) (zB1 _ rfl));have n8:g8.objs.size=g5.objs.size+1:=by rw[s8.1,s7.1,Heap.size_push]
 rw[hsz]at z8 t8 n8;refine zAx ⟨_,rfl,zAx ?_⟩;show Q (some (.ref g5.objs.size)) _;rw[hsz];exact hQ g8 z8 (up _ _ D.TOz o5) (p1.at λo e=>up _ o D.i1z e) (p2.at λo e=>up _ o D.i2z e) t8 n8 λc o c1 c2 c3 c4 e=>up c o c1 (k5 c o c1 c2 c3 c4 e)
theorem yG{z TI TO i1 i2 l1 l2:Addr}(hh:A.handled=none)(D:ZipApart z TI TO i1 i2 l1 l2)(hz:IsZip s.heap z TI TO .none)(ot:IsPair s.heap TI (.ref i1) (.ref i2))(EL:IsPair s.heap TO a b)(h1:Io t1 s.heap i1 l1 k)(de:Sq t1 s.heap l1 xs)(hx:xs[k]?=none)(hQ:∀h',(∀c o,c≠z->c≠i1->s.heap.get? c=some o->h'.get? c=some o)->Q none {s with heap:=h'}):wpAny (model prog w) A (pyNext (.ref z)) Q E s:=by
 have hT:s.TypeIs (.ref z) "zip":=⟨_,hz,rfl⟩;refine zAt (wpAny_attempt (wpAny_callSpecial?_slot (name:=Str.ofString "__next__") hT F.slot_zip_next (wpAny_call_entry F.slot_zip_next hT F.entry_zip_next ?_ (F.args_zip_next_1 _))));show wpAny _ _ (field (.ref z) 2>>=_) _ _ _;refine zAt (wpAny_field hz rfl (x:=.bool false) rfl ?_);refine zAt (wpAny_field hz rfl (x:=.ref TI) rfl (zAt (wpAny_seqItems ot rfl ?_)));refine zAt ?_;refine zAt (wpAny_field hz rfl (x:=.none) rfl (zAx ?_));refine zAt (wpAny_rule (zAt (wpAny_field hz rfl (x:=.ref TO) rfl (zAt (wpAny_setField_rec hz z01 λg1 z1 s1=>?_)))));replace z1:IsZip g1 z TI TO .ellipsis:=z1;refine zAt ?_;refine zAt (zAt (wpAny_onRaise ?_));refine zAt (yF hh (h1.extBut s1.extBut D.i1z) (de.extBut s1.extBut D.l1z) hx λg2 e s2 he=>?_);obtain⟨oe,G0,Nl⟩:=he;have z2:IsZip g2 z TI TO .ellipsis:=s2 _ _ D.i1z.symm z1;have Tj:e≠z:=λq=>by subst q;rw[z2]at G0;cases G0;simp at Nl
 refine wpAny_setField_rec z2 z01 λg3 _ s3=>?_;refine zAt (wpAny_isInstance (T:="StopIteration") (b:=true) ⟨oe,s3.extBut _ _ Tj G0,Nl⟩ isSubtype_stop (zAx (hQ _ λc o c1 c2 q=>s3.extBut _ _ c1 (s2 _ _ c2 (s1.extBut _ _ c1 q)))))
end
abbrev zA(t1:Bool)(h:Heap)(t:Addr):Heap:=h.push {cls:=.type (nm t1),data:=.fields #[.ref t,.int 0 0]}
abbrev zB(t1 t2:Bool)(h:Heap)(t l:Addr):Heap:=(zA t1 h t).push {cls:=.type (nm t2),data:=.fields #[.ref l,.int 0 0]}
abbrev zC(t1 t2:Bool)(h:Heap)(t l:Addr):Heap:=(zB t1 t2 h t l).push {cls:=.type "tuple",data:=.seq #[.ref h.objs.size,.ref (zA t1 h t).objs.size]}
abbrev zD(t1 t2:Bool)(h:Heap)(t l:Addr):Heap:=(zC t1 t2 h t l).push {cls:=.type "tuple",data:=.seq #[.none,.none]}
abbrev zE(t1 t2:Bool)(h:Heap)(t l:Addr):Heap:=(zD t1 t2 h t l).push {cls:=.type "zip",data:=.fields #[.none,.bool false,.bool false,.ref (zB t1 t2 h t l).objs.size,.ref (zC t1 t2 h t l).objs.size]}
theorem uP(t l:Addr)(xs ys:Qa5):Meets (Builtin.«zip.__new__» ⟨[.type "zip",.ref t,.ref l],[]⟩) (λ_ R s=>Sq t1 s.heap t xs/\Sq t2 s.heap l ys/\R (.ok (.ret (.ref (zD t1 t2 s.heap t l).objs.size))) {s with heap:=zE t1 t2 s.heap t l}):=.of_wp λprog w A R s h=>by obtain⟨hp,g,d,tk,os⟩:=s;obtain⟨ht,hl,h⟩:=h;have A9:=sub_zip;have hT:Sq t1 (Shared.heap ⟨hp,g,d,tk,os⟩) t xs:=ht;have hL:Sq t2 (Shared.heap ⟨hp.push {cls:=.type (nm t1),data:=.fields #[.ref t,.int 0 0]},g,d,tk,os⟩) l ys:=hl.at λo e=>zAu _ e;wp_walk using ql hT,ql hL;exact⟨_,rfl,h⟩
theorem wC{s:Shared}(ht:Sq t1 s.heap t xs)(hl:Sq t2 s.heap l ys)(h:∀h',IsZip h' (s.heap.objs.size+4) (s.heap.objs.size+2) (s.heap.objs.size+3) .none->IsPair h' (s.heap.objs.size+2) (.ref s.heap.objs.size) (.ref (s.heap.objs.size+1))->IsPair h' (s.heap.objs.size+3) .none .none->Io t1 h' s.heap.objs.size t 0->Io t2 h' (s.heap.objs.size+1) l 0->(∀c o,s.heap.get? c=some o->h'.get? c=some o)->Q (.ref (s.heap.objs.size+4)) {s with heap:=h'}):wpAny (model prog w) A (call (.type "zip") [.ref t,.ref l]) Q E s:=by
 refine callType_new F.called_zip z02 (F.typeCall_zip_2 _ _) (F.newCall_zip_2 _ _) (λobj=>F.args_object_init_3 obj _ _) F.entry_zip_new (uP t l xs ys) ⟨ht,hl,?_⟩;have e1:(zA t1 s.heap t).objs.size=s.heap.objs.size+1:=Heap.size_push ..;have e2:(zB t1 t2 s.heap t l).objs.size=s.heap.objs.size+2:=by rw[Heap.size_push,e1]
 have e3:(zC t1 t2 s.heap t l).objs.size=s.heap.objs.size+3:=by rw[Heap.size_push,e2]
 have e4:(zD t1 t2 s.heap t l).objs.size=s.heap.objs.size+4:=by rw[Heap.size_push,e3]
 have Nn:∀{c o},(zD t1 t2 s.heap t l).get? c=some o->(zE t1 t2 s.heap t l).get? c=some o:=λe=>zAu _ e;have Nw:∀{c o},(zC t1 t2 s.heap t l).get? c=some o->(zE t1 t2 s.heap t l).get? c=some o:=λe=>Nn (zAu _ e);have NA:∀{c o},(zB t1 t2 s.heap t l).get? c=some o->(zE t1 t2 s.heap t l).get? c=some o:=λe=>Nw (zAu _ e);have up1:∀{c o},(zA t1 s.heap t).get? c=some o->(zE t1 t2 s.heap t l).get? c=some o:=λe=>NA (zAu _ e);have g5:(zE t1 t2 s.heap t l).get? (zD t1 t2 s.heap t l).objs.size=some _:=zB1 _ rfl;have g4:(zE t1 t2 s.heap t l).get? (zC t1 t2 s.heap t l).objs.size=some _:=Nn (zB1 _ rfl);have g3:(zE t1 t2 s.heap t l).get? (zB t1 t2 s.heap t l).objs.size=some _:=Nw (zB1 _ rfl);have g2:(zE t1 t2 s.heap t l).get? (zA t1 s.heap t).objs.size=some _:=NA (zB1 _ rfl);have g1:(zE t1 t2 s.heap t l).get? s.heap.objs.size=some _:=up1 (zB1 _ rfl);rw[e4,e2,e3]at g5;rw[e2,e1]at g3;rw[e3]at g4;rw[e1]at g2;rw[e4];exact⟨⟨_,g5,rfl⟩,h _ g5 g3 g4 ⟨_,g1,rfl,rfl⟩ ⟨_,g2,rfl,rfl⟩ λc o x=>up1 (zAu _ x)⟩
def Itz(t1 t2:Bool)(K:Frag)(a b:Addr):It:=⟨λi H=>∃xs ys x y,SQ t1 K H a xs/\SQ t2 K H b ys/\xs[i]?=some x/\ys[i]?=some y,λi H v H'=>∃T,H T=none/\v=.ref T/\∀xs ys,SQ t1 K H a xs->SQ t2 K H b ys->∃x y,xs[i]?=some x/\ys[i]?=some y/\H'=upd H T (.tup [x,y]),λi H=>∃xs,SQ t1 K H a xs/\xs.length<=i⟩
def tnz(t1 t2:Bool)(z TI TO i1 i2 a b:Addr)(i:Nat)(h:Heap):Prop:=IsZip h z TI TO .none/\IsPair h TI (.ref i1) (.ref i2)/\(∃u v,IsPair h TO u v)/\Io t1 h i1 a i/\Io t2 h i2 b i
theorem Ez{K:Frag}{z TI TO i1 i2 a b:Addr}(D:ZipApart z TI TO i1 i2 a b):Turn P w K (.Tuple es k pos) (Itz t1 t2 K a b) [z,TI,TO,i1,i2] z (tnz t1 t2 z TI TO i1 i2 a b)where
 mem:=by simp
 obj:=λi h st c hc=>by
  obtain⟨s1,s2,⟨u,v,s3⟩,⟨o4,s4,c4,d4⟩,⟨o5,s5,c5,d5⟩⟩:=st;simp only[List.mem_cons,List.not_mem_nil,or_false]at hc;rcases hc with e|e|e|e|e<;>subst e;.exact⟨_,s1,λv q=>by cases q⟩
  .exact⟨_,s2,λv q=>by cases q⟩
  .exact⟨_,s3,λv q=>by cases q⟩
  .exact⟨_,s4,λv q=>by rw[d4]at q;cases q⟩
  .exact⟨_,s5,λv q=>by rw[d5]at q;cases q⟩
 keep:=λi h h' st kp=>by obtain⟨s1,s2,⟨u,v,s3⟩,s4,s5⟩:=st;exact⟨kp z z01 _ s1,kp TI z01 _ s2,⟨u,v,kp TO z01 _ s3⟩,s4.at λo e=>kp i1 z01 o e,s5.at λo e=>kp i2 z01 o e⟩
 item:=by
  intro X hP hw hK hc i z06 s σ H E I hf st hg;subst hP hw hK;obtain⟨s1,s2,⟨u,v,s3⟩,s4,s5⟩:=st;obtain⟨xs,ys,x,y,oo,NC,hx,hy⟩:=hg;obtain⟨z08,rv,p,_⟩:=oO I oo;obtain⟨To,fg,q,_⟩:=oO I NC;obtain⟨ux,EK,rx⟩:=rv.get hx;obtain⟨uy,EM,ry⟩:=fg.get hy;refine wB D s1 s2 s3 s4 s5 p q (x:=ux) (y:=uy) (by simpa using EK) (by simpa using EM) λh1 g1 g2 g3 g4 g5 g6 kp=>?_;refine⟨_,rfl,?_⟩;refine wpAny_letOwnedTupleGo_zip g1 λh2 e1 sb=>?_;have ne:∀c,c∈[z,TI,TO,i1,i2]->c≠s.heap.objs.size:=λc bg e=>by
   obtain⟨f0,f1,f2,f3,f4,f5⟩:=hf c bg;have:∃o,s.heap.get? c=some o:=by
    simp only[List.mem_cons,List.not_mem_nil,or_false]at bg;rcases bg with q|q|q|q|q<;>subst q;.exact⟨_,s1⟩
    .exact⟨_,s2⟩
    .exact⟨_,s3⟩
    .obtain⟨o,h,_⟩:=s4;exact⟨o,h⟩
    .obtain⟨o,h,_⟩:=s5;exact⟨o,h⟩
   obtain⟨o,ho⟩:=this;exact absurd (zB0 ho) (by rw[e];exact Zaj _)
  have hT:H s.heap.objs.size=none:=I.hok.fresh (zA3 _);have kept:∀c o,c∉[z,TO,i1,i2]->s.heap.get? c=some o->h2.get? c=some o:=λc o bg e=>sb.extBut _ _ (λq=>bg (by simp[q])) (kp c o (λq=>bg (by simp[q])) (λq=>bg (by simp[q])) (λq=>bg (by simp[q])) (λq=>bg (by simp[q])) e);have Bi:∀c,c∈[z,TO,i1,i2]->c∈[z,TI,TO,i1,i2]:=λc bg=>by simp only[List.mem_cons,List.not_mem_nil,or_false]at bg⊢;rcases bg with q|q|q|q<;>simp[q]
  have trk:∀c o,H c=some o->c∉[z,TO,i1,i2]:=λc o e bg=>by have:=(hf c (Bi c bg)).1;rw[e]at this;cases this
  have uS:h2.get? s.heap.objs.size=some {cls:=.type "tuple",data:=.seq #[ux,uy]}:=sb.extBut _ _ (Ne.symm (ne z z01)) g5;have mf:HOk X.prog X.w (upd H s.heap.objs.size (.tup [x,y])) h2:=λc o e=>by
   by_cases hb:c=s.heap.objs.size;.subst hb;rw[ao]at e;cases e;exact⟨by show 2<=sizeLine;decide,[ux,uy],.cons rx (.cons ry .nil),_,uS,rfl,_,rfl⟩
   .rw[aD hb]at e;refine(I.hok c o e).stay (λd v hd q=>kept d v ?_ q) (λd q=>by rw[aD (aH q hT)];exact q) λd l q=>by rw[aD (aH q hT)];exact q
    rcases hd with e'|e';.rw[e'];exact trk c o e
    .exact trk d _ e'
  have I2:Inv X z06 σ (upd H s.heap.objs.size (.tup [x,y])) {s with heap:=h2}:=by
   refine I.step (g':=s.gens) (d':=s.drawn) (t':=s.toks) (ch:=[z,TO,i1,i2]) (λc bg=>?_) (λc o _ _ hn e _=>kept c o hn e) (λc o _ _ hn e _=>⟨o.slots,kept c o hn e⟩) (λc o _ e n=>by rw[aD (zB7 (zB0 e))];exact n) (λc o hn e=>⟨o,kept c o hn e⟩) (λc l e=>by rw[aD (aH e hT)];exact e) (λc o l e=>by rw[aD (aH e hT)];exact e) (λc l e=>⟨#[],by rw[aD (aH e hT),e];simp⟩) (λm hm=>?_) mf I.bare;.obtain⟨f0,f1,f2,f3,f4,f5⟩:=hf c (Bi c bg);exact⟨f3,f1,f4,f5⟩
   .obtain⟨o,iA,ep,ho,r⟩:=hm;refine⟨o,iA,ep,kept _ o (λbg=>?_) ho,r⟩;exact(hf _ (Bi _ bg)).2.1 rfl
  refine⟨.ref s.heap.objs.size,_,I2,rfl,⟨s.heap.objs.size,hT,rfl,λGY eI yB Tq=>⟨x,y,?_,?_,rfl⟩⟩,⟨e1,?_,?_,?_,?_⟩,λc bg=>?_⟩;.rw[yE I yB oo];exact hx
  .rw[yE I Tq NC];exact hy
  .exact sb.extBut _ _ D.TIz (kp _ _ D.TIz D.TITO D.TIi1 D.TIi2 s2)
  .exact⟨_,_,sb.extBut _ _ D.TOz g2⟩
  .exact g3.extBut sb.extBut D.i1z
  .exact g4.extBut sb.extBut D.i2z
  .rw[aD (ne c bg)];exact(hf c bg).1
 done:=by
  intro X hP hw hK hc i z06 s σ H E I hf st hg;subst hP hw hK;obtain⟨s1,s2,⟨u,v,s3⟩,s4,s5⟩:=st;obtain⟨xs,oo,hlen⟩:=hg;obtain⟨z08,rv,p,_⟩:=oO I oo;have hl:=rv.length;refine yG (I.ok.hd hc) D s1 s2 s3 s4 p (by simp;lia) λh' kp=>⟨rfl,?_⟩;refine I.step (h':=h') (H':=H) (g':=s.gens) (d':=s.drawn) (t':=s.toks) (ch:=[z,i1]) (λc bg=>?_) (λc o _ _ hn e _=>kp c o (λq=>hn (by simp[q])) (λq=>hn (by simp[q])) e) (λc o _ _ hn e _=>⟨o.slots,kp c o (λq=>hn (by simp[q])) (λq=>hn (by simp[q])) e⟩) (λc o _ e n=>n) (λc o hn e=>⟨o,kp c o (λq=>hn (by simp[q])) (λq=>hn (by simp[q])) e⟩) (λ_ _ e=>e) (λ_ _ _ e=>e) (λc l e=>⟨#[],by rw[e];simp⟩) (λm hm=>?_) (λc o e=>?_) I.bare
  .have:c∈[z,TI,TO,i1,i2]:=by simp only[List.mem_cons,List.not_mem_nil,or_false]at bg⊢;rcases bg with q|q<;>simp[q]
   obtain⟨f0,f1,f2,f3,f4,f5⟩:=hf c this;exact⟨f3,f1,f4,f5⟩
  .obtain⟨o,iA,ep,ho,r⟩:=hm;exact⟨o,iA,ep,kp _ o (Ne.symm (hf z z01).2.1) (Ne.symm (hf i1 z01).2.1) ho,r⟩
  .have nn:∀d v c',c'∈[z,TI,TO,i1,i2]->H d=some v->d≠c':=λd v c' bg q e'=>by have:=(hf c' bg).1;rw[<-e',q]at this;cases this
   have nz:∀d v,H d=some v->d≠z/\d≠i1:=λd v q=>⟨nn d v z z01 q,nn d v i1 z01 q⟩;refine(I.hok c o e).stay (λd v hd q=>?_) (λ_ q=>q) λ_ _ q=>q;rcases hd with e'|e';.rw[e']at q⊢;exact kp c v (nz c o e).1 (nz c o e).2 q
   .exact kp d v (nz d _ e').1 (nz d _ e').2 q
 self:=λ_ _ _ _ _ st h=>wpAny_pyIter_zip st.1 h
section
def Qu(t1 t2:Bool)(K:Frag)(t:TA):TI:=λσ H R=>t σ H λvs H1=>∃a b xs ys,vs=[.ref a,.ref b]/\SQ t1 K H1 a xs/\SQ t2 K H1 b ys/\R (Itz t1 t2 K a b) H1
theorem pi_zip(t1 t2:Bool){es:Qa6}{k:Nat}{tp:Pos}{p pos:Pos}(hg:Gl X "zip")(hm:X.mg "zip"=none)(ha:PA X [a,b] ta)(hs:starEach [a,b] X.env=[(false,eval a X.env),(false,eval b X.env)]:=by rfl)(iN:starEach [b] X.env=[(false,eval b X.env)]:=by rfl):PI X (.Tuple es k tp) (.Call (.Name "zip" p) [a,b] [] pos) (Qu t1 t2 X.K ta):=by
 intro z06 s σ H R I h;refine Call_ (iy I hg hm boot_zip (PyProof.Rows.callWith_type1 (thn (ha pos z06 s σ H _ I h) λus s1=>?_) (by rw[hs,iN]) (by rw[iN];rfl)));rintro⟨vs,H1,I1,r1,q1⟩;obtain⟨x,y,xs,ys,e,hx,hy,q⟩:=q1;subst e;obtain⟨u,v,rfl,ru,rv⟩:=vals2 r1;cases ru;cases rv;obtain⟨z08,_,p1,_⟩:=oO I1 hx;obtain⟨To,_,p2,_⟩:=oO I1 hy;refine wC p1 p2 λh' z1 z2 z3 z4 z5 kp=>?_;refine wpAny_pyIter_zip z1 ?_;have lx:x<s1.heap.objs.size:=by obtain⟨_,e,_⟩:=p1;exact zB0 e
 have ly:y<s1.heap.objs.size:=by obtain⟨_,e,_⟩:=p2;exact zB0 e
 refine⟨_,_,_,_,H1,rfl,I1.kept (t':=s1.toks) kp,Ez (zipApart_new lx ly),⟨z1,z2,⟨_,_,z3⟩,z4,z5⟩,λc hc=>?_,q⟩;have hle:s1.heap.objs.size<=c:=by grind
 exact I1.fpOk hle (I1.hok.fresh hle)
end
end L2.ZT
namespace L2
open PySem PySem.Spec PyProof.Rows PySem.Calls
section
theorem fj(hc:X.calm=true):fK X (.builtin "sum") (λxs H Q=>∃(p:Addr)(ns:WF),xs=[.ref p]/\(SqL X.K H p (ns.map V.int)\/SqT X.K H p (ns.map V.int))/\Q (.int ns.sum) H):=by
 intro z06 s σ H xs us Q I r h;obtain⟨p,ns,rfl,hq,q⟩:=h;obtain⟨u,rfl,ru⟩:=vals1 r;cases ru;have go:∀z08:Qa4,Vals (ns.map V.int) z08->∃zs:Array (Int×Tok),z08.toArray=intItems zs/\preSum (numAt zs) zs.size=ns.sum:=λz08 rv=>by have hi:IntsAre z08 ns:=intsAre_of rv;obtain⟨zs,ez⟩:=(hi.allInts:AllInts z08.toArray).items;refine⟨zs,ez,?_⟩;have en:numsOf z08.toArray.toList=ns:=hi.numsOf;rw[ez,nums_intItems]at en;rw[preSum_eq,Zal z01,en]
 rcases hq with hq|hq;.obtain⟨z08,rv,pl,hz⟩:=I.list hq;obtain⟨zs,ez,es⟩:=go z08 rv;refine sum_intListG (I.ok.hd hc) (ez▸pl.isList) λh' tk t' hk=>?_;rw[es];exact⟨.int _,H,I.kept (t':=tk) hk,⟨t',rfl⟩,q⟩
 .obtain⟨z08,rv,pl,hz⟩:=I.tuple hq;obtain⟨zs,ez,es⟩:=go z08 rv;have ht:s.heap.IsTuple p z08.toArray:=pl;refine PySem.W.ktm_sumG (I.ok.hd hc) (ez▸ht) λh' tk t' hk=>?_;rw[es];exact⟨.int _,H,I.kept (t':=tk) hk,⟨t',rfl⟩,q⟩
end
section
open PySem.W
end
section
end
structure CScopeD(X:Cx)(scope:Scope)(x₀:Str):Prop where
 kind:scope.kind=.function
 only:scope.names.all (λp=>p.2 !=.cell||p.1==x₀)=true
 names:scope.names.all (λp=>p.2 !=.local||scope.names.lookup p.1==some .local)=true
 free:scope.names.all (λp=>p.2 !=.free||(X.env.cells.lookup p.1).isSome)=true
 cf:∀n acc,cellsFrom n scope.names acc=(x₀,n)::acc
 pc:∀h,pushCells h scope.names=h.push {cls:=.type "cell",data:=.cell none}
theorem CScopeD.hnames(S:CScopeD X scope x₀):∀p∈scope.names,p.2=.local->scope.names.lookup p.1=some .local:=λp hp e=>by have:=Zae.mp S.names p hp;simpa[e]using this
theorem CScopeD.hfree(S:CScopeD X scope x₀):∀p∈scope.names,p.2=NameKind.free->(X.env.cells.lookup p.1).isSome=true:=λp hp e=>by have:=Zae.mp S.free p hp;simpa[e]using this
theorem lZ(hc:scope.names.all (λp=>p.2 !=.cell||p.1==x₀)=true)(hx:x≠x₀)(h:(relabel scope env).names.lookup x=some k)(hk:k=.cell\/k=.free):∃k',(x,k')∈scope.names/\k'=NameKind.free:=by
 obtain⟨⟨n,k0⟩,hm,e⟩:=zA5.mp (mem_of_lookup h);dsimp only at e;split at e
 .rename_i c;cases e;have:(k0==NameKind.free)=true:=by cases q:(k0==NameKind.free)with|true=>rfl;|false=>rw[q]at c;simp at c
  exact⟨k0,hm,by simpa using this⟩
 .cases e;rcases hk with z|z;.have:=Zae.mp hc _ hm;rw[z]at this;exact absurd (by simpa using this) hx
  .exact⟨_,hm,z⟩
theorem EY(cf:∀n acc,cellsFrom n scope.names acc=(x₀,n)::acc)(pc:∀h,pushCells h scope.names=h.push {cls:=.type "cell",data:=.cell none})(hQ:∀h',h'.Ns s.heap.objs.size (λ_=>none)->(∀b o,s.heap.get? b=some o->h'.get? b=some o)->h'.IsCell (s.heap.objs.size+1) none->Q {scope,locals:=s.heap.objs.size,globals,cells:=(x₀,s.heap.objs.size+1)::closure,qual,func:=none,code:=outer.code,frame:=outer.frame,builtins:=outer.builtins} {s with heap:=h'}):wpAny M A (newFunctionEnv scope globals closure [] qual none .none (some outer)) Q E s:=by simp only[newFunctionEnv,Option.isSome_some,if_true];refine zAt (wpAny_alloc (zAt (wpAny_layCells _ (λname kind cells=>by cases q:kind==NameKind.cell<;>simp[q]) _ _ _ _ ?_)));rw[cf];dsimp only;rw[pc,Heap.size_push];refine zAt ?_;rw[List.forIn_nil];refine zAx (zAx (hQ _ ((Heap.Ns.new s.heap (.type "dict")).keeps λb o e=>zAu _ e) (λb o e=>zAu _ (zAu _ e)) ?_));have:=zB1 (s.heap.push {cls:=.type "dict",data:=.dict #[]}) (o:={cls:=.type "cell",data:=.cell none}) rfl;rw[Heap.size_push]at this;exact⟨_,this,rfl⟩
def cxD(X:Cx)(scope:Scope)(x₀:Str)(Nc:Qa7)(C:Addr)(fp:Qa9)(z06:Qa1)(s₂:Shared)(H₂:Hp):Cx:={cxC X scope Nc C fp z06 s₂ H₂ with env:=compEnvC scope ((x₀,C+1)::cj X.env.cells scope.names []) C X.env,fn:=λy=>y==x₀}
theorem yH(hc:X.calm=true)(S:CScopeD X scope x₀)(bo:∀C,Caps X (compEnvC scope ((x₀,C+1)::cj X.env.cells scope.names []) C X.env) Nc src)(hb:∀C fp z06 s₂ H₂,PG (cxD X scope x₀ Nc C fp z06 s₂ H₂) tg g/\PTs (cxD X scope x₀ Nc C fp z06 s₂ H₂) ifs tt/\PE (cxD X scope x₀ Nc C fp z06 s₂ H₂) elt te){σ:St}(ah:Inv X z06 σ H₂ s₂)(T:Turn X.prog X.w X.K tg J fp it tn)(st:tn 0 s₂.heap)(hf:∀b∈fp,jq X z06 H₂ b){Fin:List V->Hp->Prop}(hW:lK J g tt te Fin (capσ σ src) H₂){RR:Value->Addr->Result->Shared->Prop}{E:gV}(AZ:∀D C s' ys H' m,Fin ys H'->H' D=none->Inv X z06 σ (upd H' D (.lst ys)) s'->s'.heap.Ns C m->jq X z06 (upd H' D (.lst ys)) C->RR (.ref D) C (.ok .next) s'):wpAny (model X.prog X.w) X.A (newList []) (λacc s₃=>wpAny (model X.prog X.w) X.A (newFunctionEnv scope X.env.globals (cj X.env.cells scope.names []) [] X.env.qual none .none (some X.env)) (λgX gS=>codeAny (model X.prog X.w) X.A (.compStart (.ListComp elt [⟨tg,iter,ifs,0⟩] scope pos) 0 (.ref it) acc {gX with scope:=relabel scope X.env}) (RR acc gX.locals) gS) E s₃) E s₂:=by
 refine Zac (EY S.cf S.pc (λh₁ bp gi hU=>?_));dsimp only at bp gi hU⊢;generalize ui:s₂.heap.push {cls:=.type "list",dict:=none,data:=.seq ([]:Qa4).toArray}=HH at bp gi hU⊢;generalize gz:s₂.heap.objs.size=D at bp gi hU⊢;have hC:HH.objs.size=D+1:=by rw[<-ui,Heap.size_push,gz]
 generalize S8:HH.objs.size=C at bp gi hU hC⊢;have yA:D≠C:=z00;have below:∀b,b<s₂.heap.objs.size->b≠C/\b≠D:=λb hb=>by rw[gz]at hb;exact⟨by rw[hC];exact zB7 (Zba hb),zB7 hb⟩
 have ax:∀{b o},s₂.heap.get? b=some o->b≠C/\b≠D:=λ{b o}e=>below b (zB0 e);have old:∀b o,s₂.heap.get? b=some o->h₁.get? b=some o:=λb o e=>gi b o (ui▸zAu _ e);have dA:h₁.get? D=some {cls:=.type "list",data:=.seq ([]:Qa4).toArray}:=gi _ _ (ui▸gz▸zB1 _ rfl);have EI:∀b∈fp,∃o,s₂.heap.get? b=some o:=λb hb=>by obtain⟨o,e,_⟩:=T.obj _ _ st b hb;exact⟨o,e⟩
 have oi:∀b∈fp,b≠C/\b≠D:=λb hb=>by obtain⟨o,e⟩:=EI b hb;exact ax e
 have sub:∀{x c},((x₀,C+1)::cj X.env.cells scope.names []).lookup x=some c->X.env.cells.lookup x=some c\/(x=x₀/\c=C+1):=λ{x c}e=>by rw[Zay]at e;cases q:x==x₀ with|true=>rw[q]at e;injection e with e;exact .inr ⟨eq_of_beq q,e.symm⟩;|false=>
   rw[q]at e;rcases iM scope.names [] S.hfree e with z|z;.simp at z
   .exact .inl z
 have A0:∀{b o},s₂.heap.get? b=some o->b<D:=λ{b o}e=>by rw[<-gz];exact zB0 e
 have fresh:∀a,D<=a->H₂ a=none:=λa ha=>ah.hok.fresh (by rw[gz];exact ha);have fR:∀{x c},X.env.cells.lookup x=some c->∃o,s₂.heap.get? c=some o:=λ{x c}e=>by obtain⟨v,o,ho,_⟩:=ah.cell x c e;exact⟨o,ho⟩
 have uj:∀b∈frs X.stack,∃o,s₂.heap.get? b=some o:=λb hb=>by
  rcases zAo.mp (ah.stkSub b hb)with e|hb;.rw[e];obtain⟨m,⟨o,_,_,ho,_⟩,_⟩:=ah.loc;exact⟨o,ho⟩
  .obtain⟨_,o,ho,_⟩:=ah.funs.mem hb;exact⟨o,ho⟩
 have uk:∀a,D<=a->a∉frs X.stack:=λa ha hb=>by obtain⟨o,e⟩:=uj a hb;exact absurd (zB3 (A0 e) ha) (Zaj _)
 have A4:∀b∈fp,b∉frs X.stack:=λb hb z=>by
  obtain⟨_,f1,f2,_⟩:=hf b hb;rcases zAo.mp (ah.stkSub b z)with e|e;.exact f1 e
  .exact f2 e
 have Bn:∀{x c},X.env.cells.lookup x=some c->c≠C+1:=λ{x c}e z=>by obtain⟨o,ho⟩:=fR e;have:=A0 ho;rw[z,hC]at this;exact absurd this (Nat.not_lt_of_le (Zaf (Zao _) (Zao _)))
 have ND:∀b∈fp,∀x c,((x₀,C+1)::cj X.env.cells scope.names []).lookup x=some c->c≠b:=λb hb x c e=>by
  rcases sub e with z|⟨_,z⟩;.exact(hf b hb).2.2.2.2.1 x c z
  .obtain⟨o,ho⟩:=EI b hb;have:=A0 ho;intro q;rw[<-q,z,hC]at this;exact absurd this (Nat.not_lt_of_le (Zaf (Zao _) (Zao _)))
 generalize cm:cxD X scope x₀ Nc C fp z06 s₂ H₂=X';obtain⟨hg,ht,he⟩:=hb C fp z06 s₂ H₂;rw[cm]at hg ht he;have om:X'.Ok:=by
  subst cm;refine⟨ah.ok.mod,S.kind,ah.ok.glob,ah.ok.blt,?_,?_,?_,?_,ah.ok.hd,ah.ok.frames,.inl rfl,?_,ah.bs,Zaf ah.ok.bsz ah.sz,?_,A4,ah.stack,ah.stkFree⟩;.show s₂.heap.objs.size<=C;lia
  .intro x y c e1 e2;rcases sub e1 with z1|⟨z1,w1⟩
   .rcases sub e2 with z2|⟨z2,w2⟩;.exact ah.ok.inj x y c z1 z2
    .exact absurd w2 (Bn z1)
   .rcases sub e2 with z2|⟨z2,w2⟩;.exact absurd w1 (Bn z2)
    .rw[z1,z2]
  .intro x hx;have hx:(relabel scope X.env).names.lookup x=some .cell\/(relabel scope X.env).names.lookup x=some .free:=hx;show∃c,((x₀,C+1)::cj X.env.cells scope.names []).lookup x=some c;rw[Zay];cases q:x==x₀ with|true=>exact⟨_,rfl⟩;|false=>
    have:∃k',(x,k')∈scope.names/\k'=NameKind.free:=by
     rcases hx with z|z;.exact lZ S.only (λw=>by rw[w,beq_self_eq_true]at q;cases q) z (.inl rfl)
     .exact lZ S.only (λw=>by rw[w,beq_self_eq_true]at q;cases q) z (.inr rfl)
    exact jt scope.names [] (.inl this)
  .intro x c z e;have z:x=x₀:=eq_of_beq z;rcases sub e with w|⟨_,w⟩;.have e:((x₀,C+1)::cj X.env.cells scope.names []).lookup x=some c:=e;rw[z,Zay,beq_self_eq_true]at e;injection e with e;show s₂.heap.objs.size<=c;rw[<-e,gz,hC];exact Zaf (Zao _) (Zao _)
   .show s₂.heap.objs.size<=c;rw[w,gz,hC];exact Zaf (Zao _) (Zao _)
  .intro b hb;exact⟨(oi b hb).1,λx c e=>ND b hb x c e⟩
  .intro b o e hb;obtain⟨_,_,_,f3,_⟩:=hf b hb;rcases f3 with z|z;.exact ah.ok.noex b o e z
   .exact absurd (zB3 (zB0 (ah.ok.bs b o e).1) z) (Zaj _)
 have eP:X'.prog=X.prog:=by subst cm;rfl
 have ew:X'.w=X.w:=by subst cm;rfl
 have eK:X'.K=X.K:=by subst cm;rfl
 have eA:X'.A=X.A:=by subst cm;rfl
 have eE:X'.xe=λ_ _=>False:=by subst cm;rfl
 have eL:X'.env.locals=C:=by subst cm;rfl
 have eN:X'.env=compEnvC scope ((x₀,C+1)::cj X.env.cells scope.names []) C X.env:=by subst cm;rfl
 have ec:X'.calm=true:=by subst cm;exact hc
 have eS:X'.s₀=s₂:=by subst cm;rfl
 have eH:X'.H₀=H₂:=by subst cm;rfl
 have ef:X'.fs=frs X.stack:=by subst cm;rfl
 have ex:X'.ex=fp:=by subst cm;rfl
 have ep:X'.pn=X.pn++z06:=by subst cm;rfl
 have I0:Inv X' [] (capσ σ src) H₂ {s₂ with heap:=h₁,toks:=s₂.toks}:=by
  refine⟨om,by rw[eS],ah.bare,by rw[eS,eH];exact Un.kept old,⟨_,by rw[eL];exact bp,?_⟩,?_,by rw[eL];exact fresh _ z00,?_,?_,by rw[eP,ew];exact ah.hok.kept old,?_⟩
  .intro j x v e1 e2 e3;have e1:Nc[j]?=some x:=by subst cm;exact e1
   have e4:∃i,src[j]?=some (some i)/\(σ[i]?).join=some v:=by unfold capσ at e2;rw[zAb]at e2;cases q:src[j]? with|none=>rw[q]at e2;cases e2;|some o=>rw[q]at e2;cases o with|none=>simp at e2;|some i=>exact⟨i,rfl,by simpa using e2⟩
   obtain⟨i,e5,e6⟩:=e4;obtain⟨c1,c2,c3,c4⟩:=(bo C).get e1 e5;have e7:σ[i]?=some (some v):=by cases q:σ[i]? with|none=>rw[q]at e6;simp at e6;|some o=>rw[q]at e6;simp at e6;rw[e6]
   obtain⟨m,_,hl⟩:=ah.loc;obtain⟨u,r,l⟩:=hl i x v c1 e7 (.inr (by rcases c2 with z|z;exact .inl z;exact .inr z));refine⟨u,r,?_⟩;rcases l with⟨k,_⟩|⟨_,c,e,z⟩;.rcases c2 with c2|c2<;>(rw[k]at c2;cases c2)
   .refine .inr ⟨by rw[eN];exact c4,c,by rw[eN];exact c3.trans e,?_⟩;obtain⟨o,ho,hd⟩:=z;exact⟨o,old c o ho,hd⟩
  .intro x c e;rw[eN]at e;rcases sub e with z|⟨_,z⟩;.obtain⟨v,o,ho,hd⟩:=ah.cell x c z;exact⟨v,o,old c o ho,hd⟩
   .rw[z];exact⟨none,hU⟩
  .intro x c e;rw[eN]at e;rcases sub e with z|⟨_,z⟩;.exact ah.freeC x c z
   .rw[z];exact fresh _ (by rw[hC];exact Zaf (Zao _) (Zao _))
  .intro p hp;rw[ep,zAn]at hp;obtain⟨e,n,ne,nf,d⟩:=ah.pin p hp;refine⟨old _ _ e,n,by rw[eL];exact(ax e).1,?_,d⟩;rw[ef];intro z;rcases zAo.mp (ah.stkSub _ z)with q|q;.exact ne q
   .exact nf q
  .have:=(bo C).len;subst cm;show(capσ σ src).length=Nc.length;unfold capσ;rw[zA1,this]
 have GO:∀p∈X'.pn,p.1≠D:=λp hp=>by rw[ep]at hp;exact(ax (ah.pin p hp).1).2
 have l9:∀x c,X'.env.cells.lookup x=some c->c≠D:=λx c e=>by
  rw[eN]at e;rcases sub e with z|⟨_,z⟩;.obtain⟨o,ho⟩:=fR z;exact(ax ho).2
  .rw[z,hC];exact Zam (Zba (Nat.lt_succ_self _))
 have ua:∀{P:Qa1}{H:Hp},(∀p∈P,p.1=D)->(∀b∈fp,H b=none)->∀b∈fp,jq X' P H b:=λ{P H}hP hn b hb=>by
  refine⟨hn b hb,by rw[eL];exact(oi b hb).1,by rw[ef];exact A4 b hb,.inl (by rw[ex];exact hb),λx c e=>?_,λp hp=>?_⟩;.rw[eN]at e;exact ND b hb x c e
  .rcases zA6.mp hp with z|z;.rw[ep]at z;exact(hf b hb).2.2.2.2.2 p z
   .rw[hP p z];exact(oi b hb).2.symm
 have ap:Apart X' D:=⟨by rw[eL];exact yA,by rw[ef];exact uk _ (zA3 _),by rw[eS,gz];exact zA3 _,l9,GO⟩;have T':Turn X'.prog X'.w X'.K tg J fp it tn:=by rw[eP,ew,eK];exact T
 have loop:∀s₃:Shared,s₃={s₂ with heap:=h₁,toks:=s₂.toks}->codeAny (model X.prog X.w) X.A (.compLoop (.ListComp elt [⟨tg,iter,ifs,0⟩] scope pos) 0 (.ref it) (.ref D) (compEnvC scope ((x₀,C+1)::cj X.env.cells scope.names []) C X.env)) (RR (.ref D) C) s₃:=by
  rintro s₃ rfl;have L:=Ea (X:=X') (scope:=scope) (pos:=pos) (R:=RR (.ref D) C) ec eE ap (nF (gens:=[⟨tg,iter,ifs,0⟩]) (d:=0) rfl rfl) hg ht (yt ap eE he) ⟨I0,fresh _ (zA3 _),λp hp=>absurd hp z01,[],_,dA,.nil⟩ T' (T.keep _ _ _ st λb _ o e=>old b o e) (λb hb=>⟨ua (λp hp=>absurd hp z01) (λb hb=>(hf b hb).1) b hb,(oi b hb).2⟩) hW ?_;.rw[eP,ew,eA,eN]at L;exact L
  rintro s4 ys jI H3⟨I4,iE,_,us,k,oD,tS⟩hsz fin;obtain⟨mC,A5,_⟩:=I4.loc;rw[eL]at A5;have hJ:=I4.base;rw[eS,eH,ef,ex]at hJ;have hlen:ys.length<=sizeLine:=Za7 hsz;have uu:HOk X.prog X.w (upd H3 D (.lst ys)) s4.heap:=λb u e=>by
   by_cases hb:b=D;.subst hb;rw[ao]at e;cases e;exact⟨hlen,us,k,tS,oD⟩
   .rw[aD hb]at e;have z:=I4.hok b u e;rw[eP,ew]at z;exact z.stay (λc v _ q=>q) (λc q=>by rw[aD (aH q iE)];exact q) λc xs q=>by rw[aD (aH q iE)];exact q
  have un:Un (frs X.stack) fp H₂ (upd H3 D (.lst ys)) s₂.heap s4.heap:=⟨hJ.keep,hJ.slot,λb o e n hx=>by rw[aD (ax e).2];exact hJ.free b o e n hx,hJ.there,λb xs e=>by have z:=hJ.tups b xs e;rw[aD (aH z iE)];exact z,λb o u e=>by have z:=hJ.frzs b o u e;rw[aD (aH z iE)];exact z,λb ps e=>by obtain⟨mo,z⟩:=hJ.tbls b ps e;exact⟨mo,by rw[aD (aH z iE)];exact z⟩⟩;have J4:Inv X z06 σ (upd H3 D (.lst ys)) s4:=ah.call' (ch:=fp) (by have:=I4.os;rw[eS]at this;exact this) un uu I4.bare λb hb=>by obtain⟨_,f1,f2,f3,f4,f5⟩:=hf b hb;exact⟨f3,f1,f4,f5⟩
  refine AZ D C s4 ys H3 mC fin iE J4 A5 ⟨?_,?_,?_,.inr ?_,?_,?_⟩;.rw[aD yA.symm];have:=I4.free;rw[eL]at this;exact this
  .have:=ah.lt;rw[gz]at this;exact Zam (zB3 this (by rw[hC];exact Zao _))
  .intro z;obtain⟨_,o,ho,_⟩:=ah.funs.mem z;exact(ax ho).1 rfl
  .have:=ah.sz;rw[gz]at this;lia
  .intro x c e z;obtain⟨o,ho⟩:=fR e;exact(ax ho).1 z
  .intro p hp z;exact(ax (ah.pin p hp).1).1 z
 exact pR rfl rfl (loop _ rfl) (T.self _ 0 _ _ _ (T.keep _ _ _ st λb _ o e=>old b o e) (loop _ rfl))
section
theorem wG(Nc:Qa7)(src:List (Option Nat))(hc:X.calm=true)(hi:PI X tg iter wi)(hb:∀C fp z06 s₂ H₂,PG (cxD X scope x₀ Nc C fp z06 s₂ H₂) tg g/\PTs (cxD X scope x₀ Nc C fp z06 s₂ H₂) ifs tt/\PE (cxD X scope x₀ Nc C fp z06 s₂ H₂) elt te)(bo:∀C,Caps X (compEnvC scope ((x₀,C+1)::cj X.env.cells scope.names []) C X.env) Nc src)(S:CScopeD X scope x₀)(hs:∀x,foldedSetIterable iter X.env x=pure x:=by intro _;rfl):PE X (.ListComp elt [⟨tg,iter,ifs,0⟩] scope pos) (zJ wi src g tt te):=by intro z06 s σ H Q I h;rw[eval_ListComp];refine wpAny_comprehension_free (use:=none) rfl hs (jO S.hfree) S.kind S.hnames ?_;refine thn (hi z06 s σ H _ I h) λv s1 h1=>thn h1 λsP s2 h2=>?_;obtain⟨it,fp,tn,J,H2,e,I2,T,st2,f2,hW⟩:=h2;subst e;refine yH (RR:=λacc C=>compPost (model X.prog X.w) X.A X.xe none (EP X z06 σ Q) acc C) hc S bo hb I2 T st2 f2 hW ?_;intro D C s' ys H' m fin nD J' hn fC;obtain⟨f0,f1,_,f3,f4,f5⟩:=fC;refine⟨m,hn,λGS iP=>?_⟩;exact⟨.ref D,_,J'.turned (t':=s'.toks) (λb o hb e=>iP.extBut b o hb e) f0 f1 f3 f4 f5,rfl,fin D nD⟩
end
end L2
namespace So
open PySem PyProof.Rows
def gZ:Bool->Keyed->Array Keyed->Nat->Nat->Nat->StateT SortSt Sem (Option Nat):=sortPriv%PySem.Builtin.gallop
section
def LtP(prog:Program)(w:World)(A:Around)(E:gV)(s:Shared)(Ok:Keyed->Prop)(st:SortSt):Prop:=∀x y Q,Ok x->Ok y->(∀r,Q (some r) st)->wpS (model prog w) A E s (lt' x y) Q st
theorem bD{st:SortSt}(e:arr[i]?=some p)(h:Q p st):wpS (model prog w) A E s (elem' arr i) Q st:=by rw[elem'_eq,e];exact Zab h
theorem fV{st:SortSt}(hL:LtP prog w A E s Ok st)(hk:Ok key)(hn:h<n)(kC:∀i,i<n->∃p,arr[b+i]?=some p/\Ok p)(q:∀k,k<=n->Q (some k) st):wpS (model prog w) A E s (gZ left key arr b n h) Q st:=by
 have hb:∀(i:Nat)(R:Option Bool->SortSt->Prop),i<n->(∀r,R (some r) st)->wpS (model prog w) A E s (do let x<-elem' arr (b+i)if left=true then lt' x key else do
    let r<-lt' key x
    pure (Option.map (λx=>!x) r)) R st:=λi R hi hR=>by obtain⟨p,e1,e2⟩:=kC i hi;refine Zaa (bD e1 ?_);cases left with|true=>rw[zAz rfl];exact hL _ _ _ e2 hk hR;|false=>rw[zAy z02];exact Zaa (hL _ _ _ hk e2 λr=>Zab (hR _))
 delta gZ;refine Zaa (hb h _ hn λr=>?_);cases r with|true=>
  dsimp only;rw[zAz rfl];refine Zaa (wpS_mono (wpS_forRange (I:=λx c z09=>z09=st/\c.1=none/\c.2.1<c.2.2/\c.2.1<n-h/\x<c.2.2) (Q:=λc z09=>z09=st/\c.1=none/\c.2.1<c.2.2/\c.2.1<n-h) ?_ ?_ ⟨rfl,rfl,(by show 0<1;decide),(by show 0<n-h;lia),(by show 0<1;decide)⟩) ?_)
  .rintro x⟨c0,l,o⟩z09 _ hx⟨rfl,rfl,g1,g2,g3⟩;dsimp only at g1 g2 g3⊢;by_cases ho:o≥n-h;.rw[zAz ho];exact Zab ⟨rfl,rfl,g1,g2⟩
   .rw[zAy ho];refine Zaa (hb (h+o) _ z00 λr=>?_);cases r with|true=>dsimp only;rw[zAy z02];exact Zab ⟨rfl,rfl,by dsimp only;lia,by dsimp only;lia,by dsimp only;lia⟩;|false=>dsimp only;rw[zAz z02];exact Zab ⟨rfl,rfl,g1,g2⟩
  .rintro⟨c0,l,o⟩z09⟨rfl,rfl,g1,g2,g3⟩;exact⟨rfl,rfl,g1,g2⟩
  .rintro⟨c0,l,o⟩z09⟨rfl,rfl,g1,g2⟩;dsimp only at g1 g2⊢;refine Zaa (wpS_mono (wpS_forRange (I:=λx c eR=>eR=z09/\c.1=none/\c.2.2<=n) (Q:=λc eR=>eR=z09/\c.1=none/\c.2.2<=n) ?_ ?_ ⟨rfl,rfl,(by show h+min o (n-h)<=n;lia)⟩) ?_)
   .rintro x⟨c0,l,r⟩eR _ hx⟨rfl,rfl,g2⟩;dsimp only at g2⊢;by_cases kQ:l≥r;.rw[zAz kQ];exact Zab ⟨rfl,rfl,g2⟩
    .rw[zAy kQ];refine Zaa (hb (l+(r-l)/2) _ z00 λt=>?_);cases t with|true=>dsimp only;rw[zAz rfl];exact Zab ⟨rfl,rfl,g2⟩;|false=>dsimp only;rw[zAy z02];exact Zab ⟨rfl,rfl,by dsimp only;lia⟩
   .rintro⟨c0,l,r⟩eR⟨rfl,rfl,g2⟩;exact⟨rfl,rfl,g2⟩
   .rintro⟨c0,l,r⟩eR⟨rfl,rfl,g1⟩;exact Zab (q _ g1);|false=>
  dsimp only;rw[zAy z02];refine Zaa (wpS_mono (wpS_forRange (I:=λx c z09=>z09=st/\c.1=none/\c.2.1<c.2.2/\c.2.1<h+1/\x<c.2.2) (Q:=λc z09=>z09=st/\c.1=none/\c.2.1<c.2.2/\c.2.1<h+1) ?_ ?_ ⟨rfl,rfl,(by show 0<1;decide),(by show 0<h+1;lia),(by show 0<1;decide)⟩) ?_)
  .rintro x⟨c0,l,o⟩z09 _ hx⟨rfl,rfl,g1,g2,g3⟩;dsimp only at g1 g2 g3⊢;by_cases ho:o≥h+1;.rw[zAz ho];exact Zab ⟨rfl,rfl,g1,g2⟩
   .rw[zAy ho];refine Zaa (hb (h-o) _ z00 λr=>?_);cases r with|false=>dsimp only;rw[zAy z02];exact Zab ⟨rfl,rfl,by dsimp only;lia,by dsimp only;lia,by dsimp only;lia⟩;|true=>dsimp only;rw[zAz rfl];exact Zab ⟨rfl,rfl,g1,g2⟩
  .rintro⟨c0,l,o⟩z09⟨rfl,rfl,g1,g2,g3⟩;exact⟨rfl,rfl,g1,g2⟩
  .rintro⟨c0,l,o⟩z09⟨rfl,rfl,g1,g2⟩;dsimp only at g1 g2⊢;refine Zaa (wpS_mono (wpS_forRange (I:=λx c eR=>eR=z09/\c.1=none/\c.2.2<=n) (Q:=λc eR=>eR=z09/\c.1=none/\c.2.2<=n) ?_ ?_ ⟨rfl,rfl,(by show h-l<=n;lia)⟩) ?_)
   .rintro x⟨c0,l,r⟩eR _ hx⟨rfl,rfl,g2⟩;dsimp only at g2⊢;by_cases kQ:l≥r;.rw[zAz kQ];exact Zab ⟨rfl,rfl,g2⟩
    .rw[zAy kQ];refine Zaa (hb (l+(r-l)/2) _ z00 λt=>?_);cases t with|true=>dsimp only;rw[zAz rfl];exact Zab ⟨rfl,rfl,g2⟩;|false=>dsimp only;rw[zAy z02];exact Zab ⟨rfl,rfl,by dsimp only;lia⟩
   .rintro⟨c0,l,r⟩eR⟨rfl,rfl,g2⟩;exact⟨rfl,rfl,g2⟩
   .rintro⟨c0,l,r⟩eR⟨rfl,rfl,g1⟩;exact Zab (q _ g1)
end
abbrev Sm:=StateT SortSt Sem
def Ja(lo a m:Nat):Sm AscSt:=forIn [a:m] ((none,a):AscSt) λ_ c=>do let x<-ltAt' (lo+c.snd) (lo+c.snd-1)match x with|some b=>if b=true then pure (ForInStep.done (none,c.snd))else pure (ForInStep.yield (none,c.snd+1))|_=>pure (ForInStep.done (some none,c.snd))
def zW(lo n m:Nat):Sm (Option Nat):=do reverseSlice' lo (lo+n)let c<-Ja lo n m match c.fst with|some r=>pure r|none=>pure (some c.snd)
def Fd(lo n m:Nat):Sm DescSt:=forIn [n:m] ((none,n,0):DescSt) λ_ c=>do let x<-ltAt' (lo+c.snd.fst) (lo+c.snd.fst-1)match x with
 |some b=>if b=true then if c.snd.snd>0 then do reverseSlice' (lo+c.snd.fst-(c.snd.snd+1)) (lo+c.snd.fst)pure (ForInStep.yield (none,c.snd.fst+1,0))else pure (ForInStep.yield (none,c.snd.fst+1,0))else do let y<-ltAt' (lo+c.snd.fst-1) (lo+c.snd.fst)match y with|some d=>if d=true then pure (ForInStep.done (none,c.snd.fst,c.snd.snd))else pure (ForInStep.yield (none,c.snd.fst+1,c.snd.snd+1))|_=>pure (ForInStep.done (some none,c.snd.fst,c.snd.snd))
  |_=>pure (ForInStep.done (some none,c.snd.fst,c.snd.snd))
def zZ(lo n m:Nat):Sm (Option Nat):=do liftM (rule "list.sort.descending-run")let c<-Fd lo (n+1) m match c.fst with|some r=>pure r|none=>if c.snd.snd>0 then do reverseSlice' (lo+c.snd.fst-(c.snd.snd+1)) (lo+c.snd.fst)zW lo c.snd.fst m else zW lo c.snd.fst m
theorem bc{f f':α->Sm β}(h:m=m')(h':f=f'):(m>>=f)=(m'>>=f'):=by rw[h,h']
theorem Cj(lo m:Nat):countRun' lo m=(do let c<-Ja lo 1 m match c.fst with|some r=>pure r|none=>if(c.snd==m)=true then pure (some c.snd)else if c.snd>1 then do let x<-ltAt' lo (lo+c.snd-1)match x with|some b=>if b=true then pure (some c.snd)else do reverseSlice' lo (lo+c.snd)zZ lo c.snd m|_=>pure none else zZ lo c.snd m):=by
 have tl:∀n:Nat,((do
   reverseSlice' lo (lo+n)let mut n:=n
   for _ in[n:m]do
    let some smaller<-ltAt' (lo+n) (lo+n-1)|return none
    if smaller then break
    n:=n+1
   return some n):Sm (Option Nat))=zW lo n m:=λn=>by refine bc rfl (funext λu=>bc rfl (funext λc=>?_));obtain⟨r,n⟩:=c;cases r<;>rfl
 have pl:∀n:Nat,((do
   rule "list.sort.descending-run"let mut n:=n+1 let mut neq:=0
   for _ in[n:m]do
    let some smaller<-ltAt' (lo+n) (lo+n-1)|return none
    if smaller then
 if neq>0 then reverseSlice' (lo+n-(neq+1)) (lo+n)
     neq:=0 else
     let some larger<-ltAt' (lo+n-1) (lo+n)|return none
     if larger then break
     neq:=neq+1
    n:=n+1
   if neq>0 then reverseSlice' (lo+n-(neq+1)) (lo+n)
   reverseSlice' lo (lo+n)for _ in[n:m]do
    let some smaller<-ltAt' (lo+n) (lo+n-1)|return none
    if smaller then break
    n:=n+1
   return some n):Sm (Option Nat))=zZ lo n m:=λn=>by refine bc rfl (funext λu=>bc rfl (funext λc=>?_));obtain⟨r,n2,q2⟩:=c;cases r with|some r=>rfl;|none=>
   dsimp only;split;.exact bc rfl (funext λu=>tl n2)
   .exact tl n2
 unfold Ja;refine bc rfl (funext λc=>?_);obtain⟨r,n⟩:=c;cases r with|some r=>rfl;|none=>
  dsimp only;split;.rfl
  .split;.refine bc rfl (funext λx=>?_);cases x with|none=>rfl;|some b=>
     dsimp only;split;.rfl
     .exact bc rfl (funext λu=>pl n)
   .exact pl n
structure SB(ks:SortKind)(ae:Array Keyed)(st:SortSt):Prop where
 kind:kindOf st=ks
 ok:failedOf st=none
 pm:(arrOf st).Perm ae
section
variable{Ok:Keyed->Prop}{ae:Array Keyed}
def LtAll(prog:Program)(w:World)(A:Around)(E:gV)(s:Shared)(Ok:Keyed->Prop)(ks:SortKind):Prop:=∀st,kindOf st=ks->LtP prog w A E s Ok st
structure Go(ks:SortKind)(ae:Array Keyed)(st z09:SortSt):Prop where
 b:SB ks ae z09
 p:pendingOf z09=pendingOf st
theorem SB.size{st:SortSt}(B:SB ks ae st):(arrOf st).size=ae.size:=B.pm.size_eq
theorem SB.item{st:SortSt}(B:SB ks ae st)(h0:∀p∈ae.toList,Ok p)(hi:i<ae.size):∃p,(arrOf st)[i]?=some p/\Ok p:=by
 have lS:i<(arrOf st).size:=by rw[B.size];exact hi
 exact⟨_,Zau lS,h0 _ ((Zbb.mp B.pm).mem_iff.mp (Array.mem_toList_iff.mpr (Array.getElem_mem lS)))⟩
theorem SB.arr{st:SortSt}(B:SB ks ae st)(h:xs.Perm (arrOf st)):SB ks ae (setArr st xs):=⟨B.kind,B.ok,h.trans B.pm⟩
theorem Go.refl{st:SortSt}(B:SB ks ae st):Go ks ae st st:=⟨B,rfl⟩
theorem Go.arr{st z09:SortSt}(g:Go ks ae st z09)(h:xs.Perm (arrOf z09)):Go ks ae st (setArr z09 xs):=⟨g.b.arr h,g.p⟩
theorem ltA(hL:LtAll prog w A E s Ok ks){st:SortSt}(B:SB ks ae st)(h0:∀p∈ae.toList,Ok p)(hi:i<ae.size)(hj:j<ae.size)(h:∀r,Q (some r) st):wpS (model prog w) A E s (ltAt' i j) Q st:=by obtain⟨p,e1,ka⟩:=B.item h0 hi;obtain⟨q,e2,kb⟩:=B.item h0 hj;exact Zaa (wpS_get (Zaa (bD e1 (Zaa (bD e2 (hL st B.kind p q Q ka kb h))))))
theorem uQ{st aT:SortSt}(g:Go ks ae aT st)(h:∀z09,Go ks ae aT z09->Q () z09):wpS (model prog w) A E s (reverseSlice' i j) Q st:=wpS_reverse (h _ (g.arr (mirror_perm _ _ _ _)))
variable(hL:LtAll prog w A E s Ok ks)(h0:∀p∈ae.toList,Ok p)
include hL h0
theorem Aa{st:SortSt}{lo a m:Nat}(hn:lo+m<=ae.size)(ha:1<=a)(ZS:a<=m)(B:SB ks ae st)(h:∀n,a<=n->n<=m->Q (none,n) st):wpS (model prog w) A E s (Ja lo a m) Q st:=by
 refine wpS_forRange (I:=λx c z09=>z09=st/\c=(none,x)) ?_ ?_ ⟨rfl,rfl⟩;.rintro x c z09 He Tt⟨rfl,rfl⟩;refine Zaa (ltA hL B h0 z00 z00 λr=>?_);cases r with|true=>exact Zab (h x He z00);|false=>exact Zab ⟨rfl,rfl⟩
 .rintro c z09⟨rfl,rfl⟩;exact h _ z00 z00
theorem wH{aT st:SortSt}{lo n m:Nat}(hn:lo+m<=ae.size)(h1:1<=n)(u7:n<=m)(g:Go ks ae aT st)(h:∀k z09,Go ks ae aT z09->1<=k->k<=m->Q (some k) z09):wpS (model prog w) A E s (zW lo n m) Q st:=Zaa (uQ g λz09 g'=>Zaa (Aa hL h0 hn h1 u7 g'.b λk k1 k2=>Zab (h k _ g' z00 k2)))
theorem Fe{aT st:SortSt}{lo n m:Nat}(hn:lo+m<=ae.size)(h1:1<=n)(u7:n<=m)(g:Go ks ae aT st)(h:∀k q z09,Go ks ae aT z09->n<=k->k<=m->Q (none,k,q) z09):wpS (model prog w) A E s (Fd lo n m) Q st:=by
 unfold Fd;refine wpS_forRange (I:=λx c z09=>∃q,c=(none,x,q)/\Go ks ae aT z09) ?_ ?_ ⟨0,rfl,g⟩
 .rintro x c z09 He Tt⟨q,rfl,g⟩;dsimp only;refine Zaa (ltA hL g.b h0 z00 z00 λr=>?_)
  cases r with|true=>
   dsimp only;rw[zAz rfl];by_cases BB:q>0;.rw[zAz BB];exact Zaa (uQ g λst2 g2=>Zab ⟨0,rfl,g2⟩)
   .rw[zAy BB];exact Zab ⟨0,rfl,g⟩;|false=>dsimp only;refine Zaa (ltA hL g.b h0 z00 z00 λr=>?_);cases r with|true=>exact Zab (h x q z09 g He z00);|false=>exact Zab ⟨q+1,rfl,g⟩
 .rintro c z09⟨q,rfl,g⟩;exact h _ q z09 g z00 z00
theorem wI{aT st:SortSt}{lo n m:Nat}(hn:lo+m<=ae.size)(u7:n+1<=m)(g:Go ks ae aT st)(h:∀k z09,Go ks ae aT z09->1<=k->k<=m->Q (some k) z09):wpS (model prog w) A E s (zZ lo n m) Q st:=by
 refine Zaa (wpS_lift (wpAny_rule ⟨rfl,?_⟩));refine Zaa (Fe hL h0 hn z00 u7 g λk q z09 g k1 k2=>?_);dsimp only;by_cases BB:q>0;.rw[zAz BB];exact Zaa (uQ g λst2 g2=>wH hL h0 hn z00 k2 g2 h)
 .rw[zAy BB];exact wH hL h0 hn z00 k2 g h
theorem Ff{st:SortSt}{lo m:Nat}(hn:lo+m<=ae.size)(h1:1<=m)(B:SB ks ae st)(h:∀k z09,Go ks ae st z09->1<=k->k<=m->Q (some k) z09):wpS (model prog w) A E s (countRun' lo m) Q st:=by
 rw[Cj];refine Zaa (Aa hL h0 hn (zA3 1) h1 B λn n1 n2=>?_);dsimp only;have g:=Go.refl B;by_cases u7:n=m;.rw[zAz (by simpa using u7)];exact Zab (h n st g n1 n2)
 .rw[zAy (by simpa using u7)];by_cases NF:n>1;.rw[zAz NF];refine Zaa (ltA hL B h0 z00 z00 λr=>?_);cases r with|true=>exact Zab (h n st g n1 n2);|false=>exact Zaa (uQ g λst2 g2=>wI hL h0 hn z00 g2 h)
  .rw[zAy NF];exact wI hL h0 hn z00 g h
theorem LC{aT st:SortSt}{lo n ok:Nat}(hn:lo+n<=ae.size)(g:Go ks ae aT st)(h:∀z09,Go ks ae aT z09->Q true z09):wpS (model prog w) A E s (binarySort' lo n ok) Q st:=by
 rw[binarySort'_eq];refine Zaa (wpS_mono (wpS_forRange (I:=λk c z09=>c=(none,())/\Go ks ae aT z09) (Q:=λc z09=>c=(none,())/\Go ks ae aT z09) ?_ (λc z09 h=>h) ⟨rfl,g⟩) ?_)
 .rintro k c z09 HA ZU⟨rfl,g⟩;refine Zaa (wpS_mono (wpS_forRange (I:=λx c st2=>st2=z09/\∃l r,c=(none,l,r)/\l<=r/\r<=k) (Q:=λc st2=>st2=z09/\∃l r,c=(none,l,r)) ?_ ?_ ⟨rfl,0,k,rfl,z00,z00⟩) ?_)
  .rintro x c st2 _ ZV⟨rfl,l,r,rfl,kQ,HC⟩;dsimp only;by_cases kD:l≥r;.rw[zAz kD];exact Zab ⟨rfl,l,r,rfl⟩
   .rw[zAy kD];refine Zaa (ltA hL g.b h0 z00 z00 λt=>?_);cases t with|true=>dsimp only;rw[zAz rfl];exact Zab ⟨rfl,l,(l+r)/2,rfl,z00,z00⟩;|false=>dsimp only;rw[zAy z02];exact Zab ⟨rfl,(l+r)/2+1,r,rfl,z00,z00⟩
  .rintro c st2⟨rfl,l,r,rfl,_⟩;exact⟨rfl,l,r,rfl⟩
  .rintro c st2⟨rfl,l,r,rfl⟩;show wpS _ _ _ _ (do moveDown' (lo+k) (lo+l);pure (ForInStep.yield (none,()))) _ _;rw[moveDown'_eq];exact Zaa (wpS_modify (Zab ⟨rfl,g.arr (bubble_perm _ _ _)⟩))
 .rintro c z09⟨rfl,g⟩;exact Zab (h z09 g)
end
def mj:Array Keyed->Array Keyed->Sm (Array Keyed):=sortPriv%PySem.Builtin.mergeLo
def mq:Nat->Sm Unit:=sortPriv%PySem.Builtin.setMinGallop
abbrev C1:=Option (Array Keyed)×Array Keyed×Nat×Nat×Nat×Nat
abbrev C2:=Option (Array Keyed)×Array Keyed×Nat×Nat×Nat×Nat×Nat
abbrev C0:=Option (Array Keyed)×Array Keyed×Nat×Nat×Nat
def one(a b:Array Keyed)(g:Nat)(out:Array Keyed)(ia ib ac bc:Nat):Sm (ForInStep C1):=do let y<-elem' b ib let x<-elem' a ia let r<-lt' y x match r with|some w=>if w=true then do let y<-elem' b ib if(ib+1==b.size)=true then pure (ForInStep.done (some (out.push y++a.extract ia a.size++b.extract (ib+1) b.size),out.push y,ia,ib+1,0,bc+1))else if bc+1≥g then pure (ForInStep.done (none,out.push y,ia,ib+1,0,bc+1))else pure (ForInStep.yield (none,out.push y,ia,ib+1,0,bc+1))else do let x<-elem' a ia if(ia+1+1==a.size)=true then pure (ForInStep.done (some (out.push x++b.extract ib b.size++a.extract (ia+1) a.size),out.push x,ia+1,ib,ac+1,0))else if ac+1≥g then pure (ForInStep.done (none,out.push x,ia+1,ib,ac+1,0))else pure (ForInStep.yield (none,out.push x,ia+1,ib,ac+1,0))|_=>pure (ForInStep.done (some (out++a.extract ia a.size++b.extract ib b.size),out,ia,ib,ac,bc))
def gl4(a b:Array Keyed)(out:Array Keyed)(ia ib g k k1:Nat):Sm (ForInStep C2):=do let x<-elem' a ia if(ia+1+1==a.size)=true then pure (ForInStep.done (some (out.push x++b.extract ib b.size++a.extract (ia+1) a.size),out.push x,ia+1,ib,g,k,k1))else if(decide (k<7)&&decide (k1<7))=true then pure (ForInStep.done (none,out.push x,ia+1,ib,g,k,k1))else pure (ForInStep.yield (none,out.push x,ia+1,ib,g,k,k1))
def gl3(a b:Array Keyed)(out:Array Keyed)(ia ib g k bc:Nat):Sm (ForInStep C2):=do let x<-elem' a ia let r<-gZ true x b ib (b.size-ib) 0 match r with|some k1=>if k1>0 then if(ib+k1==b.size)=true then pure (ForInStep.done (some (out++b.extract ib (ib+k1)++a.extract ia a.size++b.extract (ib+k1) b.size),out++b.extract ib (ib+k1),ia,ib+k1,g,k,k1))else gl4 a b (out++b.extract ib (ib+k1)) ia (ib+k1) g k k1 else gl4 a b out ia ib g k k1|_=>pure (ForInStep.done (some (out++a.extract ia a.size++b.extract ib b.size),out,ia,ib,g,k,bc))
def gl2(a b:Array Keyed)(out:Array Keyed)(ia ib g k bc:Nat):Sm (ForInStep C2):=do let y<-elem' b ib if(ib+1==b.size)=true then pure (ForInStep.done (some (out.push y++a.extract ia a.size++b.extract (ib+1) b.size),out.push y,ia,ib+1,g,k,bc))else gl3 a b (out.push y) ia (ib+1) g k bc
def gl1(a b:Array Keyed)(out:Array Keyed)(ia ib g ac bc:Nat):Sm (ForInStep C2):=do mq g let y<-elem' b ib let r<-gZ false y a ia (a.size-ia) 0 match r with|some k=>if k>0 then if(ia+k+1==a.size)=true then pure (ForInStep.done (some (out++a.extract ia (ia+k)++b.extract ib b.size++a.extract (ia+k) a.size),out++a.extract ia (ia+k),ia+k,ib,g,k,bc))else if(ia+k==a.size)=true then pure (ForInStep.done (some (out++a.extract ia (ia+k)++a.extract (ia+k) a.size++b.extract ib b.size),out++a.extract ia (ia+k),ia+k,ib,g,k,bc))else gl2 a b (out++a.extract ia (ia+k)) (ia+k) ib g k bc else gl2 a b out ia ib g k bc|_=>pure (ForInStep.done (some (out++a.extract ia a.size++b.extract ib b.size),out,ia,ib,g,ac,bc))
def gal(a b:Array Keyed)(out:Array Keyed)(ia ib g ac bc:Nat):Sm (ForInStep C2):=if g>1 then gl1 a b out ia ib (g-1) ac bc else gl1 a b out ia ib g ac bc
def round(a b:Array Keyed)(out:Array Keyed)(ia ib g:Nat):Sm (ForInStep C0):=do let c<-forIn [0:a.size+b.size] ((none,out,ia,ib,0,0):C1) λ_ c=>one a b g c.2.1 c.2.2.1 c.2.2.2.1 c.2.2.2.2.1 c.2.2.2.2.2 match c.1 with|some r=>pure (ForInStep.done (some r,c.2.1,c.2.2.1,c.2.2.2.1,g))|none=>do liftM (rule "list.sort.gallop")let d<-forIn [0:a.size+b.size] ((none,c.2.1,c.2.2.1,c.2.2.2.1,g+1,c.2.2.2.2.1,c.2.2.2.2.2):C2) λ_ d=>gal a b d.2.1 d.2.2.1 d.2.2.2.1 d.2.2.2.2.1 d.2.2.2.2.2.1 d.2.2.2.2.2.2 match d.1 with|some r=>pure (ForInStep.done (some r,d.2.1,d.2.2.1,d.2.2.2.1,d.2.2.2.2.1))|none=>do mq (d.2.2.2.2.1+1)pure (ForInStep.yield (none,d.2.1,d.2.2.1,d.2.2.2.1,d.2.2.2.2.1+1))
theorem fi{r:Std.Legacy.Range}{f f':Nat->β->Sm (ForInStep β)}(h:f=f'):(forIn r c f:Sm β)=forIn r c f':=by rw[h]
theorem ic{α:Type}[Decidable c]{x x' y y':α}(h:x=x')(h':y=y'):(if c then x else y)=if c then x' else y':=by rw[h,h']
theorem Og(a b:Array Keyed):mj a b=(do liftM (rule "list.sort.merge-lo")let e<-elem' b 0 if(1==b.size)=true then pure (#[e]++a.extract 0 a.size++b.extract 1 b.size)else if(0+1==a.size)=true then pure (#[e]++b.extract 1 b.size++a.extract 0 a.size)else do let s<-get let c<-forIn [0:a.size+b.size] ((none,#[e],0,1,gallopOf s):C0) λ_ c=>round a b c.2.1 c.2.2.1 c.2.2.2.1 c.2.2.2.2 match c.1 with|some r=>pure r|none=>liftM (unsupported "internal:list.sort.merge-bound")):=by
 delta mj;refine bc rfl (funext λu=>bc rfl (funext λe=>ic rfl (ic rfl (bc rfl (funext λs=>bc (fi (funext λx=>funext λc=>?_)) (funext λc=>?_))))))
 .unfold round;refine bc (fi (funext λx=>funext λc1=>?_)) (funext λc1=>?_);.unfold one;refine bc rfl (funext λy=>bc rfl (funext λx=>bc rfl (funext λr=>?_)));cases r with|none=>rfl;|some w=>exact ic (bc rfl (funext λy=>ic rfl (ic rfl rfl))) (bc rfl (funext λy=>ic rfl (ic rfl rfl)))
  .obtain⟨r,c1⟩:=c1;cases r with|some r=>rfl;|none=>
    refine bc rfl (funext λu=>bc (fi (funext λx=>funext λd=>?_)) (funext λd=>?_));.unfold gal;refine ic ?_ ?_<;>(unfold gl1;exact bc rfl (funext λu=>bc rfl (funext λy=>bc rfl (funext λr=>by rfl))))
    .obtain⟨r,d⟩:=d;cases r<;>rfl
 .obtain⟨r,c⟩:=c;cases r<;>rfl
structure SG(st z09:SortSt):Prop where
 kind:kindOf z09=kindOf st
 arr:arrOf z09=arrOf st
 pend:pendingOf z09=pendingOf st
 fail:failedOf z09=failedOf st
theorem SG.refl(st:SortSt):SG st st:=⟨rfl,rfl,rfl,rfl⟩
theorem SG.trans(g:SG a b)(h:SG b c):SG a c:=⟨h.kind.trans g.kind,h.arr.trans g.arr,h.pend.trans g.pend,h.fail.trans g.fail⟩
structure Two(Ok:Keyed->Prop)(a b:Array Keyed):Prop where
 ka:∀p∈a.toList,Ok p
 kb:∀p∈b.toList,Ok p
theorem item{Ok:Keyed->Prop}{a:Array Keyed}(ka:∀p∈a.toList,Ok p)(hi:i<a.size):∃p,a[i]?=some p/\Ok p/\a.toList.drop i=p::a.toList.drop (i+1):=by refine⟨a[i],Zau hi,ka _ (Array.mem_toList_iff.mpr (Array.getElem_mem hi)),?_⟩;have:=Zbe (l:=a.toList) (i:=i) (by simpa using hi);rw[this];simp
theorem mz(a:Array Keyed)(i j:Nat):(a.extract i j).toList=(a.toList.drop i).take (j-i):=by rw[Array.toList_extract]
theorem pH(a:Array Keyed)(i:Nat):(a.extract i a.size).toList=a.toList.drop i:=by rw[mz];refine Zal ?_;rw[Zap];exact zA3 _
def M(a b out:Array Keyed)(ia ib:Nat):Prop:=(out.toList++(a.toList.drop ia++b.toList.drop ib)).Perm (a.toList++b.toList)
abbrev Rs(a b r:Array Keyed):Prop:=r.toList.Perm (a.toList++b.toList)
theorem mid(o t A R:List Keyed):(o++t++(A++R)).Perm (o++(A++(t++R))):=by rw[zAf,<-zAf t,<-zAf A];exact(List.perm_append_comm.append_right R).append_left o
theorem M.pushA(m:M a b out ia ib)(e:a.toList.drop ia=x::a.toList.drop (ia+1)):M a b (out.push x) (ia+1) ib:=by unfold M at m⊢;rw[e]at m;rw[Array.toList_push,zAf];exact m
theorem M.pushB(m:M a b out ia ib)(e:b.toList.drop ib=x::b.toList.drop (ib+1)):M a b (out.push x) ia (ib+1):=by unfold M at m⊢;rw[e]at m;rw[Array.toList_push];exact(mid _ [x] _ _).trans m
theorem M.segA(k:Nat)(m:M a b out ia ib):M a b (out++a.extract ia (ia+k)) (ia+k) ib:=by unfold M at m⊢;rw[Zak,mz,show ia+k-ia=k by lia,zAf,<-zAf (List.take _ _),<-List.drop_drop,zBe];exact m
theorem M.segB(k:Nat)(m:M a b out ia ib):M a b (out++b.extract ib (ib+k)) ia (ib+k):=by unfold M at m⊢;rw[Zak,mz,show ib+k-ib=k by lia];refine(mid _ _ _ _).trans ?_;rw[<-List.drop_drop,zBe];exact m
theorem M.e1(m:M a b out ia ib):Rs a b (out++a.extract ia a.size++b.extract ib b.size):=by unfold M at m;unfold Rs;rw[Zak,Zak,pH,pH,zAf];exact m
theorem M.e2(m:M a b out ia ib):Rs a b (out++b.extract ib b.size++a.extract ia a.size):=by unfold M at m;unfold Rs;rw[Zak,Zak,pH,pH,zAf];exact(List.perm_append_comm.append_left _).trans m
section
theorem jR{st:SortSt}(h:∀z09,SG st z09->Q () z09):wpS (model prog w) A E s (mq g) Q st:=wpS_modify (h _ ⟨rfl,rfl,rfl,rfl⟩)
structure At(a b out:Array Keyed)(ia ib:Nat):Prop where
 mi:M a b out ia ib
 ha:ia+1<a.size
 hb:ib<b.size
def G2(a b:Array Keyed)(n:Nat)(st:SortSt)(r:ForInStep C2)(z09:SortSt):Prop:=SG st z09/\match r with|.done c=>(∃z,c.1=some z/\Rs a b z)\/(c.1=none/\At a b c.2.1 c.2.2.1 c.2.2.2.1/\n<=c.2.2.1+c.2.2.2.1)|.yield c=>c.1=none/\At a b c.2.1 c.2.2.1 c.2.2.2.1/\n<=c.2.2.1+c.2.2.2.1
variable(hL:LtAll prog w A E s Ok ks)(T:Two Ok a b)
include T
theorem qp{aT st:SortSt}(sg:SG aT st)(m:At a b out ia ib)(hn:n<=ia+ib+1):wpS (model prog w) A E s (gl4 a b out ia ib g k k1) (G2 a b n aT) st:=by
 obtain⟨x,x1,x2,x4⟩:=item T.ka (i:=ia) (by have:=m.ha;lia);refine Zaa (bD x1 ?_);have m':=m.mi.pushA x4;by_cases ha:ia+1+1=a.size;.rw[zAz (by simpa using ha)];exact Zab ⟨sg,.inl ⟨_,rfl,m'.e2⟩⟩
 .rw[zAy (by simpa using ha)];have at':At a b (out.push x) (ia+1) ib:=⟨m',by have:=m.ha;lia,m.hb⟩;split;.exact Zab ⟨sg,.inr ⟨rfl,at',by dsimp only;lia⟩⟩
  .exact Zab ⟨sg,rfl,at',by dsimp only;lia⟩
include hL
theorem yI{g ia ib ac bc:Nat}{st:SortSt}(hk:kindOf st=ks)(m:At a b out ia ib):wpS (model prog w) A E s (one a b g out ia ib ac bc) (λr z09=>z09=st/\match r with|.done c=>(∃z,c.1=some z/\Rs a b z)\/(c.1=none/\At a b c.2.1 c.2.2.1 c.2.2.2.1/\ia+ib+1=c.2.2.1+c.2.2.2.1)|.yield c=>c.1=none/\At a b c.2.1 c.2.2.1 c.2.2.2.1/\ia+ib+1=c.2.2.1+c.2.2.2.1) st:=by
 obtain⟨x,x1,x2,x4⟩:=item T.ka (i:=ia) (by have:=m.ha;lia);obtain⟨y,y1,y2,y4⟩:=item T.kb m.hb;unfold one;refine Zaa (bD y1 (Zaa (bD x1 (Zaa (hL st hk _ _ _ y2 x2 λe=>?_)))))
 cases e with|true=>
  refine Zaa (bD y1 ?_);have m':=m.mi.pushB y4;by_cases hb:ib+1=b.size;.rw[zAz (by simpa using hb)];exact Zab ⟨rfl,.inl ⟨_,rfl,m'.e1⟩⟩
  .rw[zAy (by simpa using hb)];have at':At a b (out.push y) ia (ib+1):=⟨m',m.ha,by have:=m.hb;lia⟩;split;.exact Zab ⟨rfl,.inr ⟨rfl,at',by dsimp only;lia⟩⟩
   .exact Zab ⟨rfl,rfl,at',by dsimp only;lia⟩;|false=>
  refine Zaa (bD x1 ?_);have m':=m.mi.pushA x4;by_cases ha:ia+1+1=a.size;.rw[zAz (by simpa using ha)];exact Zab ⟨rfl,.inl ⟨_,rfl,m'.e2⟩⟩
  .rw[zAy (by simpa using ha)];have at':At a b (out.push x) (ia+1) ib:=⟨m',by have:=m.ha;lia,m.hb⟩;split;.exact Zab ⟨rfl,.inr ⟨rfl,at',by dsimp only;lia⟩⟩
   .exact Zab ⟨rfl,rfl,at',by dsimp only;lia⟩
theorem yJ{g ia ib k bc n:Nat}{aT st:SortSt}(hk:kindOf st=ks)(sg:SG aT st)(m:At a b out ia ib)(hn:n<=ia+ib+1):wpS (model prog w) A E s (gl3 a b out ia ib g k bc) (G2 a b n aT) st:=by
 obtain⟨x,x1,x2,x4⟩:=item T.ka (i:=ia) (by have:=m.ha;lia);have hb:=m.hb;refine Zaa (bD x1 ?_);refine Zaa (fV (hL st hk) x2 z00 (λi hi=>?_) λk1 kn=>?_);.obtain⟨p,p1,p2,_⟩:=item T.kb (i:=ib+i) z00;exact⟨p,p1,p2⟩
 .by_cases h0:k1>0
  .dsimp only;rw[zAz h0];have m':=m.mi.segB k1;by_cases e:ib+k1=b.size;.rw[zAz (by simpa using e)];exact Zab ⟨sg,.inl ⟨_,rfl,m'.e1⟩⟩
   .rw[zAy (by simpa using e)];exact qp T sg ⟨m',m.ha,z00⟩ z00
  .dsimp only;rw[zAy h0];exact qp T sg m hn
theorem qu{g ia ib k bc n:Nat}{aT st:SortSt}(hk:kindOf st=ks)(sg:SG aT st)(m:At a b out ia ib)(hn:n<=ia+ib+1):wpS (model prog w) A E s (gl2 a b out ia ib g k bc) (G2 a b n aT) st:=by
 obtain⟨y,y1,y2,y4⟩:=item T.kb m.hb;refine Zaa (bD y1 ?_);have m':=m.mi.pushB y4;by_cases hb:ib+1=b.size;.rw[zAz (by simpa using hb)];exact Zab ⟨sg,.inl ⟨_,rfl,m'.e1⟩⟩
 .rw[zAy (by simpa using hb)];exact yJ hL T hk sg ⟨m',m.ha,by have:=m.hb;lia⟩ z00
theorem yK{g ia ib ac bc n:Nat}{aT st:SortSt}(hk:kindOf st=ks)(sg:SG aT st)(m:At a b out ia ib)(hn:n<=ia+ib+1):wpS (model prog w) A E s (gl1 a b out ia ib g ac bc) (G2 a b n aT) st:=by
 obtain⟨y,y1,y2,y4⟩:=item T.kb m.hb;have ha:=m.ha;unfold gl1;refine Zaa (jR λz09 BD=>?_);have fk:kindOf z09=ks:=BD.kind.trans hk;have cy:SG aT z09:=sg.trans BD;refine Zaa (bD y1 ?_);refine Zaa (fV (hL z09 fk) y2 z00 (λi hi=>?_) λk kn=>?_);.obtain⟨p,p1,p2,_⟩:=item T.ka (i:=ia+i) z00;exact⟨p,p1,p2⟩
 .by_cases h0:k>0
  .dsimp only;rw[zAz h0];have m':=m.mi.segA k;by_cases e:ia+k+1=a.size;.rw[zAz (by simpa using e)];exact Zab ⟨cy,.inl ⟨_,rfl,m'.e2⟩⟩
   .rw[zAy (by simpa using e)];by_cases e2:ia+k=a.size;.rw[zAz (by simpa using e2)];exact Zab ⟨cy,.inl ⟨_,rfl,m'.e1⟩⟩
    .rw[zAy (by simpa using e2)];exact qu hL T fk cy ⟨m',z00,m.hb⟩ z00
  .dsimp only;rw[zAy h0];exact qu hL T fk cy m hn
theorem qw{aT st:SortSt}(hk:kindOf st=ks)(sg:SG aT st)(m:At a b out ia ib):wpS (model prog w) A E s (round a b out ia ib g) (λr z09=>SG aT z09/\match r with|.done c=>∃z,c.1=some z/\Rs a b z|.yield c=>c.1=none/\At a b c.2.1 c.2.2.1 c.2.2.2.1/\ia+ib+1<=c.2.2.1+c.2.2.2.1) st:=by
 have Tu:0<a.size+b.size:=by have:=m.ha;lia
 refine Zaa (wpS_mono (wpS_forRange (I:=λx c z09=>z09=st/\c.1=none/\At a b c.2.1 c.2.2.1 c.2.2.2.1/\ia+ib+x=c.2.2.1+c.2.2.2.1) (Q:=λc z09=>z09=st/\((∃z,c.1=some z/\Rs a b z)\/(c.1=none/\At a b c.2.1 c.2.2.1 c.2.2.2.1/\ia+ib+1<=c.2.2.1+c.2.2.2.1))) ?_ ?_ ⟨rfl,rfl,m,rfl⟩) ?_)
 .rintro x⟨c0,o,i,j,ac,bc⟩z09 _ hx⟨rfl,rfl,m',e⟩;dsimp only at m' e⊢;refine wpS_mono (yI hL T hk m') λr st2 h2=>?_;obtain⟨rfl,h2⟩:=h2
  cases r with|done c=>
   rcases h2 with h2|⟨h2,h3,h4⟩;.exact⟨rfl,.inl h2⟩
   .exact⟨rfl,.inr ⟨h2,h3,z00⟩⟩;|yield c=>obtain⟨h2,h3,h4⟩:=h2;exact⟨rfl,h2,h3,z00⟩
 .rintro c z09⟨rfl,h1,h2,h3⟩;exact⟨rfl,.inr ⟨h1,h2,z00⟩⟩
 .rintro⟨c0,o,i,j,ac,bc⟩z09⟨rfl,h⟩;dsimp only at h⊢;rcases h with⟨z,rfl,hz⟩|⟨rfl,m',sM⟩;.exact Zab ⟨sg,z,rfl,hz⟩
  .dsimp only;refine Zaa (wpS_lift (wpAny_rule ⟨rfl,?_⟩));refine Zaa (wpS_mono (wpS_forRange (I:=λx c st2=>SG aT st2/\c.1=none/\At a b c.2.1 c.2.2.1 c.2.2.2.1/\ia+ib+1<=c.2.2.1+c.2.2.2.1) (Q:=λc st2=>SG aT st2/\((∃z,c.1=some z/\Rs a b z)\/(c.1=none/\At a b c.2.1 c.2.2.1 c.2.2.2.1/\ia+ib+1<=c.2.2.1+c.2.2.2.1))) ?_ ?_ ⟨sg,rfl,m',sM⟩) ?_)
   .rintro x⟨c0,o,i,j,g2,ac,bc⟩st2 _ hx⟨cy,rfl,m2,e2⟩;dsimp only at m2 e2⊢;have HE:kindOf st2=ks:=cy.kind.trans (sg.kind.symm.trans hk);have go:∀g',wpS (model prog w) A E s (gl1 a b o i j g' ac bc) (G2 a b (ia+ib+1) aT) st2:=λg'=>yK hL T HE cy m2 z00;unfold gal;split;.refine wpS_mono (go _) λr jS h3=>?_;obtain⟨h3,h4⟩:=h3;cases r with|done c=>exact⟨h3,h4⟩;|yield c=>exact⟨h3,h4⟩
    .refine wpS_mono (go _) λr jS h3=>?_;obtain⟨h3,h4⟩:=h3;cases r with|done c=>exact⟨h3,h4⟩;|yield c=>exact⟨h3,h4⟩
   .rintro c st2⟨h0,h1,h2,h3⟩;exact⟨h0,.inr ⟨h1,h2,h3⟩⟩
   .rintro⟨c0,o,i,j,g2,ac,bc⟩st2⟨cy,h⟩;dsimp only at h⊢;rcases h with⟨z,rfl,hz⟩|⟨rfl,m2,va⟩;.exact Zab ⟨cy,z,rfl,hz⟩
    .dsimp only;refine Zaa (jR λjS oz=>Zab ⟨⟨oz.kind.trans cy.kind,oz.arr.trans cy.arr,oz.pend.trans cy.pend,oz.fail.trans cy.fail⟩,rfl,m2,va⟩)
theorem Oh(ha:0<a.size)(hb:0<b.size){st:SortSt}(hk:kindOf st=ks)(h:∀r z09,SG st z09->Rs a b r->Q r z09):wpS (model prog w) A E s (mj a b) Q st:=by
 rw[Og];obtain⟨y,y1,y2,y4⟩:=item T.kb hb;refine Zaa (wpS_lift (wpAny_rule ⟨rfl,?_⟩));refine Zaa (bD y1 ?_);have m0:M a b #[] 0 0:=by unfold M;exact .refl _
 have m:M a b #[y] 0 1:=m0.pushB y4;by_cases e1:1=b.size;.rw[zAz (by simpa using e1)];exact Zab (h _ st (SG.refl _) m.e1)
 .rw[zAy (by simpa using e1)];by_cases e2:0+1=a.size;.rw[zAz (by simpa using e2)];exact Zab (h _ st (SG.refl _) m.e2)
  .rw[zAy (by simpa using e2)];refine Zaa (wpS_get ?_);refine Zaa (wpS_mono (wpS_forRange (I:=λx c z09=>SG st z09/\c.1=none/\At a b c.2.1 c.2.2.1 c.2.2.2.1/\1+x<=c.2.2.1+c.2.2.2.1) (Q:=λc z09=>SG st z09/\∃z,c.1=some z/\Rs a b z) ?_ ?_ ⟨SG.refl _,rfl,⟨m,by dsimp only;lia,by dsimp only;lia⟩,by dsimp only;lia⟩) ?_);.rintro x⟨c0,o,i,j,g⟩z09 _ hx⟨sg,rfl,m',e⟩;dsimp only at m' e⊢;refine wpS_mono (qw hL T (sg.kind.trans hk) sg m') λr st2 h2=>?_;obtain⟨cy,h2⟩:=h2;cases r with|done c=>exact⟨cy,h2⟩;|yield c=>obtain⟨h2,h3,h4⟩:=h2;exact⟨cy,h2,h3,z00⟩
   .rintro c z09⟨sg,h1,m',e⟩;have:=m'.ha;have:=m'.hb;exact absurd e z00
   .rintro⟨c0,o,i,j,g⟩z09⟨sg,z,e,hz⟩;rw[e];exact Zab (h z z09 sg hz)
end
def mD:Array Keyed->Array Keyed->Sm (Array Keyed):=sortPriv%PySem.Builtin.mergeHi
namespace Hi
abbrev dn(a b out:Array Keyed)(na nb:Nat):Array Keyed:=a.extract 0 na++b.extract 0 nb++out.reverse
abbrev fb(a b out:Array Keyed)(na nb:Nat):Array Keyed:=b.extract 0 nb++a.extract 0 na++out.reverse
abbrev H1:=Option (Array Keyed)×Nat×Nat×Array Keyed×Nat×Nat
abbrev H2:=Option (Array Keyed)×Nat×Nat×Array Keyed×Nat×Nat×Nat
abbrev H0:=Option (Array Keyed)×Nat×Nat×Array Keyed×Nat
def one(a b:Array Keyed)(g:Nat)(na nb:Nat)(out:Array Keyed)(ac bc:Nat):Sm (ForInStep H1):=do let y<-elem' b (nb-1)let x<-elem' a (na-1)let r<-lt' y x match r with|some w=>if w=true then do let x<-elem' a (na-1)if(na-1==0)=true then pure (ForInStep.done (some (dn a b (out.push x) (na-1) nb),na-1,nb,out.push x,ac+1,0))else if ac+1≥g then pure (ForInStep.done (none,na-1,nb,out.push x,ac+1,0))else pure (ForInStep.yield (none,na-1,nb,out.push x,ac+1,0))else do let y<-elem' b (nb-1)if(nb-1==1)=true then pure (ForInStep.done (some (fb a b (out.push y) na (nb-1)),na,nb-1,out.push y,0,bc+1))else if bc+1≥g then pure (ForInStep.done (none,na,nb-1,out.push y,0,bc+1))else pure (ForInStep.yield (none,na,nb-1,out.push y,0,bc+1))|_=>pure (ForInStep.done (some (dn a b out na nb),na,nb,out,ac,bc))
def gl4(a b:Array Keyed)(na nb:Nat)(out:Array Keyed)(g k k1:Nat):Sm (ForInStep H2):=do let x<-elem' a (na-1)if(na-1==0)=true then pure (ForInStep.done (some (dn a b (out.push x) (na-1) nb),na-1,nb,out.push x,g,k,k1))else if(decide (k<7)&&decide (k1<7))=true then pure (ForInStep.done (none,na-1,nb,out.push x,g,k,k1))else pure (ForInStep.yield (none,na-1,nb,out.push x,g,k,k1))
def gl3(a b:Array Keyed)(na nb:Nat)(out:Array Keyed)(g k bc:Nat):Sm (ForInStep H2):=do let x<-elem' a (na-1)let r<-gZ true x b 0 nb (nb-1)match r with|some t=>if nb-t>0 then if(t==1)=true then pure (ForInStep.done (some (fb a b (out++(b.extract t nb).reverse) na t),na,t,out++(b.extract t nb).reverse,g,k,nb-t))else if(t==0)=true then pure (ForInStep.done (some (dn a b (out++(b.extract t nb).reverse) na t),na,t,out++(b.extract t nb).reverse,g,k,nb-t))else gl4 a b na t (out++(b.extract t nb).reverse) g k (nb-t)else gl4 a b na nb out g k (nb-t)|_=>pure (ForInStep.done (some (dn a b out na nb),na,nb,out,g,k,bc))
def gl2(a b:Array Keyed)(na nb:Nat)(out:Array Keyed)(g k bc:Nat):Sm (ForInStep H2):=do let y<-elem' b (nb-1)if(nb-1==1)=true then pure (ForInStep.done (some (fb a b (out.push y) na (nb-1)),na,nb-1,out.push y,g,k,bc))else gl3 a b na (nb-1) (out.push y) g k bc
def gl1(a b:Array Keyed)(na nb:Nat)(out:Array Keyed)(g ac bc:Nat):Sm (ForInStep H2):=do mq g let y<-elem' b (nb-1)let r<-gZ false y a 0 na (na-1)match r with|some t=>if na-t>0 then if(t==0)=true then pure (ForInStep.done (some (dn a b (out++(a.extract t na).reverse) t nb),t,nb,out++(a.extract t na).reverse,g,na-t,bc))else gl2 a b t nb (out++(a.extract t na).reverse) g (na-t) bc else gl2 a b na nb out g (na-t) bc|_=>pure (ForInStep.done (some (dn a b out na nb),na,nb,out,g,ac,bc))
def gal(a b:Array Keyed)(na nb:Nat)(out:Array Keyed)(g ac bc:Nat):Sm (ForInStep H2):=if g>1 then gl1 a b na nb out (g-1) ac bc else gl1 a b na nb out g ac bc
def round(a b:Array Keyed)(na nb:Nat)(out:Array Keyed)(g:Nat):Sm (ForInStep H0):=do let c<-forIn [0:a.size+b.size] ((none,na,nb,out,0,0):H1) λ_ c=>one a b g c.2.1 c.2.2.1 c.2.2.2.1 c.2.2.2.2.1 c.2.2.2.2.2 match c.1 with|some r=>pure (ForInStep.done (some r,c.2.1,c.2.2.1,c.2.2.2.1,g))|none=>do liftM (rule "list.sort.gallop")let d<-forIn [0:a.size+b.size] ((none,c.2.1,c.2.2.1,c.2.2.2.1,g+1,c.2.2.2.2.1,c.2.2.2.2.2):H2) λ_ d=>gal a b d.2.1 d.2.2.1 d.2.2.2.1 d.2.2.2.2.1 d.2.2.2.2.2.1 d.2.2.2.2.2.2 match d.1 with|some r=>pure (ForInStep.done (some r,d.2.1,d.2.2.1,d.2.2.2.1,d.2.2.2.2.1))|none=>do mq (d.2.2.2.2.1+1)pure (ForInStep.yield (none,d.2.1,d.2.2.1,d.2.2.2.1,d.2.2.2.2.1+1))
theorem Oi(a b:Array Keyed):mD a b=(do liftM (rule "list.sort.merge-hi")let e<-elem' a (a.size-1)if(a.size-1==0)=true then pure (dn a b #[e] (a.size-1) b.size)else if(b.size==1)=true then pure (fb a b #[e] (a.size-1) b.size)else do let s<-get let c<-forIn [0:a.size+b.size] ((none,a.size-1,b.size,#[e],gallopOf s):H0) λ_ c=>round a b c.2.1 c.2.2.1 c.2.2.2.1 c.2.2.2.2 match c.1 with|some r=>pure r|none=>liftM (unsupported "internal:list.sort.merge-bound")):=by
 delta mD;refine bc rfl (funext λu=>bc rfl (funext λe=>ic rfl (ic rfl (bc rfl (funext λs=>bc (fi (funext λx=>funext λc=>?_)) (funext λc=>?_))))))
 .unfold round;refine bc (fi (funext λx=>funext λc1=>?_)) (funext λc1=>?_);.unfold one;refine bc rfl (funext λy=>bc rfl (funext λx=>bc rfl (funext λr=>?_)));cases r with|none=>rfl;|some w=>exact ic (bc rfl (funext λy=>ic rfl (ic rfl rfl))) (bc rfl (funext λy=>ic rfl (ic rfl rfl)))
  .obtain⟨r,c1⟩:=c1;cases r with|some r=>rfl;|none=>
    refine bc rfl (funext λu=>bc (fi (funext λx=>funext λd=>?_)) (funext λd=>?_));.unfold gal;refine ic ?_ ?_<;>(unfold gl1;exact bc rfl (funext λu=>bc rfl (funext λy=>bc rfl (funext λr=>by rfl))))
    .obtain⟨r,d⟩:=d;cases r<;>rfl
 .obtain⟨r,c⟩:=c;cases r<;>rfl
theorem Jb(a:Array Keyed)(n:Nat):(a.extract 0 n).toList=a.toList.take n:=by simp
theorem ext_cut(a:Array Keyed)(t n:Nat):(a.extract t n).toList=(a.toList.take n).drop t:=by rw[mz,List.drop_take]
theorem wJ(out:Array Keyed)(x:Keyed):(out.push x).reverse.toList=x::out.reverse.toList:=by simp
theorem Ab(out seg:Array Keyed):(out++seg.reverse).reverse.toList=seg.toList++out.reverse.toList:=by simp
def Mh(a b out:Array Keyed)(na nb:Nat):Prop:=(a.toList.take na++(b.toList.take nb++out.reverse.toList)).Perm (a.toList++b.toList)
theorem iQ{l:List Keyed}(h:t<=n):l.take n=l.take t++(l.take n).drop t:=by have e:=zBe t (l.take n);rw[List.take_take,show min t n=t by lia]at e;exact e.symm
theorem Oj{a b:Array Keyed}(m:(a.toList.take na++(b.toList.take nb++o)).Perm out)(h:t<=na)(e:(a.toList.take na).drop t=seg):(a.toList.take t++(b.toList.take nb++(seg++o))).Perm out:=by rw[iQ h,e,zAf]at m;exact((List.perm_append_comm_assoc _ _ _).append_left _).trans m
theorem Ol{a b:Array Keyed}(m:(a.toList.take na++(b.toList.take nb++o)).Perm out)(h:t<=nb)(e:(b.toList.take nb).drop t=seg):(a.toList.take na++(b.toList.take t++(seg++o))).Perm out:=by rw[iQ (l:=b.toList) h,e,zAf]at m;exact m
structure At(a b out:Array Keyed)(na nb:Nat):Prop where
 mi:Mh a b out na nb
 a1:1<=na
 a2:na<=a.size
 b1:2<=nb
 b2:nb<=b.size
theorem jd{Ok:Keyed->Prop}{a:Array Keyed}(ka:∀p∈a.toList,Ok p)(h1:1<=n)(h2:n<=a.size):∃p,a[n-1]?=some p/\Ok p/\(a.toList.take n).drop (n-1)=[p]:=by obtain⟨p,p1,p2,p4⟩:=item ka (i:=n-1) z00;refine⟨p,p1,p2,?_⟩;rw[List.drop_take,p4,show n-(n-1)=1 by lia];rfl
theorem pushA(m:Mh a b out na nb)(e:(a.toList.take na).drop (na-1)=[x]):Mh a b (out.push x) (na-1) nb:=by unfold Mh;rw[wJ];exact Oj m z00 e
theorem pushB(m:Mh a b out na nb)(e:(b.toList.take nb).drop (nb-1)=[x]):Mh a b (out.push x) na (nb-1):=by unfold Mh;rw[wJ];exact Ol m z00 e
theorem segA(m:Mh a b out na nb)(ht:t<=na):Mh a b (out++(a.extract t na).reverse) t nb:=by unfold Mh;rw[Ab,ext_cut];exact Oj m ht rfl
theorem segB(m:Mh a b out na nb)(ht:t<=nb):Mh a b (out++(b.extract t nb).reverse) na t:=by unfold Mh;rw[Ab,ext_cut];exact Ol m ht rfl
theorem e_d(m:Mh a b out na nb):Rs a b (dn a b out na nb):=by unfold Mh at m;unfold Rs dn;rw[Zak,Zak,Jb,Jb,zAf];exact m
theorem e_f(m:Mh a b out na nb):Rs a b (fb a b out na nb):=by unfold Mh at m;unfold Rs fb;rw[Zak,Zak,Jb,Jb,zAf];exact(List.perm_append_comm_assoc _ _ _).trans m
section
theorem yI(hL:LtAll prog w A E s Ok ks)(T:Two Ok a b){g na nb ac bc:Nat}{st:SortSt}(hk:kindOf st=ks)(m:At a b out na nb):wpS (model prog w) A E s (one a b g na nb out ac bc) (λr z09=>z09=st/\match r with|.done c=>(∃z,c.1=some z/\Rs a b z)\/(c.1=none/\At a b c.2.2.2.1 c.2.1 c.2.2.1/\c.2.1+c.2.2.1+1=na+nb)|.yield c=>c.1=none/\At a b c.2.2.2.1 c.2.1 c.2.2.1/\c.2.1+c.2.2.1+1=na+nb) st:=by
 obtain⟨mi,a1,a2,b1,b2⟩:=m;obtain⟨x,x1,x2,x4⟩:=jd T.ka a1 a2;obtain⟨y,y1,y2,y4⟩:=jd T.kb (show 1<=nb by lia) b2;unfold one;refine Zaa (bD y1 (Zaa (bD x1 (Zaa (hL st hk _ _ _ y2 x2 λe=>?_)))))
 cases e with|true=>
  dsimp only;refine Zaa (bD x1 ?_);have m':=pushA mi x4;by_cases h0:na-1=0;.rw[zAz (by simpa using h0)];exact Zab ⟨rfl,.inl ⟨_,rfl,e_d m'⟩⟩
  .rw[zAy (by simpa using h0)];have at':At a b (out.push x) (na-1) nb:=⟨m',z00,z00,b1,b2⟩;split;.exact Zab ⟨rfl,.inr ⟨rfl,at',by dsimp only;lia⟩⟩
   .exact Zab ⟨rfl,rfl,at',by dsimp only;lia⟩;|false=>
  dsimp only;refine Zaa (bD y1 ?_);have m':=pushB mi y4;by_cases h0:nb-1=1;.rw[zAz (by simpa using h0)];exact Zab ⟨rfl,.inl ⟨_,rfl,e_f m'⟩⟩
  .rw[zAy (by simpa using h0)];have at':At a b (out.push y) na (nb-1):=⟨m',a1,a2,z00,z00⟩;split;.exact Zab ⟨rfl,.inr ⟨rfl,at',by dsimp only;lia⟩⟩
   .exact Zab ⟨rfl,rfl,at',by dsimp only;lia⟩
def G2(a b:Array Keyed)(n:Nat)(st:SortSt)(r:ForInStep H2)(z09:SortSt):Prop:=SG st z09/\match r with|.done c=>(∃z,c.1=some z/\Rs a b z)\/(c.1=none/\At a b c.2.2.2.1 c.2.1 c.2.2.1/\c.2.1+c.2.2.1<n)|.yield c=>c.1=none/\At a b c.2.2.2.1 c.2.1 c.2.2.1/\c.2.1+c.2.2.1<n
theorem qp(T:Two Ok a b){aT st:SortSt}(sg:SG aT st)(m:At a b out na nb)(hn:na+nb<=n):wpS (model prog w) A E s (gl4 a b na nb out g k k1) (G2 a b n aT) st:=by
 obtain⟨mi,a1,a2,b1,b2⟩:=m;obtain⟨x,x1,x2,x4⟩:=jd T.ka a1 a2;refine Zaa (bD x1 ?_);have m':=pushA mi x4;by_cases h0:na-1=0;.rw[zAz (by simpa using h0)];exact Zab ⟨sg,.inl ⟨_,rfl,e_d m'⟩⟩
 .rw[zAy (by simpa using h0)];have at':At a b (out.push x) (na-1) nb:=⟨m',z00,z00,b1,b2⟩;split;.exact Zab ⟨sg,.inr ⟨rfl,at',by dsimp only;lia⟩⟩
  .exact Zab ⟨sg,rfl,at',by dsimp only;lia⟩
theorem yJ(hL:LtAll prog w A E s Ok ks)(T:Two Ok a b){g na nb k bc n:Nat}{aT st:SortSt}(hk:kindOf st=ks)(sg:SG aT st)(m:At a b out na nb)(hn:na+nb<=n):wpS (model prog w) A E s (gl3 a b na nb out g k bc) (G2 a b n aT) st:=by
 obtain⟨mi,a1,a2,b1,b2⟩:=id m;obtain⟨x,x1,x2,x4⟩:=jd T.ka a1 a2;unfold gl3;refine Zaa (bD x1 ?_);refine Zaa (fV (hL st hk) x2 z00 (λi hi=>?_) λt kn=>?_);.obtain⟨p,p1,p2,_⟩:=item T.kb (i:=0+i) z00;exact⟨p,p1,p2⟩
 .by_cases h0:nb-t>0
  .dsimp only;rw[zAz h0];have m':=segB mi (show t<=nb by lia);by_cases e:t=1;.rw[zAz (by simpa using e)];exact Zab ⟨sg,.inl ⟨_,rfl,e_f m'⟩⟩
   .rw[zAy (by simpa using e)];by_cases e2:t=0;.rw[zAz (by simpa using e2)];exact Zab ⟨sg,.inl ⟨_,rfl,e_d m'⟩⟩
    .rw[zAy (by simpa using e2)];exact qp T sg ⟨m',a1,a2,z00,z00⟩ z00
  .dsimp only;rw[zAy h0];exact qp T sg m hn
theorem qu(hL:LtAll prog w A E s Ok ks)(T:Two Ok a b){g na nb k bc n:Nat}{aT st:SortSt}(hk:kindOf st=ks)(sg:SG aT st)(m:At a b out na nb)(hn:na+nb<=n):wpS (model prog w) A E s (gl2 a b na nb out g k bc) (G2 a b n aT) st:=by
 obtain⟨mi,a1,a2,b1,b2⟩:=m;obtain⟨y,y1,y2,y4⟩:=jd T.kb (show 1<=nb by lia) b2;refine Zaa (bD y1 ?_);have m':=pushB mi y4;by_cases h0:nb-1=1;.rw[zAz (by simpa using h0)];exact Zab ⟨sg,.inl ⟨_,rfl,e_f m'⟩⟩
 .rw[zAy (by simpa using h0)];exact yJ hL T hk sg ⟨m',a1,a2,z00,z00⟩ z00
theorem yK(hL:LtAll prog w A E s Ok ks)(T:Two Ok a b){g na nb ac bc n:Nat}{aT st:SortSt}(hk:kindOf st=ks)(sg:SG aT st)(m:At a b out na nb)(hn:na+nb<=n):wpS (model prog w) A E s (gl1 a b na nb out g ac bc) (G2 a b n aT) st:=by
 obtain⟨mi,a1,a2,b1,b2⟩:=id m;obtain⟨y,y1,y2,y4⟩:=jd T.kb (show 1<=nb by lia) b2;refine Zaa (jR λz09 BD=>?_);have fk:kindOf z09=ks:=BD.kind.trans hk;have cy:SG aT z09:=sg.trans BD;refine Zaa (bD y1 ?_);refine Zaa (fV (hL z09 fk) y2 z00 (λi hi=>?_) λt kn=>?_);.obtain⟨p,p1,p2,_⟩:=item T.ka (i:=0+i) z00;exact⟨p,p1,p2⟩
 .by_cases h0:na-t>0
  .dsimp only;rw[zAz h0];have m':=segA mi (show t<=na by lia);by_cases e:t=0;.rw[zAz (by simpa using e)];exact Zab ⟨cy,.inl ⟨_,rfl,e_d m'⟩⟩
   .rw[zAy (by simpa using e)];exact qu hL T fk cy ⟨m',z00,z00,b1,b2⟩ z00
  .dsimp only;rw[zAy h0];exact qu hL T fk cy m hn
theorem qw(hL:LtAll prog w A E s Ok ks)(T:Two Ok a b){aT st:SortSt}(hk:kindOf st=ks)(sg:SG aT st)(m:At a b out na nb):wpS (model prog w) A E s (round a b na nb out g) (λr z09=>SG aT z09/\match r with|.done c=>∃z,c.1=some z/\Rs a b z|.yield c=>c.1=none/\At a b c.2.2.2.1 c.2.1 c.2.2.1/\c.2.1+c.2.2.1<na+nb) st:=by
 have Tu:0<a.size+b.size:=by have:=m.a1;have:=m.a2;lia
 refine Zaa (wpS_mono (wpS_forRange (I:=λx c z09=>z09=st/\c.1=none/\At a b c.2.2.2.1 c.2.1 c.2.2.1/\c.2.1+c.2.2.1+x=na+nb) (Q:=λc z09=>z09=st/\((∃z,c.1=some z/\Rs a b z)\/(c.1=none/\At a b c.2.2.2.1 c.2.1 c.2.2.1/\c.2.1+c.2.2.1<na+nb))) ?_ ?_ ⟨rfl,rfl,m,rfl⟩) ?_)
 .rintro x⟨c0,i,j,o,ac,bc⟩z09 _ hx⟨rfl,rfl,m',e⟩;dsimp only at m' e⊢;refine wpS_mono (yI hL T hk m') λr st2 h2=>?_;obtain⟨rfl,h2⟩:=h2
  cases r with|done c=>
   rcases h2 with h2|⟨h2,h3,h4⟩;.exact⟨rfl,.inl h2⟩
   .exact⟨rfl,.inr ⟨h2,h3,z00⟩⟩;|yield c=>obtain⟨h2,h3,h4⟩:=h2;exact⟨rfl,h2,h3,z00⟩
 .rintro c z09⟨rfl,h1,h2,h3⟩;exact⟨rfl,.inr ⟨h1,h2,z00⟩⟩
 .rintro⟨c0,i,j,o,ac,bc⟩z09⟨rfl,h⟩;dsimp only at h⊢;rcases h with⟨z,rfl,hz⟩|⟨rfl,m',sM⟩;.exact Zab ⟨sg,z,rfl,hz⟩
  .dsimp only;refine Zaa (wpS_lift (wpAny_rule ⟨rfl,?_⟩));refine Zaa (wpS_mono (wpS_forRange (I:=λx c st2=>SG aT st2/\c.1=none/\At a b c.2.2.2.1 c.2.1 c.2.2.1/\c.2.1+c.2.2.1<na+nb) (Q:=λc st2=>SG aT st2/\((∃z,c.1=some z/\Rs a b z)\/(c.1=none/\At a b c.2.2.2.1 c.2.1 c.2.2.1/\c.2.1+c.2.2.1<na+nb))) ?_ ?_ ⟨sg,rfl,m',sM⟩) ?_)
   .rintro x⟨c0,i,j,o,g2,ac,bc⟩st2 _ hx⟨cy,rfl,m2,e2⟩;dsimp only at m2 e2⊢;have HE:kindOf st2=ks:=cy.kind.trans (sg.kind.symm.trans hk);have go:∀g',wpS (model prog w) A E s (gl1 a b i j o g' ac bc) (G2 a b (na+nb) aT) st2:=λg'=>yK hL T HE cy m2 z00;unfold gal;split;.refine wpS_mono (go _) λr jS h3=>?_;obtain⟨h3,h4⟩:=h3;cases r with|done c=>exact⟨h3,h4⟩;|yield c=>exact⟨h3,h4⟩
    .refine wpS_mono (go _) λr jS h3=>?_;obtain⟨h3,h4⟩:=h3;cases r with|done c=>exact⟨h3,h4⟩;|yield c=>exact⟨h3,h4⟩
   .rintro c st2⟨h0,h1,h2,h3⟩;exact⟨h0,.inr ⟨h1,h2,h3⟩⟩
   .rintro⟨c0,i,j,o,g2,ac,bc⟩st2⟨cy,h⟩;dsimp only at h⊢;rcases h with⟨z,rfl,hz⟩|⟨rfl,m2,va⟩;.exact Zab ⟨cy,z,rfl,hz⟩
    .dsimp only;refine Zaa (jR λjS oz=>Zab ⟨⟨oz.kind.trans cy.kind,oz.arr.trans cy.arr,oz.pend.trans cy.pend,oz.fail.trans cy.fail⟩,rfl,m2,va⟩)
theorem hi_wp(hL:LtAll prog w A E s Ok ks)(T:Two Ok a b)(ha:0<a.size)(hb:0<b.size){st:SortSt}(hk:kindOf st=ks)(h:∀r z09,SG st z09->Rs a b r->Q r z09):wpS (model prog w) A E s (mD a b) Q st:=by
 rw[Oi];obtain⟨x,x1,x2,x4⟩:=jd T.ka (n:=a.size) ha (zA3 _);refine Zaa (wpS_lift (wpAny_rule ⟨rfl,?_⟩));refine Zaa (bD x1 ?_);have m0:Mh a b #[] a.size b.size:=by unfold Mh;rw[Zal (by rw[zA9];exact zA3 _),Zal (by rw[zA9];exact zA3 _)];simp
 have m:Mh a b #[x] (a.size-1) b.size:=pushA m0 x4;by_cases e1:a.size-1=0;.rw[zAz (by simpa using e1)];exact Zab (h _ st (SG.refl _) (e_d m))
 .rw[zAy (by simpa using e1)];by_cases e2:b.size=1;.rw[zAz (by simpa using e2)];exact Zab (h _ st (SG.refl _) (e_f m))
  .rw[zAy (by simpa using e2)];refine Zaa (wpS_get ?_);refine Zaa (wpS_mono (wpS_forRange (I:=λx c z09=>SG st z09/\c.1=none/\At a b c.2.2.2.1 c.2.1 c.2.2.1/\c.2.1+c.2.2.1+x<a.size+b.size) (Q:=λc z09=>SG st z09/\∃z,c.1=some z/\Rs a b z) ?_ ?_ ⟨SG.refl _,rfl,⟨m,by dsimp only;lia,by dsimp only;lia,by dsimp only;lia,zA3 _⟩,by dsimp only;lia⟩) ?_);.rintro x⟨c0,i,j,o,g⟩z09 _ hx⟨sg,rfl,m',e⟩;dsimp only at m' e⊢;refine wpS_mono (qw hL T (sg.kind.trans hk) sg m') λr st2 h2=>?_;obtain⟨cy,h2⟩:=h2;cases r with|done c=>exact⟨cy,h2⟩;|yield c=>obtain⟨h2,h3,h4⟩:=h2;exact⟨cy,h2,h3,z00⟩
   .rintro c z09⟨sg,h1,m',e⟩;exact absurd e z00
   .rintro⟨c0,i,j,o,g⟩z09⟨sg,z,e,hz⟩;rw[e];exact Zab (h z z09 sg hz)
end
end Hi
open PySem PyProof.Rows
def over(arr:Array Keyed)(n:Nat)(l:List Keyed):Array Keyed:=l.zipIdx.foldl (λa p=>a.setIfInBounds (n+p.2) p.1) arr
theorem Ac:∀(l:List Keyed)j n(arr:Array Keyed),n+j+l.length<=arr.size->(((l.zipIdx j).foldl (λa p=>a.setIfInBounds (n+p.2) p.1) arr).size=arr.size/\∀i,((l.zipIdx j).foldl (λa p=>a.setIfInBounds (n+p.2) p.1) arr)[i]?=if n+j<=i/\i<n+j+l.length then l[i-(n+j)]? else arr[i]?)
 |[],j,n,arr,_=>by refine⟨rfl,λi=>?_⟩;rw[zAy (by rw[List.length_nil];lia)];rfl;|p::l,j,n,arr,h=>by
  rw[zAe]at h;rw[List.zipIdx_cons,List.foldl_cons];obtain⟨h1,h2⟩:=Ac l (j+1) n (arr.setIfInBounds (n+j) p) (by rw[Array.size_setIfInBounds];lia);refine⟨by rw[h1,Array.size_setIfInBounds],λi=>?_⟩;rw[h2 i,zAe,Array.getElem?_setIfInBounds];by_cases e:n+j=i;.subst e;rw[zAy z00,zAz rfl,zAz z00];simp
  .rw[zAy e];by_cases e2:n+(j+1)<=i/\i<n+(j+1)+l.length;.rw[zAz e2,zAz z00,show i-(n+j)=(i-(n+(j+1)))+1 by lia];rfl
   .rw[zAy e2,zAy z00]
theorem Ck(h:n+l.length<=arr.size):(over arr n l).toList=arr.toList.take n++l++arr.toList.drop (n+l.length):=by
 obtain⟨h1,h2⟩:=Ac l 0 n arr z00;refine List.ext_getElem? λi=>?_;rw[Za2];show((l.zipIdx 0).foldl (λa p=>a.setIfInBounds (n+p.2) p.1) arr)[i]?=_;have hl:arr.toList.length=arr.size:=zA9;rw[h2 i,zAf,List.getElem?_append,zAd,hl,show min n arr.size=n by lia,List.getElem?_append];by_cases e1:i<n;.rw[zAy z00,zAz e1,List.getElem?_take,zAz e1,Za2]
 .rw[zAy e1];by_cases e2:i<n+l.length;.rw[zAz z00,zAz z00];rfl
  .rw[zAy z00,zAy z00,List.getElem?_drop,Za2];congr 1;lia
theorem Om(i:Nat):mergeAt' i=(do let s<-get match(pendingOf s)[i]?,(pendingOf s)[i+1]? with
 |some p,some q=>do set (setPending s (((pendingOf s).setIfInBounds i (p.1,p.2.1+q.2.1,p.2.2)).eraseIdxIfInBounds (i+1)))let y<-elem' (arrOf s) q.1 let r<-gZ false y (arrOf s) p.1 p.2.1 0 match r with
   |some k=>if(p.2.1-k==0)=true then pure true else do
 let x<-elem' (arrOf s) (p.1+k+(p.2.1-k)-1)let r<-gZ true x (arrOf s) q.1 q.2.1 (q.2.1-1)
     match r with|some n=>if(n==0)=true then pure true else do
 let m<-if p.2.1-k<=n then mj ((arrOf s).extract (p.1+k) q.1) ((arrOf s).extract q.1 (q.1+n))else mD ((arrOf s).extract (p.1+k) q.1) ((arrOf s).extract q.1 (q.1+n))
       modify λs'=>setArr s' (over (arrOf s') (p.1+k) m.toList)let s'<-get
       pure (failedOf s').isNone|_=>pure false
   |_=>pure false
  |_,_=>liftM (unsupported "internal:list.sort.pending")):=by delta mergeAt';refine bc rfl (funext λs=>?_);generalize e1:(pendingOf s)[i]?=o1;generalize e2:(pendingOf s)[i+1]?=o2;cases o1 with|none=>cases o2<;>rfl;|some p=>cases o2 with|none=>rfl;|some q=>refine bc rfl (funext λu=>bc rfl (funext λy=>bc rfl (funext λr=>?_)));cases r with|none=>rfl;|some k=>refine ic rfl (bc rfl (funext λx=>bc rfl (funext λr=>?_)));cases r with|none=>rfl;|some n=>exact ic rfl (ic (bc rfl (funext λm=>rfl)) (bc rfl (funext λm=>rfl)))
theorem mF{l:List Keyed}(h:t<=n)(hn:n<=l.length):(l.take n).drop t++l.drop n=l.drop t:=by have e:=zBe n l;have:(l.take n++l.drop n).drop t=(l.take n).drop t++l.drop n:=List.drop_append_of_le_length (by rw[zAd];lia);rw[e]at this;exact this.symm
section
theorem Oo(hL:LtAll prog w A E s Ok ks)(h0:∀p∈ae.toList,Ok p){st:SortSt}(B:SB ks ae st)(e1:(pendingOf st)[i]?=some (sa,na,pw))(e2:(pendingOf st)[i+1]?=some (sa+na,nb,NG))(n1:1<=na)(n2:1<=nb)(hz:sa+na+nb<=ae.size)(h:∀z09,SB ks ae z09->pendingOf z09=((pendingOf st).setIfInBounds i (sa,na+nb,pw)).eraseIdxIfInBounds (i+1)->Q true z09):wpS (model prog w) A E s (mergeAt' i) Q st:=by
 rw[Om];refine Zaa (wpS_get ?_);rw[e1,e2];dsimp only;have kA:∀p∈(arrOf st).toList,Ok p:=λp hp=>h0 p ((Zbb.mp B.pm).mem_iff.mp hp);have hsz:(arrOf st).size=ae.size:=B.size;have kR:(arrOf st).toList.length=ae.size:=by rw[zA9,hsz]
 obtain⟨P,eP⟩:∃P,P=((pendingOf st).setIfInBounds i (sa,na+nb,pw)).eraseIdxIfInBounds (i+1):=⟨_,rfl⟩;rw[<-eP]at h⊢;have HG:∀{R:PUnit->SortSt->Prop},R ⟨⟩ (setPending st P)->wpS (model prog w) A E s (set (setPending st P):Sm PUnit) R st:=λhR=>by unfold wpS;rw[StateT.run_set];exact zAx ⟨rfl,hR⟩
 refine Zaa (HG ?_);obtain⟨st1,oB⟩:∃st1,st1=setPending st P:=⟨_,rfl⟩;have k1:kindOf st1=ks:=by rw[oB];exact B.kind
 have a1:arrOf st1=arrOf st:=by rw[oB]
 have p1:pendingOf st1=P:=by rw[oB]
 have f1:failedOf st1=none:=by rw[oB];exact B.ok
 rw[<-oB];have all:SB ks ae st1:=⟨k1,f1,by rw[a1];exact B.pm⟩;obtain⟨y,y1,y2,y4⟩:=item kA (i:=sa+na) z00;refine Zaa (bD y1 ?_);refine Zaa (fV (hL st1 k1) y2 z00 (λj hj=>?_) λk kn=>?_);.obtain⟨p,q1,q2,_⟩:=item kA (i:=sa+j) z00;exact⟨p,q1,q2⟩
 .dsimp only;by_cases HA:na-k=0;.rw[zAz (by simpa using HA)];exact Zab (h st1 all p1)
  .rw[zAy (by simpa using HA)];rw[show sa+k+(na-k)-1=sa+na-1 by lia];obtain⟨x,x1,x2,x4⟩:=item kA (i:=sa+na-1) z00;refine Zaa (bD x1 ?_);refine Zaa (fV (hL st1 k1) x2 z00 (λj hj=>?_) λn nn=>?_);.obtain⟨p,q1,q2,_⟩:=item kA (i:=sa+na+j) z00;exact⟨p,q1,q2⟩
   .dsimp only;by_cases NH:n=0;.rw[zAz (by simpa using NH)];exact Zab (h st1 all p1)
    .rw[zAy (by simpa using NH)];obtain⟨X,eX⟩:∃X,X=(arrOf st).extract (sa+k) (sa+na):=⟨_,rfl⟩;obtain⟨Y,eY⟩:∃Y,Y=(arrOf st).extract (sa+na) (sa+na+n):=⟨_,rfl⟩;rw[<-eX,<-eY];have lX:X.toList=((arrOf st).toList.take (sa+na)).drop (sa+k):=by rw[eX,Hi.ext_cut]
     have lY:Y.toList=((arrOf st).toList.take (sa+na+n)).drop (sa+na):=by rw[eY,Hi.ext_cut]
     have zX:X.size=na-k:=by rw[<-zA9,lX,Zap,zAd,kR];lia
     have zY:Y.size=n:=by rw[<-zA9,lY,Zap,zAd,kR];lia
     have TT:Two Ok X Y:=⟨λp hp=>kA p (by rw[lX]at hp;exact Zbc (Zbd hp)),λp hp=>kA p (by rw[lY]at hp;exact Zbc (Zbd hp))⟩;have fin:∀m st2,SG st1 st2->Rs X Y m->wpS (model prog w) A E s (do
 modify λs'=>setArr s' (over (arrOf s') (sa+k) m.toList)let s'<-get
       pure (failedOf s').isNone) Q st2:=λm st2 sg D=>by
      refine Zaa (wpS_modify (Zaa (wpS_get (Zab ?_))));have ft:(failedOf (setArr st2 (over (arrOf st2) (sa+k) m.toList))).isNone=true:=by show(failedOf st2).isNone=true;rw[sg.fail,f1];rfl
      rw[ft];have am:arrOf st2=arrOf st:=sg.arr.trans a1;have lm:m.toList.length=na-k+n:=by rw[D.length_eq,zA2,zA9,zA9,zX,zY]
      have ol:(over (arrOf st) (sa+k) m.toList).toList=(arrOf st).toList.take (sa+k)++m.toList++(arrOf st).toList.drop (sa+na+n):=by rw[Ck (by rw[lm,hsz];lia),lm,show sa+k+(na-k+n)=sa+na+n by lia]
      have BF:(over (arrOf st) (sa+k) m.toList).toList.Perm (arrOf st).toList:=by
       rw[ol];have e:(arrOf st).toList=(arrOf st).toList.take (sa+k)++(X.toList++Y.toList)++(arrOf st).toList.drop (sa+na+n):=by rw[lX,lY];have c1:=mF (l:=(arrOf st).toList) (t:=sa+na) (n:=sa+na+n) z00 (by rw[kR];lia);have c2:=mF (l:=(arrOf st).toList) (t:=sa+k) (n:=sa+na) z00 (by rw[kR];lia);rw[zAf,zAf,c1,c2,zBe]
       conv=>rhs;rw[e]
       exact List.Perm.append_right _ (List.Perm.append_left _ D)
      refine h _ ⟨sg.kind.trans k1,by show failedOf st2=none;rw[sg.fail,f1],?_⟩ (sg.pend.trans p1);show(over (arrOf st2) (sa+k) m.toList).Perm ae;rw[am];exact(Zbb.mpr BF).trans B.pm
     by_cases hc:na-k<=n;.rw[zAz hc];exact Zaa (Oh hL TT z00 z00 k1 λm st2 sg D=>fin m st2 sg D)
     .rw[zAy hc];exact Zaa (Hi.hi_wp hL TT z00 z00 k1 λm st2 sg D=>fin m st2 sg D)
end
abbrev Run:=Nat×Nat×Nat
def Ch:List Run->Nat->Nat->Prop|[],a,b=>a=b|r::l,a,b=>r.1=a/\1<=r.2.1/\Ch l (a+r.2.1) b
theorem Ch.le:∀{l:List Run}{a b:Nat},Ch l a b->a+l.length<=b|[],a,b,h=>by have h:a=b:=h;simp[h];|r::l,a,b,h=>by have:=Ch.le h.2.2;have:=h.2.1;rw[zAe];lia
theorem Ch.split:∀{l1 l2:List Run}{a b:Nat},Ch (l1++l2) a b↔∃m,Ch l1 a m/\Ch l2 m b
 |[],l2,a,b=>⟨λh=>⟨a,rfl,h⟩,λhZ=>by obtain⟨m,h1,h2⟩:=hZ;rw[h1];exact h2⟩|r::l1,l2,a,b=>by
  constructor;.intro h;obtain⟨m,h1,h2⟩:=Ch.split.mp h.2.2;exact⟨m,⟨h.1,h.2.1,h1⟩,h2⟩
  .rintro⟨m,h1,h2⟩;exact⟨h1.1,h1.2.1,Ch.split.mpr ⟨m,h1.2.2,h2⟩⟩
theorem Cm{p:Array Run}(h:i+1<p.size):((p.setIfInBounds i v).eraseIdxIfInBounds (i+1)).toList=p.toList.take i++v::p.toList.drop (i+2):=by
 have hl:p.toList.length=p.size:=zA9;have e1:(p.setIfInBounds i v).eraseIdxIfInBounds (i+1)=(p.setIfInBounds i v).eraseIdx (i+1) (by rw[Array.size_setIfInBounds];exact h):=by grind
 rw[e1,Array.toList_eraseIdx,Array.toList_setIfInBounds,List.eraseIdx_eq_take_drop_succ,List.take_set,List.drop_set,zAz z00];have e2:p.toList.take (i+1)=p.toList.take i++[p.toList[i]'z00]:=by rw[zAj,zA0 z00];rfl
 rw[e2,List.set_append_right _ _ (by rw[zAd];lia)];rw[zAd,show i-min i p.toList.length=0 by lia];simp
section
structure St(ks:SortKind)(ae:Array Keyed)(st:SortSt)(lo:Nat):Prop where
 base:SB ks ae st
 ch:Ch (pendingOf st).toList 0 lo
 le:lo<=ae.size
theorem wK(hL:LtAll prog w A E s Ok ks)(h0:∀p∈ae.toList,Ok p){st:SortSt}{lo i:Nat}(S:St ks ae st lo)(hi:i+1<(pendingOf st).size)(h:∀z09,St ks ae z09 lo->(pendingOf z09).size+1=(pendingOf st).size->Q true z09):wpS (model prog w) A E s (mergeAt' i) Q st:=by
 have hl:(pendingOf st).toList.length=(pendingOf st).size:=zA9;have d1:(pendingOf st).toList.drop i=(pendingOf st).toList[i]'z00::(pendingOf st).toList.drop (i+1):=Zbe z00;have d2:(pendingOf st).toList.drop (i+1)=(pendingOf st).toList[i+1]'z00::(pendingOf st).toList.drop (i+2):=Zbe z00;have g1:(pendingOf st)[i]?=some ((pendingOf st).toList[i]'z00):=by rw[<-Za2,zA0 z00]
 have g2:(pendingOf st)[i+1]?=some ((pendingOf st).toList[i+1]'z00):=by rw[<-Za2,zA0 z00]
 obtain⟨⟨sa,na,pw⟩,ep⟩:∃r,r=(pendingOf st).toList[i]'z00:=⟨_,rfl⟩;obtain⟨⟨sb,nb,NG⟩,eq⟩:∃r,r=(pendingOf st).toList[i+1]'z00:=⟨_,rfl⟩;rw[<-ep]at d1 g1;rw[<-eq]at d2 g2;have c:=S.ch;rw[<-zBe i (pendingOf st).toList,d1,d2]at c;obtain⟨m,c1,c2⟩:=Ch.split.mp c;obtain⟨q1,q2,q4,q5,q7⟩:=c2;dsimp only at q1 q2 q4 q5 q7;subst q1;subst q4;have lb:=Ch.le q7;refine Oo hL h0 S.base g1 g2 q2 q5 (by have:=S.le;lia) λz09 B' P'=>?_;have pl:(pendingOf z09).toList=(pendingOf st).toList.take i++(sa,na+nb,pw)::(pendingOf st).toList.drop (i+2):=by rw[P',Cm hi]
 refine h z09 ⟨B',?_,S.le⟩ ?_;.rw[pl];refine Ch.split.mpr ⟨sa,c1,rfl,by dsimp only;lia,?_⟩;dsimp only;rw[<-Nat.add_assoc];exact q7
 .rw[<-zA9,pl,zA2,zAe,zAd,Zap];lia
def rest(z lo n:Nat):Sm (ForInStep (Option Unit×Nat)):=do let s<-get match(pendingOf s).back? with
 |some (s1,n1,_)=>do
 let c<-forIn [0:z] ((none,()):Option Unit×Unit) λ_ _=>do let s<-get match(if(pendingOf s).size>1 then(pendingOf s)[(pendingOf s).size-2]? else none)with|some (_,_,older)=>if older<=power' z (2*s1+n1) (2*s1+n1+n1+n) z then pure (ForInStep.done (none,()))else do let b<-mergeAt' ((pendingOf s).size-2)if(!b)=true then pure (ForInStep.done (some (),()))else pure (ForInStep.yield (none,()))|_=>pure (ForInStep.done (none,()))
  match c.1 with|some r=>pure (ForInStep.done (some r,lo))|none=>do modify λs=>setPending s ((pendingOf s).modify ((pendingOf s).size-1) λx=>(x.1,x.2.1,power' z (2*s1+n1) (2*s1+n1+n1+n) z))modify λs=>setPending s ((pendingOf s).push (lo,n,0))pure (ForInStep.yield (none,lo+n))
 |_=>do modify λs=>setPending s ((pendingOf s).push (lo,n,0))pure (ForInStep.yield (none,lo+n))
theorem Ch.pw(f:Run->Run)(hf:∀r,(f r).1=r.1/\(f r).2.1=r.2.1):∀{l:List Run}{a b i:Nat},Ch l a b->Ch (l.modify i f) a b|[],a,b,i,h=>by cases i<;>exact h;|r::l,a,b,0,h=>by obtain⟨e1,e2⟩:=hf r;refine⟨e1.trans h.1,by rw[e2];exact h.2.1,?_⟩;rw[e2];exact h.2.2;|r::l,a,b,i+1,h=>⟨h.1,h.2.1,Ch.pw f hf h.2.2⟩
theorem St.push{st:SortSt}{lo n:Nat}(S:St ks ae st lo)(n1:1<=n)(hn:lo+n<=ae.size):St ks ae (setPending st ((pendingOf st).push (lo,n,0))) (lo+n):=by refine⟨⟨S.base.kind,S.base.ok,S.base.pm⟩,?_,hn⟩;rw[Array.toList_push];exact Ch.split.mpr ⟨lo,S.ch,rfl,n1,rfl⟩
theorem St.pw{st:SortSt}{lo i:Nat}(S:St ks ae st lo)(f:Run->Run)(hf:∀r,(f r).1=r.1/\(f r).2.1=r.2.1):St ks ae (setPending st ((pendingOf st).modify i f)) lo:=by refine⟨⟨S.base.kind,S.base.ok,S.base.pm⟩,?_,S.le⟩;rw[Array.toList_modify];exact S.ch.pw f hf
theorem Ad(hL:LtAll prog w A E s Ok ks)(h0:∀p∈ae.toList,Ok p){st:SortSt}{lo n x:Nat}(S:St ks ae st lo)(n1:1<=n)(hn:lo+n<=ae.size)(hx:x<=lo)(h:∀z09,St ks ae z09 (lo+n)->Q (.yield (none,lo+n)) z09):wpS (model prog w) A E s (rest ae.size lo n) Q st:=by unfold rest;refine Zaa (wpS_get ?_);cases(pendingOf st).back? with|none=>exact Zaa (wpS_modify (Zab (h _ (S.push n1 hn))));|some q=>
  obtain⟨s1,HI,p1⟩:=q;refine Zaa (wpS_mono (wpS_forRange (I:=λ_ c z09=>c=(none,())/\St ks ae z09 lo) (Q:=λc z09=>c=(none,())/\St ks ae z09 lo) ?_ (λ_ _ z=>z) ⟨rfl,S⟩) ?_)
  .rintro y c z09 _ _⟨rfl,S'⟩;refine Zaa (wpS_get ?_);by_cases h1:(pendingOf z09).size>1
   .rw[zAz h1];have hl:(pendingOf z09).size-2<(pendingOf z09).size:=z00;rw[Zau hl];dsimp only;split;.exact Zab ⟨rfl,S'⟩
    .refine Zaa (wK hL h0 S' z00 λst2 S2 _=>?_);exact Zab ⟨rfl,S2⟩
   .rw[zAy h1];exact Zab ⟨rfl,S'⟩
  .rintro c z09⟨rfl,S'⟩;refine Zaa (wpS_modify (Zaa (wpS_modify (Zab (h _ ?_)))));exact(S'.pw (λx=>(x.1,x.2.1,power' ae.size (2*s1+HI) (2*s1+HI+HI+n) ae.size)) λ_=>⟨rfl,rfl⟩).push n1 hn
theorem ifl(c:Prop)[Decidable c](n:Nat):(if c then n-1 else n)<=n:=by split<;>lia
theorem runs_wp(hL:LtAll prog w A E s Ok ks)(h0:∀p∈ae.toList,Ok p){st:SortSt}(B:SB ks ae st)(hp:pendingOf st=#[])(h:∀z09,SB ks ae z09->Q () z09):wpS (model prog w) A E s sortRuns' Q st:=by
 rw[sortRuns'_eq];refine Zaa (wpS_get ?_);dsimp only;rw[B.size];generalize minRun' ae.size ae.size 0=mr;refine Zaa (wpS_mono (wpS_forRange (I:=λx c z09=>c.1=none/\St ks ae z09 c.2/\x<=c.2) (Q:=λc z09=>c.1=none/\St ks ae z09 ae.size) ?_ ?_ ⟨rfl,⟨B,by rw[hp];rfl,zAp _⟩,zA3 _⟩) ?_)
 .rintro x⟨c0,lo⟩z09 _ hx⟨rfl,S,qr⟩;dsimp only at S qr⊢;by_cases kD:lo≥ae.size
  .rw[zAz kD];have e:lo=ae.size:=by have:=S.le;lia
   refine Zab ⟨rfl,?_⟩;rw[<-e];exact S
  .rw[zAy kD];refine Zaa (Ff hL h0 z00 z00 S.base λn st1 G1 n1 n2=>?_);dsimp only;have S1:St ks ae st1 lo:=⟨G1.b,by rw[G1.p];exact S.ch,S.le⟩;have tr:∀{m m':Sm (ForInStep (Option Unit×Nat))}{R:ForInStep (Option Unit×Nat)->SortSt->Prop}{st2:SortSt},m=m'->wpS (model prog w) A E s m' R st2->wpS (model prog w) A E s m R st2:=λe h=>e▸h;by_cases hm:n<mr;.rw[zAz hm];refine Zaa (wpS_lift (wpAny_rule ⟨rfl,?_⟩));refine Zaa (LC hL h0 z00 (Go.refl G1.b) λst2 G2=>?_);rw[zAy z02];refine tr ?_ (Ad (n:=min (ae.size-lo) mr) hL h0 ⟨G2.b,by rw[G2.p];exact S1.ch,S.le⟩ z00 z00 qr λjS S3=>⟨rfl,S3,by dsimp only;lia⟩);.skip;unfold rest;refine bc rfl (funext λs=>?_);cases(pendingOf s).back? with|none=>rfl;|some q=>
      obtain⟨s1,n1,p⟩:=q;refine bc (fi (funext λx=>funext λc=>bc rfl (funext λs=>?_))) (funext λc=>?_);.generalize(if(pendingOf s).size>1 then(pendingOf s)[(pendingOf s).size-2]? else none)=o;cases o with|none=>rfl;|some r=>obtain⟨r1,r2,r3⟩:=r;exact ic rfl (bc rfl (funext λb=>rfl))
      .obtain⟨r,u⟩:=c;cases r<;>rfl
   .rw[zAy hm];refine tr ?_ (Ad (n:=n) hL h0 S1 n1 z00 qr λjS S3=>⟨rfl,S3,by dsimp only;lia⟩);.skip;unfold rest;refine bc rfl (funext λs=>?_);cases(pendingOf s).back? with|none=>rfl;|some q=>
      obtain⟨s1,n1,p⟩:=q;refine bc (fi (funext λx=>funext λc=>bc rfl (funext λs=>?_))) (funext λc=>?_);.generalize(if(pendingOf s).size>1 then(pendingOf s)[(pendingOf s).size-2]? else none)=o;cases o with|none=>rfl;|some r=>obtain⟨r1,r2,r3⟩:=r;exact ic rfl (bc rfl (funext λb=>rfl))
      .obtain⟨r,u⟩:=c;cases r<;>rfl
 .rintro⟨c0,lo⟩z09⟨h1,S,h2⟩;dsimp only at h1 S h2⊢;have e:lo=ae.size:=by have:=S.le;lia
  rw[<-e];exact⟨h1,S⟩
 .rintro⟨c0,lo⟩z09⟨h1,S⟩;dsimp only at h1;subst h1;dsimp only;have p0:(pendingOf z09).size<=ae.size:=by have:=Ch.le S.ch;rw[zA9]at this;lia
  refine Zaa (wpS_mono (wpS_forRange (I:=λx c st2=>c=(none,())/\St ks ae st2 ae.size/\(pendingOf st2).size+x<=ae.size) (Q:=λc st2=>c=(none,())/\St ks ae st2 ae.size/\(pendingOf st2).size<=1) ?_ ?_ ⟨rfl,S,z00⟩) ?_)
  .rintro x c st2 _ hx⟨rfl,S2,kg⟩;refine Zaa (wpS_get ?_);by_cases h1:(pendingOf st2).size<=1;.rw[zAz h1];exact Zab ⟨rfl,S2,h1⟩
   .rw[zAy h1];refine Zaa (wK hL h0 S2 (Nat.lt_of_le_of_lt (Nat.succ_le_succ (ifl _ _)) (show(pendingOf st2).size-2+1<(pendingOf st2).size by lia)) λjS S3 z3=>?_);rw[zAy z02];exact Zab ⟨rfl,S3,z00⟩
  .rintro c st2⟨rfl,S2,kg⟩;exact⟨rfl,S2,z00⟩
  .rintro c st2⟨rfl,S2,kg⟩;exact Zab (h st2 S2.base)
end
end So
namespace L2
open PySem PySem.Spec PyProof.Rows PySem.Calls
section
open PySem.W
theorem Fg:∀{ns ms:WF}{us vs:Qa4}{i:Nat},Vals (ns.map V.int) us->Vals (ms.map V.int) vs->(∀r,Q r s)->KatLex prog w A true (decide (ns.length<ms.length)) Q (us.zip vs) i s
 |[],[],_,_,_,.nil,.nil,h=>h _|[],_::_,_,_,_,.nil,.cons _ _,h=>by refine kat_nil ?_;exact h _;|_::_,[],_,_,_,.cons _ _,.nil,h=>by refine kat_nil ?_;exact h _;|x::ns,y::ms,_,_,i,.cons r1 t1,.cons r2 t2,h=>by
  obtain⟨k1,rfl⟩:=r1;obtain⟨k2,rfl⟩:=r2;refine kat_cons (wpAny_eqBool_int ?_);by_cases e:x=y;.subst e;rw[show(x==x)=true from beq_self_eq_true x];refine kat_yes ?_;have:=Fg (prog:=prog) (w:=w) (A:=A) (i:=i+1) t1 t2 h;rw[show decide ((x::ns).length<(x::ms).length)=decide (ns.length<ms.length)by rw[zAe,zAe];exact decide_eq_decide.mpr z00];exact this
  .rw[show(x==y)=false from beq_false_of_ne e];refine kat_no ?_;cases hi:(true&&i==0)with|true=>exact oneLt_int (h _);|false=>exact kat_one _ _ (lt_int (h _))
theorem Jc{ns ms:WF}(hx:s.heap.get? x=some ox)(dx:ox.data=.seq us.toArray nx)(hy:s.heap.get? y=some oy)(dy:oy.data=.seq vs.toArray ny)(r1:Vals (ns.map V.int) us)(r2:Vals (ms.map V.int) vs)(h:∀r,Q r s):wpAny (model prog w) A (keyLt' (tuples' true) (.ref x) (.ref y)) Q E s:=by refine kat_lt hx dx hy dy ?_;have l1:=r1.length;have l2:=r2.length;rw[zA1]at l1 l2;have:=Fg (prog:=prog) (w:=w) (A:=A) (s:=s) (Q:=Q) (i:=0) r1 r2 h;rw[zA8,zA8,<-l1,<-l2];exact this
theorem Jd{R:Qa4->Prop}(lst:s.heap.IsList l vs.toArray)(fits:vs.length<=sizeLine)(small:vs.length<2->R vs)(big:2<=vs.length->∀g,(∀b o,s.heap.get? b=some o->g.get? b=some o)->wpAny (model prog w) A.in1.in1 (keyKind' vs.toArray) (λκ s1=>s1={s with heap:=g}/\wpS (model prog w) A.in1.in1 (λ_ _=>False) {s with heap:=g} sortRuns' (λ_ st=>failedOf st=none/\∃out,(arrOf st).map (·.2)=List.toArray out/\R out) (SortSt.mk' κ (vs.toArray.zip vs.toArray) #[] 7 none)) (λ_ _=>False) {s with heap:=g})(len:∀out,R out->out.length=vs.length)(fin:∀out,R out->∀h2 c,(∀b o,s.heap.get? b=some o->h2.get? b=some o)->h2.get? (s.heap.objs.size+1)=some (seqObj "list" out.toArray c)->Q (.ref (s.heap.objs.size+1)) {s with heap:=h2}):wpAny (model prog w) A (call (.builtin "sorted") [.ref l]) Q E s:=by
 refine call_function_entry kind_sorted plain_sorted entry_sorted (args_sorted1 _) ?_;unfold Builtin.«sorted»;refine zAt (m:=checkCount "sorted" 1 1 _) (zAx (zAt (collect_list lst ?_ fits)));refine zAt (wpAny_newList ?_ fits);have mh:((s.heap.push (seqObj "list" #[] 0)).update s.heap.objs.size (Obj.mapSeq (·++vs.toArray))).objs.size=s.heap.objs.size+1:=by rw[Heap.size_update,Heap.size_push]
 obtain⟨g1,BG⟩:∃g1,g1=((s.heap.push (seqObj "list" #[] 0)).update s.heap.objs.size (Obj.mapSeq (·++vs.toArray))).push (seqObj "list" vs.toArray 0):=⟨_,rfl⟩;have ml:g1.get? (s.heap.objs.size+1)=some (seqObj "list" vs.toArray 0):=by rw[BG,<-mh];exact zB1 _ rfl
 have Tw:∀b o,s.heap.get? b=some o->g1.get? b=some o:=λb o q=>by have lt:b<s.heap.objs.size:=zB0 q;rw[BG,Heap.get?_push_ne _ _ _ (by rw[mh];exact zB7 (Zba lt)),Heap.get?_update_ne _ _ _ _ (zB7 lt),Heap.get?_push_ne _ _ _ (zB7 lt)];exact q
 show wpAny _ _ _ _ _ {s with heap:=_};rw[mh,show((s.heap.push (seqObj "list" #[] 0)).update s.heap.objs.size (Obj.mapSeq (·++vs.toArray))).push (seqObj "list" vs.toArray 0)=g1 from BG.symm];refine zAt (wpAny_holding (wpAny_call_entry slot_list_sort ⟨_,ml,rfl⟩ entry_list_sort ?body (args_list_sort _)));obtain⟨D,eD⟩:∃D,D=s.heap.objs.size+1:=⟨_,rfl⟩;rw[<-eD]at ml fin⊢;have apart:∀b o,s.heap.get? b=some o->b≠D:=λb o q e=>by have lt:b<s.heap.objs.size:=zB0 q;rw[e,eD]at lt;exact absurd lt (Nat.not_lt_of_le (Zao _))
 obtain⟨g2,HK⟩:∃g2,g2=g1.update D (Obj.mapSeq λ_=>(#[]:Qa5)):=⟨_,rfl⟩;have Tx:Heap.SameBut D g1 g2:=HK▸Heap.SameBut.update g1 D _;obtain⟨e1,at2⟩:∃e1,g2.get? D=some (seqObj "list" #[] e1):=⟨_,HK▸get?_update_seq ml λ_=>#[]⟩;obtain⟨g3,HL⟩:∃g3,g3=(g2.push (seqObj "tuple" vs.toArray 0)).push (seqObj "list" #[] 0):=⟨_,rfl⟩;have yT:g3.get? D=some (seqObj "list" #[] e1):=HL▸zAu _ (zAu _ at2);have vi:∀b o,s.heap.get? b=some o->g3.get? b=some o:=λb o q=>HL▸zAu _ (zAu _ ((Tx.2 b (apart b o q)).trans (Tw b o q)));rw[list_sort_plain];refine zAt (listItems_at ml rfl (zAt (listUpdate_at ml rfl ?_ (by rw[zA8];exact fits) (zAp _))));rw[<-HK];refine zAt (seqEpoch_at at2 rfl (zAt (wpAny_newTuple (zAt (wpAny_newList (wpAny_holding ?_) (zAp _))) fits)));rw[<-HL];dsimp only;by_cases two:vs.toArray.size<2
 .have vj:vs.length<2:=by rw[zA8]at two;exact two
  rw[zAz two,zAz two];refine zAt (zAx ?_);refine zAt (zAx ?_);dsimp only;have em:(vs.toArray.zip vs.toArray).map (·.2)=vs.toArray:=by apply Array.toList_inj.mp;simp only[Array.toList_map,Array.toList_zip];exact List.map_snd_zip (zA3 _)
  rw[em];refine zAt (seqEpoch_at yT rfl (zAt (listUpdate_at yT rfl ?_ (zAp _) (by rw[zA8];lia))));simp only[bne_self_eq_false,Bool.false_eq_true,if_false];have HM:=Heap.SameBut.update g3 D (Obj.mapSeq λ_=>vs.toArray);exact zAx ⟨_,rfl,zAx ⟨_,rfl,fin vs (small vj) _ _ (λb o z=>(HM.2 b (apart b o z)).trans (vi b o z)) (get?_update_seq yT _)⟩⟩
 .have vj:2<=vs.length:=by rw[zA8]at two;lia
  rw[zAy two,zAy two];refine zAt (wpAny_mono (big vj g3 vi) (λκ s1=>?_) λ_ _ x=>x.elim);rintro⟨oB,run⟩;subst oB;refine zAt (wpAny_mono run ?_ λ_ _ x=>x.elim);rintro⟨⟨⟩,st⟩s2⟨TB,NI,out,BH,hR⟩;subst TB;dsimp only at NI BH⊢;rw[BH];refine zAt (seqEpoch_at yT rfl (zAt (listUpdate_at yT rfl ?_ (zAp _) (by rw[zA8,len out hR];lia))));rw[NI];simp only[bne_self_eq_false,Bool.false_eq_true,if_false];have HM:=Heap.SameBut.update g3 D (Obj.mapSeq λ_=>out.toArray);exact zAx ⟨_,rfl,zAx ⟨_,rfl,fin out hR _ _ (λb o z=>(HM.2 b (apart b o z)).trans (vi b o z)) (get?_update_seq yT _)⟩⟩
theorem qx{ads:Qa9}{row:Addr->WF}:∀{l:Qa9},(∀a∈l,∃us o n,g.get? a=some o/\o.cls=.type "tuple"/\o.data=.seq us.toArray n/\Vals ((row a).map V.int) us/\row a≠[])->∃fs,KatTups g (l.map Value.ref) fs/\fs.length=l.length/\∀v∈fs,∃i t,v=.int i t|[],_=>⟨[],.nil,rfl,λ_ h=>absurd h z01⟩|a::l,h=>by obtain⟨us,o,n,h1,h2,h3,h4,h5⟩:=h a (.head _);obtain⟨fs,k,hl,hi⟩:=qx (ads:=ads) (row:=row) (l:=l) λb hb=>h b (.tail _ hb);cases er:row a with|nil=>exact absurd er h5;|cons i r=>rw[er]at h4;cases h4 with|cons r1 t1=>
    obtain⟨t,rfl⟩:=r1;refine⟨_,.cons h1 h2 h3 (f:=.int i t) z01 k,by rw[zAe,zAe,hl],λv hv=>?_⟩;rcases zAo.mp hv with z|z;.exact⟨i,t,z⟩
    .exact hi v z
theorem Je{l:Qa9}{row:Addr->WF}(obj:∀a∈l,∃us o n,s.heap.get? a=some o/\o.cls=.type "tuple"/\o.data=.seq us.toArray n/\Vals ((row a).map V.int) us/\row a≠[])(hl:0<l.length)(h:Q (tuples' true) s):wpAny (model prog w) A (keyKind' (l.map Value.ref).toArray) Q E s:=by obtain⟨fs,kt,fl,fi⟩:=qx (ads:=l) (row:=row) obj;refine PySem.W.kat_kind (T:=.type "int") kt (by rw[fl];exact hl) (λv hv=>?_) z02 h;obtain⟨i,t,rfl⟩:=fi v hv;exact .now
def Oq(l:Qa9)(p:Keyed):Prop:=∃a∈l,p.1=.ref a
theorem yL{row:Addr->WF}(obj:∀a∈l,∃us o n,s.heap.get? a=some o/\o.cls=.type "tuple"/\o.data=.seq us.toArray n/\Vals ((row a).map V.int) us/\row a≠[]):So.LtAll prog w A E s (Oq l) (tuples' true):=λst hk x y Q' kx ky hQ=>by obtain⟨xa,c1,ex⟩:=kx;obtain⟨ya,c2,ey⟩:=ky;obtain⟨ZW,o1,n1,g1,_,d1,r1,_⟩:=obj xa c1;obtain⟨ZX,o2,n2,g2,_,d2,r2,_⟩:=obj ya c2;rw[lt'_eq];refine Zaa (wpS_get ?_);rw[hk,ex,ey];refine Zaa (wpS_lift (wpAny_attempt (Jc g1 d1 g2 d2 r1 r2 λr=>⟨rfl,?_⟩)));exact Zab (hQ r)
theorem wL(l:Qa9):((l.map Value.ref).toArray.zip (l.map Value.ref).toArray).toList=l.map λa=>(Value.ref a,Value.ref a):=by grind
theorem Cp(l:Qa9):∀p∈((l.map Value.ref).toArray.zip (l.map Value.ref).toArray).toList,Oq l p:=λz vn=>by rw[wL]at vn;obtain⟨a,ha,rfl⟩:=zA5.mp vn;exact⟨a,ha,rfl⟩
def Fi(p:Keyed):Addr:=match p.1 with|.ref a=>a|_=>0
theorem Cq{row:Addr->WF}(obj:∀a∈l,∃(us:Qa4)(o:Obj)(n:Nat),s.heap.get? a=some o/\o.cls=.type "tuple"/\o.data=.seq us.toArray n/\Vals ((row a).map V.int) us/\row a≠[])(h:∀st(l':Qa9),failedOf st=none->(arrOf st).map (·.2)=List.toArray (l'.map Value.ref)->l'.Perm l->Q () st):wpS (model prog w) A E s sortRuns' Q (SortSt.mk' (tuples' true) ((l.map Value.ref).toArray.zip (l.map Value.ref).toArray) #[] 7 none):=by
 refine So.runs_wp (ks:=tuples' true) (yL obj) (Cp l) ⟨rfl,rfl,.refl _⟩ rfl λz09 B=>?_;have yY:=Zbb.mp B.pm;rw[wL]at yY;have e:(arrOf z09).toList=((arrOf z09).toList.map Fi).map (λa=>(Value.ref a,Value.ref a)):=by
  rw[zAr];conv=>lhs;rw[<-List.map_id (arrOf z09).toList]
  refine List.map_congr_left λz vn=>?_;obtain⟨a,ha,rfl⟩:=zA5.mp (yY.mem_iff.mp vn);rfl
 have pm:((arrOf z09).toList.map Fi).Perm l:=by have:=yY.map Fi;rw[zAr]at this;rw[show(Fi∘λa=>(Value.ref a,Value.ref a))=id from rfl,List.map_id]at this;exact this
 generalize(arrOf z09).toList.map Fi=l' at e pm;refine h z09 l' B.ok ?_ pm;apply Array.toList_inj.mp;rw[Array.toList_map,e,zAr];rfl
end
section
theorem tR:∀{l:Qa9}{us:Qa4},Vals (l.map V.ref) us->us=l.map Value.ref|[],_,.nil=>rfl|a::l,_,.cons r t=>by rw[tR t,show _=Value.ref a from r];rfl
theorem Ae:∀(l:Qa9),Vals (l.map V.ref) (l.map Value.ref)|[]=>.nil|_::l=>.cons rfl (Ae l)
theorem iD:fK X (.builtin "sorted") (λxs H Q=>∃(p:Addr)(l:Qa9)(row:Addr->WF),xs=[.ref p]/\SqL X.K H p (l.map V.ref)/\(∀a∈l,SqT X.K H a ((row a).map V.int)/\row a≠[])/\∀q(l':Qa9),H q=none->q≠sysModules->l'.Perm l->Q (.ref q) (upd H q (.lst (l'.map V.ref)))):=by
 intro z06 s σ H xs us Q I r h;obtain⟨p,l,row,rfl,hp,vt,q⟩:=h;obtain⟨u,rfl,ru⟩:=vals1 r;cases ru;obtain⟨z08,rv,pl,hz⟩:=I.list hp;have ei:=tR rv;subst ei;have hlen:(l.map Value.ref).length<=sizeLine:=by rw[zA1]at hz⊢;exact hz
 have obj:∀a∈l,∃(us:Qa4)(o:Obj)(n:Nat),s.heap.get? a=some o/\o.cls=.type "tuple"/\o.data=.seq us.toArray n/\Vals ((row a).map V.int) us/\row a≠[]:=λa ha=>by obtain⟨ht,fy⟩:=vt a ha;obtain⟨as,ra,pa,_⟩:=I.tuple ht;obtain⟨oa,ga,ca,na,da⟩:=pa;exact⟨as,oa,na,ga,ca,da,ra,fy⟩
 refine Jd (R:=λout=>∃l':Qa9,out=l'.map Value.ref/\l'.Perm l) pl.isList hlen (λhs=>⟨l,rfl,.refl _⟩) (λhb g kp=>?_) (λout⟨l',e,pm⟩=>by rw[e,zA1,zA1,pm.length_eq]) λout⟨l',e,pm⟩h2 c vv at2=>?_
 .have BI:∀a∈l,∃(us:Qa4)(o:Obj)(n:Nat),g.get? a=some o/\o.cls=.type "tuple"/\o.data=.seq us.toArray n/\Vals ((row a).map V.int) us/\row a≠[]:=λa ha=>by obtain⟨us,o,n,h1,h2⟩:=obj a ha;exact⟨us,o,n,kp _ _ h1,h2⟩
  refine Je (s:={s with heap:=g}) BI (by rw[zA1]at hb;lia) ?_;refine⟨rfl,Cq (s:={s with heap:=g}) BI λst l' e1 e2 e3=>⟨e1,l'.map Value.ref,e2,l',rfl,e3⟩⟩
 .subst e;exact⟨.ref (s.heap.objs.size+1),_,I.laid (t':=s.toks) vv (Zao _) (show ObjOk X.prog X.w _ h2 _ (.lst (l'.map V.ref))from⟨by rw[zA1,pm.length_eq];rw[zA1]at hz;exact hz,_,c,Ae l',at2⟩),rfl,q _ l' (I.hok.fresh (Zao _)) (Zam (zB3 I.big (Zao _))) pm⟩
theorem uR:fK X (.builtin "sorted") (λxs H Q=>∃(p:Addr)(l:Qa9)(row:Addr->WF),xs=[.ref p]/\SqL X.K H p (l.map V.ref)/\(∀a∈l,SqT X.K H a ((row a).map V.int)/\row a≠[])/\∀q(l':Qa9),H q=none->l'.Perm l->Q (.ref q) (upd H q (.lst (l'.map V.ref)))):=by intro z06 s σ H xs us Q I r h;obtain⟨p,l,row,e,hp,vt,q⟩:=h;exact iD z06 s σ H xs us Q I r ⟨p,l,row,e,hp,vt,λq' l' a _ b=>q q' l' a b⟩
end
theorem Cr(ha:s.TypeIs a "list")(hb:s.TypeIs b "list")(hc:wpAny M A (call (.builtin "list.__iadd__") [a,b]) Q E s):wpAny M A (inplaceOp .Add a b) Q E s:=by
 unfold inplaceOp;refine wpAny_holding ?_;have hl:typeLookup (.type "list") (dunderI "add")=pure (some (.builtin "list.__iadd__")):=F.slot_list_iadd.lookup;have TC:fillsInplaceSlot (.type "list") "add" (Operator.Add==.Add)=pure false:=by
  unfold fillsInplaceSlot;show(typeLookup (.type "list") (dunderI "add")>>=λfi=>pure (fi.isSome&&!isSeqSlot fi))=pure false;rw[hl];have:isSeqSlot (some (.builtin "list.__iadd__"))=true:=by decide+kernel
  show(pure (true&&!isSeqSlot (some (.builtin "list.__iadd__"))):Sem Bool)=_;rw[this];rfl
 have TF:seqSlot? (.type "list") (dunderI "add")=pure (some (.builtin "list.__iadd__")):=PySem.seqSlot_of F.slot_list_iadd.lookup z04;refine zAt (wpAny_typeOf ha (zAt (wpAny_of_eq TC ?_)));show wpAny M A (if false=true then _ else _) Q E s;rw[zAy zAg];refine zAt (wpAny_binaryOp1_none (nm:="add") ha hb noFill_list_add ?_);refine zAt (wpAny_of_eq TF ?_);exact zAt (wpAny_rule hc)
inductive RICatI(x:V)(y:V)(H:Hp)(Q:VK):Prop|mk:∀l b xs zs,(x=.ref l)->(y=.ref b)->(H l=some (.lst xs))->(H b=some (.lst zs))->(xs.length+zs.length<=sizeLine)->(Q (.ref l) (upd H l (.lst (xs++zs))))->RICatI  x y H Q
def Ot:TIp:=λx y H Q=>RICatI  x y H Q
theorem nP:PIp X .Add Ot:=by
 intro z06 s σ H x y v u Q I rx ru h;obtain⟨l,b,xs,zs,rfl,rfl,hH,hB,hz,q⟩:=h;cases rx;cases ru;obtain⟨z,z08,n,r,hl,e⟩:=I.lstM hH;obtain⟨z2,bX,n2,r2,fF,e2⟩:=I.lstM hB;have hsz:z08.toArray.size+bX.toArray.size<=sizeLine:=by rw[zA8,zA8];lia
 have fh:¬(!z08.toArray.isEmpty&&Builtin.List.listTooLong (z08.toArray.size+bX.toArray.size))=true:=by rw[lH hsz,Bool.and_false];exact zAg
 refine Cr ⟨_,e,rfl⟩ ⟨_,e2,rfl⟩ (call_meets F.slot_list_iadd ⟨_,e,rfl⟩ F.entry_list_iadd (F.args_list_iadd_2 _ _) (AutoSeq1.list___iadd___list_list_0 l z08.toArray n b bX.toArray n2 fh (by rw[zA8];lia) z00) ⟨e,e2,?_⟩);refine⟨.ref l,_,I.lset (its':=z08++bX) hH e z01 (r.append r2) ?_,rfl,q⟩;rw[zA2];lia
structure Fly(h:Heap)(e:Addr)(C tb:Value):Prop where
 obj:∃oe vs,h.get? e=some oe/\oe.cls=C/\oe.data=.fields vs/\vs[1]?=some tb/\oe.dict=none
 tr:tb=.none\/∃T oT ts,tb=.ref T/\T≠e/\h.get? T=some oT/\oT.data=.fields ts/\ts[3]?=some .none
theorem Cu(f:Qa5->Qa5)(o:Obj):(Obj.mapFields f o).dict=o.dict:=by unfold Obj.mapFields;split<;>rfl
section
theorem wM(kS:A.frames=some (env::outer))(hl:s.heap.FunFrames base (env::outer))(hf:env.frame=some L)(he:s.heap.get? e=some oe)(hd:oe.data=.fields vs)(hz:1<vs.size)(mm:oe.dict=none)(h:∀h' T,s.heap.get? T=none->Fly h' e oe.cls (.ref T)->(∀b o,s.heap.get? b=some o->b≠e->b∉frs (env::outer)->h'.get? b=some o)->(∀b o,s.heap.get? b=some o->b≠e->∃sl,h'.get? b=some {o with slots:=sl})->Q () {s with heap:=h'}):wpAny M A (do let a<-frameOf env;let pl<-entryPlaceOf L oC;let b<-EntryCells.newEntry head a .none (rawInt L) .none pl;setField (.ref e) 1 b) (λ_ s'=>wpAny M A (setFlight (.ref e) none) Q E s') E s:=by
 have ne:e∉frs (env::outer):=λhm=>by obtain⟨_,o,ho,hn⟩:=hl.mem hm;rw[he]at ho;cases ho;exact hn vs hd
 refine zAt (wpAny_frameOf_fun kS hl hf λh1 EN=>?_);have e1:h1.get? e=some oe:=(EN.2.1 e ne).trans he;refine zAt (wpAny_entryPlaceOf λpl fx=>?_);unfold EntryCells.newEntry newFields;refine zAt (Zac ?_ (fx.sizeOk5 _ _ _ _ _));obtain⟨fs,NJ⟩:∃fs,fs=([head,.ref L,.none,rawInt L,.none]++(if pl.isEmpty then List.replicate 6 Value.none else pl)).toArray:=⟨_,rfl⟩;have fz:3<fs.size:=by rw[NJ,zA8,zA2];show 3<5+_;lia
 rw[<-NJ];obtain⟨h2,EO⟩:∃h2,h2=h1.push {cls:=.type "traceback",dict:=none,data:=.fields fs}:=⟨_,rfl⟩;have nT:h1.objs.size≠e:=Zam (zB0 e1);have t2:h2.get? h1.objs.size=some {cls:=.type "traceback",dict:=none,data:=.fields fs}:=by rw[EO];exact zB1 h1 rfl
 have k2:∀b o,h1.get? b=some o->h2.get? b=some o:=λb o z=>by rw[EO];exact zAu _ z
 refine wpAny_setField (s:={s with heap:=h1.push {cls:=.type "traceback",dict:=none,data:=.fields fs}}) (by rw[<-EO];exact k2 _ _ e1) hd hz ?_;rw[<-EO];obtain⟨h3,NM⟩:∃h3,h3=h2.update e (Obj.mapFields (·.setIfInBounds 1 (Value.ref h1.objs.size))):=⟨_,rfl⟩;have d3:=Obj.data_mapFields hd (·.setIfInBounds 1 (Value.ref h1.objs.size));have g3:=Heap.get?_update_self (Obj.mapFields (·.setIfInBounds 1 (Value.ref h1.objs.size))) (k2 _ _ e1) (Obj.isFreed_of_fields d3);have o3:∀b,b≠e->h3.get? b=h2.get? b:=λb hb=>by rw[NM];exact Heap.get?_update_other _ _ (Ne.symm hb)
 rw[<-NM]at g3⊢;unfold setFlight;have v1:(vs.setIfInBounds 1 (Value.ref h1.objs.size))[1]?=some (.ref h1.objs.size):=by simp[hz]
 refine zAt (wpAny_field (s:={s with heap:=h3}) g3 d3 v1 ?_);have t3:h3.get? h1.objs.size=some {cls:=.type "traceback",dict:=none,data:=.fields fs}:=(o3 _ nT).trans t2;refine wpAny_setField (s:={s with heap:=h3}) t3 rfl fz ?_;have kk:∀b o,b≠e->h1.get? b=some o->(h3.update h1.objs.size (Obj.mapFields (·.setIfInBounds 3 ((none:Option Addr).elim Value.none λf=>rawInt f)))).get? b=some o:=λb o hb z=>by rw[Heap.get?_update_other _ _ (Zam (zB0 z)),o3 b hb];exact k2 b o z
 refine h _ h1.objs.size ?_ ⟨⟨_,_,?_,Obj.cls_mapFields _ _,d3,v1,(Cu _ _).trans mm⟩,.inr ⟨h1.objs.size,_,_,rfl,nT,Heap.get?_update_self _ t3 (Obj.isFreed_of_fields (Obj.data_mapFields rfl _)),Obj.data_mapFields rfl _,by simp[fz]⟩⟩ (λb o z hb hn=>?_) λb o z hb=>?_;.cases z:s.heap.get? h1.objs.size with|none=>rfl;|some o=>obtain⟨sl,q⟩:=EN.2.2 _ o z;exact absurd (zB0 q) (Zaj _)
 .rw[Heap.get?_update_other _ _ nT];exact g3
 .exact kk b o hb ((EN.2.1 b hn).trans z)
 .obtain⟨sl,q⟩:=EN.2.2 b o z;exact⟨sl,kk b _ hb q⟩
theorem Af(kS:A.frames=some (env::outer))(hl:s.heap.FunFrames base (env::outer))(hf:env.frame=some L)(fl:Fly s.heap e C tb)(h:∀h' T,s.heap.get? T=none->Fly h' e C (.ref T)->(∀b o,s.heap.get? b=some o->b≠e->tb≠.ref b->b∉frs (env::outer)->h'.get? b=some o)->(∀b o,s.heap.get? b=some o->b≠e->tb≠.ref b->∃sl,h'.get? b=some {o with slots:=sl})->(∀b o,s.heap.get? b=some o->∃o',h'.get? b=some o')->Q () {s with heap:=h'}):wpAny M A (noteFrame (.ref e) env) (λ_ s'=>wpAny M A (setFlight (.ref e) none) Q E s') E s:=by
 obtain⟨⟨oe,vs,he,rfl,hd,h1,mm⟩,tr⟩:=fl;have hz:=(Array.getElem?_eq_some_iff.mp h1).1;unfold noteFrame;simp only[hf];refine zAt (wpAny_field he hd h1 ?_);rcases tr with rfl|⟨T0,oT,ts,rfl,nT,hT,nr,h3⟩
 .rw[zAy z02];refine wM kS hl hf he hd hz mm λh' T nT iS k1 k2=>h h' T nT iS (λb o z hb _ hn=>k1 b o z hb hn) (λb o z hb _=>k2 b o z hb) λb o z=>?_;by_cases hb:b=e;.obtain⟨HP,_,q,_⟩:=iS.obj;exact⟨HP,hb▸q⟩
  .obtain⟨sl,q⟩:=k2 b o z hb;exact⟨_,q⟩
 .rw[zAz (show(Value.ref T0 !=Value.none)=true by simp)];refine zAt (wpAny_field hT nr h3 ?_);refine zAt (wpAny_setField hT nr (Array.getElem?_eq_some_iff.mp h3).1 ?_);obtain⟨g,eg⟩:∃g,g=s.heap.update T0 (Obj.mapFields (·.setIfInBounds 3 Value.none)):=⟨_,rfl⟩;have og:∀b,b≠T0->g.get? b=s.heap.get? b:=λb hb=>by rw[eg];exact Heap.get?_update_other _ _ (Ne.symm hb)
  have tg:∃o,g.get? T0=some o:=⟨_,by rw[eg];exact Heap.get?_update_self _ hT (Obj.isFreed_of_fields (Obj.data_mapFields nr _))⟩;have fF:g.FunFrames base (env::outer):=hl.of_keeps λb o z hn=>⟨o,(og b λq=>by rw[q,hT]at z;cases z;exact hn ts nr).trans z,rfl⟩;rw[<-eg];refine wM (s:={s with heap:=g}) kS fF hf ((og e (Ne.symm nT)).trans he) hd hz mm λh' T BM iS k1 k2=>h h' T ?_ iS (λb o z hb ht hn=>k1 b o ((og b λq=>ht (by rw[q])).trans z) hb hn) (λb o z hb ht=>k2 b o ((og b λq=>ht (by rw[q])).trans z) hb) λb o z=>?_
  .have BM:g.get? T=none:=BM;by_cases q:T=T0;.obtain⟨o,e⟩:=tg;rw[q,e]at BM;cases BM
   .rw[<-og T q];exact BM
  .by_cases hb:b=e;.obtain⟨HP,_,q,_⟩:=iS.obj;exact⟨HP,hb▸q⟩
   .obtain⟨o2,e2⟩:∃o2,g.get? b=some o2:=by grind
    obtain⟨sl,q⟩:=k2 b o2 e2 hb;exact⟨_,q⟩
theorem wN(kS:A.frames=some (env::outer))(hl:s.heap.FunFrames base (env::outer))(hf:env.frame=some L)(fl:Fly s.heap e C tb)(h:∀h' T,s.heap.get? T=none->Fly h' e C (.ref T)->(∀b o,s.heap.get? b=some o->b≠e->tb≠.ref b->b∉frs (env::outer)->h'.get? b=some o)->(∀b o,s.heap.get? b=some o->b≠e->tb≠.ref b->∃sl,h'.get? b=some {o with slots:=sl})->(∀b o,s.heap.get? b=some o->∃o',h'.get? b=some o')->Q () {s with heap:=h'}):wpAny M A (leaving env (.ref e)) Q E s:=by exact zAt (Af kS hl hf fl h)
end
theorem ObjOk.there(x:ObjOk P w H h a o):∃ob,h.get? a=some ob:=by cases o with|lst xs=>obtain⟨_,_,_,_,e⟩:=x;exact⟨_,e⟩;|tup xs=>obtain⟨_,_,_,ob,e,_⟩:=x;exact⟨_,e⟩;|dK z07=>obtain⟨_,_,_,_,o,_,_,e,_⟩:=x;exact⟨_,e⟩;|dT z07=>obtain⟨_,_,_,_,o,_,_,e,_⟩:=x;exact⟨_,e⟩;|set S n=>obtain⟨o,_,_,_,e,_⟩:=x;exact⟨_,e⟩;|ins C dx fs=>obtain⟨_,_,_,e,_⟩:=x;exact⟨_,e⟩;|own y=>exact x;|xd fs=>obtain⟨_,⟨_,_,_,e,_⟩,_⟩:=x;exact⟨_,e⟩;|rng lo hi=>obtain⟨_,_,_,e⟩:=x;exact⟨_,e⟩;|frz ob u=>obtain⟨e,_⟩:=x;exact⟨_,e⟩;|tbl ps=>exact⟨_,(x)⟩;|met f y=>exact⟨_,(x)⟩;|ext φ=>obtain⟨_,e,_⟩:=x;exact e
theorem HOk.no(x:HOk P w H h)(e:h.get? a=none):H a=none:=by cases q:H a with|none=>rfl;|some o=>obtain⟨ob,z⟩:=(x a o q).there;rw[e]at z;cases z
def wO(X:Cx)(EX:Addr->Addr->Hp->Prop):Prop:=∀z06(σ:St)H s a C tb,Inv X z06 σ H s->Fly s.heap a (.ref C) tb->X.s₀.heap.get? a=none->H a=none->(∀T,tb=.ref T->X.s₀.heap.get? T=none/\H T=none)->(∀p∈X.pn++z06,p.1≠a/\tb≠.ref p.1)->EX a C H->X.xe (.ref a) s
def CX1(P:Program)(w:World):CXT:=λouter H s E e s'=>∃a C H' T,e=.ref a/\s'.os=s.os/\AllBare s'.gens/\Un (frs outer) [] H H' s.heap s'.heap/\HOk P w H' s'.heap/\s.heap.get? a=none/\s.heap.get? T=none/\H' a=none/\H' T=none/\Fly s'.heap a (.ref C) (.ref T)/\E (.ref a) (some C) H'
section
theorem Inv.was{σ:St}(I:Inv X z06 σ H s)(hx:X.ex=[])(e:s.heap.get? a=none):X.s₀.heap.get? a=none:=by cases q:X.s₀.heap.get? a with|none=>rfl;|some o=>obtain⟨o',z⟩:=I.base.there a o q (by rw[hx];simp);rw[e]at z;cases z
theorem Kp(W:wO X λa C H=>E (.ref a) (some C) H)(hx:X.ex=[]):ut (CX1 X.prog X.w) X E:=by intro z06 σ H s e s' I h;obtain⟨a,C,H',T,rfl,os,bare,un,hok,na,nT,fa,fT,fl,q⟩:=h;have J:Inv X z06 σ H' s':=I.call' os un hok bare λb z=>absurd z z01;refine W z06 σ H' s' a C (.ref T) J fl (I.was hx na) fa (λT' eT=>by cases eT;exact⟨I.was hx nT,fT⟩) (λp hp=>?_) q;obtain⟨e,_⟩:=I.pin p hp;exact⟨λz=>(by rw[z,na]at e;cases e),λz=>(by cases z;rw[nT]at e;cases e)⟩
def LK(C:Addr)(EX:Addr->Addr->Hp->Prop)(t:TA):TS:=λ_ σ H=>t σ H λvs H1=>vs.length<=sizeLine/\∀a,H1 a=none->EX a C H1
theorem wQ{np bP pos:Pos}(O:OwnCls x C bm newId X.mg X.base)(FB:ExcBaseFacts B newId vw bm)(hc:X.calm=true)(hx:X.ex=[])(hg:Gl X x)(ha:PA X (e::es) t)(W:wO X EX)(fE:Qad x:=by decide)(he:Qab X e es:=by rfl)(fx:Qac X bP es:=by rfl):PS X (.Raise (some (.Call (.Name x np) (e::es) [] bP)) none pos) (LK C EX t):=by intro z06 s σ H D I h;obtain⟨tl,N,nm,q,bs,hdct,sn,sub,ab,col,dd,k0,k1,k2,k3,k5,mN,hC,hN,ER,T⟩:=O.obj;refine wpAny_Raise_call_subT (C:=C) (nm:=nm) (q:=q) (N:=N) (bs:=bs) (bm:=tl) (hdct:=hdct) (sn:=sn) (sub:=sub) (ab:=ab) (col:=col) (dd:=dd) (k0:=k0) (k1:=k1) (k2:=k2) (k3:=k3) (k5:=k5) FB (mN:=mN) (T.hasType FB.hasBase) (I.ok.hd hc) (by rw[he];show(false||(backTo bP (starEach es X.env)).any (·.1))=false;rw[fx];rfl) ER ?_;refine jL I hg O.bound ⟨rfl,?_⟩ fE;have h2:=ha bP z06 s σ H _ I h;rw[he]at h2⊢;refine Calls.evalArgs_plain (wpAny_mono h2 (λus s2 z=>?_) λ_ _ y=>y);obtain⟨vs,H1,I1,r1,hl,q1⟩:=z;have hlen:=r1.length;refine⟨rfl,by show us.length<=_;lia,I1.bk _ _ hC,hN.keeps I1.bk,T.keeps I1.bk,λh' a me=>?_⟩;obtain⟨tt,e1,e2,e3⟩:=me.there;have J:Inv X z06 σ H1 {s2 with heap:=h'}:=I1.kept (t':=s2.toks) me.keeps;have fl:Fly h' a (.ref C) .none:=⟨⟨_,_,e1,rfl,rfl,rfl,rfl⟩,.inl rfl⟩;refine W z06 σ H1 _ a C .none J fl (I1.was hx me.new) (I1.hok.no me.new) (λT z=>by cases z) (λp hp=>?_) (q1 a (I1.hok.no me.new));obtain⟨e,_⟩:=I1.pin p hp;exact⟨λz=>(by rw[z,me.new]at e;cases e),λz=>(by cases z)⟩
end
theorem eU{K:Frag}:wO (jr (CX1 P w) P w K mg base N qual scope f cd A outer s H E) λa C H'=>E (.ref a) (some C) H':=by
 intro z06 σ H' s' a C tb I fl na fa ft _ q;have dP:s'.heap.FunFrames base (envOfC qual scope s.heap.objs.size f cd::outer):=I.stack;have kS:(A.deeper (envOfC qual scope s.heap.objs.size f cd)).frames=some (envOfC qual scope s.heap.objs.size f cd::outer):=I.ok.frames;have vx:(envOfC qual scope s.heap.objs.size f cd).frame=some s.heap.objs.size:=by rfl
 have ub:Un (frs outer) [] H H' s.heap s'.heap:=I.base;have na:s.heap.get? a=none:=na;have ft:∀T,tb=.ref T->s.heap.get? T=none/\H' T=none:=ft;refine wN kS dP vx fl λh' T nT iS k1 k2 k3=>?_;have apart:∀b o,s.heap.get? b=some o->b≠a/\tb≠.ref b:=λb o e=>⟨λz=>(by rw[z,na]at e;cases e),λz=>(by rw[(ft b z).1]at e;cases e)⟩;have HU:∀b o,s.heap.get? b=some o->b∉frs outer->b∉frs (envOfC qual scope s.heap.objs.size f cd::outer):=λb o e hn hm=>by
  unfold frs at hm;rw[Za4,vx]at hm;rcases zAo.mp hm with z|z;.exact absurd (zB0 e) (by rw[z];exact Zaj _)
  .exact hn z
 refine⟨a,C,H',T,rfl,I.os,I.bare,⟨λb o e n hb _=>?_,λb o e n hb _=>?_,ub.free,λb o e hx=>?_,ub.tups,ub.frzs,ub.tbls⟩,λc o e=>?_,na,?_,fa,I.hok.no nT,iS,q⟩;.exact k1 b o (ub.keep b o e n hb z01) (apart b o e).1 (apart b o e).2 (HU b o e hb)
 .obtain⟨sl,e1⟩:=ub.slot b o e n hb z01;obtain⟨kB,e2⟩:=k2 b _ e1 (apart b o e).1 (apart b o e).2;exact⟨kB,e2⟩
 .obtain⟨o',e1⟩:=ub.there b o e hx;exact k3 b o' e1
 .refine(I.hok c o e).stay (λd v hd z=>?_) (λ_ z=>z) λ_ _ z=>z;have BN:∃o',H' d=some o':=by grind
  obtain⟨o',eo⟩:=BN;refine k1 d v z (λy=>(by rw[y,fa]at eo;cases eo)) (λy=>(by rw[(ft d y).2]at eo;cases eo)) λhm=>?_;rw[I.stkFree d hm]at eo;cases eo
 .exact I.was rfl nT
theorem Fun.okX{K:Frag}{st:Stmt}{f:Addr}{fd:FuncData}{N ps:Qa7}{k:Nat}{sp:Sp}(F:Fun K x qual st f fd)(S:FnScope N ps (aC st))(len:∀vs H Q E,sp vs H Q E->vs.length=ps.length)(aS:∀af A outer s H vs Q E,Room k (A.deeper (envOfC qual (aC st) s.heap.objs.size f af))->sp vs H Q E->∃t,PSs (jr (CX1 P w) P w K mg base N qual (aC st) f af A outer s H E) (cV st) t/\t {nx:=λ_ H'=>Q .non H',rt:=Q} (start N vs) H):FnOk P w K mg base (CX1 P w) (k+1) f fd ps sp:=by obtain⟨oc,od,kV,doc,pm,an,af,ct,kP,rfl,lk,ff⟩:=F.ex;exact DR lk ff S len λA outer s H vs Q E hr iO=>aS af A outer s H vs Q E hr iO
theorem Fun.oqX{K:Frag}{st:Stmt}{f:Addr}{fd:FuncData}{N ps:Qa7}{k:Nat}{sp:Sp}(F:Fun K x qual st f fd)(S:FnScope N ps (aC st))(aS:∀af A outer s H vs Q E,Room k (A.deeper (envOfC qual (aC st) s.heap.objs.size f af))->sp vs H Q E->∃t,PSs (jr (CX1 P w) P w K mg base N qual (aC st) f af A outer s H E) (cV st) t/\t {nx:=λ_ H'=>Q .non H',rt:=Q} (start N vs) H)(len:LenOk sp ps:=by exact{}):FnOk P w K mg base (CX1 P w) (k+1) f fd ps sp:=F.okX S len.h aS
theorem Fj{K:Frag}(X:K.In h)(hm:mg x=some (.ref C))(q:PySem.W.excIn K C NN newId=true):OwnCls x C NN newId mg h:=by
 refine⟨hm,?_⟩;unfold PySem.W.excIn at q;split at q
 .rename_i dd cd sl ho;split at q;.rename_i C' bm k0 k1 k2 k3 n k5 yy hs;simp only[Bool.and_eq_true,beq_iff_eq,Bool.not_eq_true']at q;obtain⟨⟨⟨⟨⟨rfl,rfl⟩,BO⟩,ht⟩,hok⟩,ER⟩:=q;obtain⟨nm,bs,mro,ns,qn,hd,sn,sub,ab,col,del⟩:=cd;dsimp only at yy BO hok ER;subst yy BO;obtain⟨l⟩:=sl;subst hs;exact⟨bm,ns,nm,qn,bs,hd,sn,sub,ab,col,dd,k0,k1,k2,k3,k5,_,X _ _ ho,.of_isNs (PySem.W.isNs_of_in X hok),PySem.W.nsMap_none_of_in X hok ER,PySem.W.tail_of_in X ht⟩
  .cases q
 .cases q
section
variable{σ:St}
theorem Fly.ne(fl:Fly h a C tb)(e:h.get? b=some o)(hd:∀vs,o.data≠.fields vs):b≠a/\tb≠.ref b:=by
 obtain⟨⟨oe,vs,he,_,hv,_,_⟩,tr⟩:=fl;refine⟨λz=>?_,λz=>?_⟩;.rw[z,he]at e;cases e;exact hd vs hv
 .rcases tr with q|⟨T,oT,ts,q,_,hT,nr,_⟩;.rw[q]at z;cases z
  .rw[q]at z;cases z;rw[hT]at e;cases e;exact hd ts nr
theorem Inv.left(I:Inv X z06 σ H s)(hx:X.ex=[])(fl:Fly s.heap a C tb)(na:X.s₀.heap.get? a=none)(fa:H a=none)(ft:∀T,tb=.ref T->X.s₀.heap.get? T=none/\H T=none)(hp:∀p∈X.pn++z06,p.1≠a/\tb≠.ref p.1)(k1:∀b o,s.heap.get? b=some o->b≠a->tb≠.ref b->b∉frs X.stack->h'.get? b=some o)(k2:∀b o,s.heap.get? b=some o->b≠a->tb≠.ref b->∃sl,h'.get? b=some {o with slots:=sl})(k3:∀b o,s.heap.get? b=some o->∃o',h'.get? b=some o'):Inv X z06 σ H {s with heap:=h',toks:=t'}:=by
 have tr:∀b u,H b=some u->b≠a/\tb≠.ref b/\b∉frs X.stack:=λb u e=>⟨λz=>(by rw[z,fa]at e;cases e),λz=>(by rw[(ft b z).2]at e;cases e),λz=>(by rw[I.stkFree b z]at e;cases e)⟩;have old:∀b o,X.s₀.heap.get? b=some o->b≠a/\tb≠.ref b:=λb o e=>⟨λz=>(by rw[z,na]at e;cases e),λz=>(by rw[(ft b z).1]at e;cases e)⟩;have Ee:∀b o,X.s₀.heap.get? b=some o->b≠X.env.locals:=λb o e=>zB7 (zB3 (zB0 e) I.ok.above);have NO:∀b,b≠X.env.locals->b∉X.fs->b∉frs X.stack:=λb h1 h2 z=>(zAo.mp (I.stkSub b z)).elim h1 h2;have cellK:∀x c,X.env.cells.lookup x=some c->∀v,s.heap.IsCell c v->h'.IsCell c v:=λx c e v hZ=>by
  obtain⟨o,ho,hd⟩:=hZ;obtain⟨n1,n2⟩:=fl.ne ho λvs q=>by rw[hd]at q;cases q
  obtain⟨sl,q⟩:=k2 c o ho n1 n2;exact⟨_,q,hd⟩
 refine⟨I.ok,I.os,I.bare,⟨λb o e n hb dQ=>?_,λb o e n hb dQ=>?_,I.base.free,λb o e dQ=>?_,I.base.tups,I.base.frzs,I.base.tbls⟩,?_,λx c e=>?_,I.free,I.freeC,λp iX=>?_,λc o e=>?_,I.len⟩;.exact k1 b o (I.base.keep b o e n hb dQ) (old b o e).1 (old b o e).2 (NO b (Ee b o e) hb)
 .obtain⟨sl,e1⟩:=I.base.slot b o e n hb dQ;obtain⟨kB,e2⟩:=k2 b _ e1 (old b o e).1 (old b o e).2;exact⟨kB,e2⟩
 .obtain⟨o',e1⟩:=I.base.there b o e dQ;exact k3 b o' e1
 .obtain⟨m,⟨o,es,ep,ho,hd,r⟩,hl⟩:=I.loc;obtain⟨n1,n2⟩:=fl.ne ho λvs q=>by rw[hd]at q;cases q
  obtain⟨sl,q⟩:=k2 _ o ho n1 n2;refine⟨m,⟨_,es,ep,q,hd,r⟩,λi x v e1 e2 e3=>?_⟩;obtain⟨u,rr,l⟩:=hl i x v e1 e2 e3;refine⟨u,rr,?_⟩;rcases l with l|⟨k,c,e,z⟩;.exact .inl l
  .exact .inr ⟨k,c,e,cellK x c e _ z⟩
 .obtain⟨v,z⟩:=I.cell x c e;exact⟨v,cellK x c e v z⟩
 .obtain⟨e,n,ne,nf,d⟩:=I.pin p iX;exact⟨k1 p.1 p.2 e (hp p iX).1 (hp p iX).2 (NO p.1 ne nf),n,ne,nf,d⟩
 .refine(I.hok c o e).stay (λd v hd z=>?_) (λ_ z=>z) λ_ _ z=>z;have BN:∃o',H d=some o':=by grind
  obtain⟨o',eo⟩:=BN;obtain⟨t1,t2,t3⟩:=tr d o' eo;exact k1 d v z t1 t2 t3
end
structure RoomU(k:Nat)(A:Around):Prop where
 dp:A.depth+3*k+5<recursionLimit
 un:A.units+16*k+200<cLine
 gd:A.guards=some []
theorem Room.toU(r:Room k A):RoomU k A:=⟨r.dp,r.un,r.gd⟩
theorem RoomU.mono(r:RoomU k A)(h:j<=k):RoomU j A:=⟨by have:=r.dp;lia,by have:=r.un;lia,r.gd⟩
structure FnOkU(P:Program)(w:World)(K:Frag)(mg:Qa0)(base:Heap)(CX:CXT)(k:Nat)(f:Addr)(fd:FuncData)(ps:Qa7)(sp:Sp):Prop where
 len:∀vs H Q E,sp vs H Q E->vs.length=ps.length
 run:∀A outer s H args us vs Q E,RoomU k A->Env0 P w K mg base A outer s H->BindsTo s fd args (ps.zip us)->Vals vs us->sp vs H Q E->codeAny (model P w) A (.call (.ref f) args) (CR CX outer P w H s Q E) s
abbrev Cx.un(X:Cx)(A:Around):Cx:={X with A:=A,calm:=false}
theorem Inv.un'{σ:St}(I:Inv X z06 σ H s)(A:Around)(hA:A.frames=X.A.frames):Inv (X.un A) z06 σ H s:=⟨⟨I.ok.mod,I.ok.kind,I.ok.glob,I.ok.blt,I.ok.above,I.ok.inj,I.ok.has,I.ok.cab,λz=>(by cases z),hA.trans I.ok.frames,I.ok.stk,I.ok.exf,I.ok.bs,I.ok.bsz,I.ok.noex,I.ok.exfs,I.ok.funs,I.ok.frf⟩,I.os,I.bare,I.base,I.loc,I.cell,I.free,I.freeC,I.pin,I.hok,I.len⟩
def qt(A:Around):Around:={A with handled:=none}
theorem Env0.qt{K:Frag}(e:Env0 P w K mg base A outer s H):Env0 P w K mg base (qt A) outer s H:=⟨e.frames,e.mod,e.bs,e.bsz,e.funs,e.frf,e.hok,e.bare⟩
theorem RoomU.mark(r:RoomU k A)(v:Option Value):RoomU k (A.mark v):=⟨r.dp,r.un,r.gd⟩
theorem RoomU.deeper(r:RoomU (k+1) A)(env:Env):RoomU k (A.deeper env):=⟨by have:=r.dp;show A.depth+1+3*k+5<_;lia,by have:=r.un;show A.units+3+16*k+200<_;lia,r.gd⟩
theorem Fun.okU{K:Frag}{st:Stmt}{f:Addr}{fd:FuncData}{N ps:Qa7}{k:Nat}{sp:Sp}(F:Fun K x qual st f fd)(S:FnScope N ps (aC st))(len:∀vs H Q E,sp vs H Q E->vs.length=ps.length)(aS:∀af A outer s H vs Q E,RoomU k (A.deeper (envOfC qual (aC st) s.heap.objs.size f af))->sp vs H Q E->∃t,PSs (((jr CX0 P w K mg base N qual (aC st) f af (qt A) outer s H E).un (A.deeper (envOfC qual (aC st) s.heap.objs.size f af))).nox) (cV st) t/\t {nx:=λ_ H'=>Q .non H',rt:=Q} (start N vs) H):FnOkU P w K mg base CX0 (k+1) f fd ps sp:=by
 obtain⟨oc,od,kV,doc,pm,an,af,ct,kP,rfl,lk,ff⟩:=F.ex;refine⟨len,λA outer s H args us vs Q E hr e0 hb r iO=>?_⟩;have hl:=len _ _ _ _ iO;have KX:K.In s.heap:=e0.mod.kin.keeps λb o e=>(e0.bs b o e).1;have lim:s.heap.NoLimit:=e0.mod.nolimit.keeps λb o e=>(e0.bs b o e).1;have lh:∀y∈ps.zip us,(aC st).names.lookup y.1=some .local\/((aC st).names.lookup y.1=some .cell/\((cellsFrom (s.heap.objs.size+1) (aC st).names []).lookup y.1).isSome=true):=λ⟨n,v⟩hy=>by
  rcases S.par n (List.of_mem_zip hy).1 with q|q;.exact .inl q
  .exact .inr ⟨q,PySem.W.cellsFrom_some _ _ _ (.inl q)⟩
 refine codeAny_call_function (by have:=hr.dp;lia) (KX _ _ lk) rfl S.co S.gen rfl (PySem.W.codeRec_of KX ff) (hb _ _ _ _ ?_);refine wpAny_newFunctionEnv_cells S.kind lh λenv he s1 x=>?_;subst he;refine⟨lim.keeps x.toInCall.keep,codeAny_func ?_⟩;obtain⟨t,ht,hq⟩:=aS af A outer s H vs Q E (hr.deeper _) iO;have I:Inv (jr CX0 P w K mg base N qual (aC st) f af (qt A) outer s H E) [] (start N vs) H s1:=sX S rfl e0.qt hl r x;have J:=(I.un' (A.deeper (envOfC qual (aC st) s.heap.objs.size f af)) rfl).wish λ_ _=>False;refine wpAny_mono (ht [] s1 (start N vs) H _ J hq) (λfl s' hs=>?_) λe s' hs=>hs.elim;have fin:∀{ar:St}{H':Hp}{v:V}{u:Value},Inv (((jr CX0 P w K mg base N qual (aC st) f af (qt A) outer s H E).un (A.deeper (envOfC qual (aC st) s.heap.objs.size f af))).nox) [] ar H' s'->RelV v u->Q v H'->CE outer P w H s Q u s':=λ{ar H' v u}J rv q=>⟨v,H',J.os,J.bare,J.base,J.hok,rv,q⟩;cases fl with|ret u=>obtain⟨v,ar,H',J,rv,q⟩:=hs;exact fin J rv q;|next=>obtain⟨ar,H',J,q⟩:=hs;exact fin (v:=V.non) (u:=Value.none) J rfl q;|brk=>obtain⟨_,_,_,q⟩:=hs;exact False.elim q;|cont=>obtain⟨_,_,_,q⟩:=hs;exact False.elim q
theorem Fun.oqU{K:Frag}{st:Stmt}{f:Addr}{fd:FuncData}{N ps:Qa7}{k:Nat}{sp:Sp}(F:Fun K x qual st f fd)(S:FnScope N ps (aC st))(aS:∀af A outer s H vs Q E,RoomU k (A.deeper (envOfC qual (aC st) s.heap.objs.size f af))->sp vs H Q E->∃t,PSs (((jr CX0 P w K mg base N qual (aC st) f af (qt A) outer s H E).un (A.deeper (envOfC qual (aC st) s.heap.objs.size f af))).nox) (cV st) t/\t {nx:=λ_ H'=>Q .non H',rt:=Q} (start N vs) H)(len:LenOk sp ps:=by exact{}):FnOkU P w K mg base CX0 (k+1) f fd ps sp:=F.okU S len.h aS
section
variable{p pos:Pos}
theorem Fl(F:FnOkU X.prog X.w X.K X.mg X.base CX0 k f fd ps sp)(hr:RoomU k X.A)(hg:Gl X x)(hm:X.mg x=some (.ref f))(hk:PySem.W.keepIn X.K (.ref f)=true)(hb:Binds X.K fd ps [])(ha:PA X (e::es) t)(fE:Qad x:=by decide)(he:Qab X e es:=by rfl)(fx:Qac X pos es:=by rfl):PE X (.Call (.Name x p) (e::es) [] pos) (vM sp [] E0 t):=by
 intro z06 s σ H Q I h;refine wpAny_Call_Name_kw (jL I hg hm ?_ fE);refine PySem.W.callWith_K (h₀:=X.base) I.ok.mod.kin hk (thn (ha pos z06 s σ H _ I h) λus s1⟨vs,H1,I1,r,q⟩=>⟨I1.kIn,?_⟩) he fx;have q:sp (vs++[]) H1 Q E0:=q;rw[zAn]at q;have hl:(us++[]).length=ps.length:=by rw[zAn,<-r.length];exact F.len _ _ _ _ q
 have BQ:=hb s1 us I1.kIn hl;rw[zAn]at BQ;refine wpAny_call (codeAny_mono (F.run X.A X.stack s1 H1 ⟨us,[]⟩ us vs Q E0 hr I1.env0 BQ r q) λrr s' hq=>?_);cases rr with|error e=>exact(hq).elim;|ok fl=>cases fl with|ret u=>exact I1.after hq;|next=>exact False.elim hq;|brk=>exact False.elim hq;|cont=>exact False.elim hq
end
def excAt(a C:Addr)(h:Heap):Prop:=∃o vs,h.get? a=some o/\o.cls=.ref C/\o.data=.fields vs/\o.dict=none
theorem excAt.ok(x:excAt a C h):ObjOk P w H h a (.ext (excAt a C)):=⟨x,(let⟨o,_,e,_⟩:=x;⟨o,e⟩),λh1 h2 z k=>(let⟨o,vs,e,r⟩:=z;⟨o,vs,k o e,r⟩)⟩
theorem HOk.tracked(x:HOk P w H h)(n:H a=none)(new:ObjOk P w (upd H a o) h a o):HOk P w (upd H a o) h:=λb u e=>by
 by_cases z:b=a;.subst z;rw[ao]at e;cases e;exact new
 .rw[aD z]at e;exact(x b u e).stay (λ_ _ _ q=>q) (λc q=>by rw[aD (aH q n)];exact q) λc xs q=>by rw[aD (aH q n)];exact q
theorem Inv.track{σ:St}(I:Inv X z06 σ H s)(hx:X.ex=[])(n:H a=none)(na:X.s₀.heap.get? a=none)(hL:a≠X.env.locals)(hc:∀x c,X.env.cells.lookup x=some c->c≠a)(hp:∀p∈X.pn++z06,p.1≠a)(new:ObjOk X.prog X.w (upd H a o) s.heap a o):Inv X z06 σ (upd H a o) s:=⟨I.ok,I.os,I.bare,⟨I.base.keep,I.base.slot,λb ob e h1 h2=>(by rw[aD (λz=>(by rw[z,na]at e;cases e))];exact I.base.free b ob e h1 h2),I.base.there,λb xs e=>(have q:=I.base.tups b xs e;by rw[aD (aH q n)];exact q),λb ob u e=>(have q:=I.base.frzs b ob u e;by rw[aD (aH q n)];exact q),λb ps e=>(let⟨m,q⟩:=I.base.tbls b ps e;⟨m,by rw[aD (aH q n)];exact q⟩)⟩,I.loc,I.cell,(by rw[aD (Ne.symm hL)];exact I.free),λx c e=>(by rw[aD (hc x c e)];exact I.freeC x c e),λp iX=>(let⟨e,n1,r⟩:=I.pin p iX;⟨e,by rw[aD (hp p iX)];exact n1,r⟩),I.hok.tracked n new,I.len⟩
open PySem PySem.Spec PyProof.Rows PySem.Calls PySem.W
theorem Cv:entryFor table "BaseException.__getattribute__"=some Builtin.«object.__getattribute__»:=entryFor_alias (id':="object.__getattribute__") (by kernel_rfl) (by first|rfl|decide+kernel) z04 (by kernel_rfl)
section
variable{K:Frag}
theorem Fo(hc:(clsIn K C).isSome=true)(ha:findIn K (.ref C) name=some (some a))(hg:specialIn K a "__get__"=some (some g))(ht:takesIn K a=some true):findObj K C none name=some (.bind g a):=by obtain⟨cd,hc⟩:=Zax.mp hc;unfold findObj;rw[hc,Option.bind_some,ha,Option.bind_some];simp[hg,ht]
theorem LQ(X:K.In s.heap)(I:InstAt s.heap x ox C none)(hf:findObj K C none "__class__"=some (.bind (.builtin "getset_descriptor.__get__") (.builtin "object.__class__")))(hm:mroIn K C (.type "object")=some true)(h:Q (.done (.ret (.ref C))) s):wpAny (model prog w) A (Builtin.«object.__getattribute__» ⟨[.ref x,.str "__class__" tk],[]⟩) Q E s:=by
 obtain⟨hh,g,d,t,os⟩:=s;have L0:=I.type (M:=model prog w);have L1:=looks_find (M:=model prog w) X I hf;unfold Builtin.«object.__getattribute__»;repeat lk
 refine wpAny_run (class_get X I hm ?_);repeat lk
 exact h
theorem exc_slot:Slot "BaseException" "__getattribute__" "BaseException.__getattribute__":=.of (owner:="BaseException") (n:="__getattribute__") (by rw[typeLookup_type,builtinLookup_eq_fast];kernel_rfl) z04 z04 z04 (by first|exact .inl z04|exact .inr z04) (by rw[isSubtype_type];kernel_rfl)
theorem Fp:builtinKind "BaseException.__getattribute__"=some .slot:=by decide+kernel
theorem Cw:splitId "BaseException.__getattribute__"=some ("BaseException","__getattribute__"):=by decide+kernel
theorem Jf:∃sig,Manifest.signature? "BaseException.__getattribute__"=sig/\∀a b:Value,(match sig with|none=>(pure ():Sem Unit)|some g=>Bind.checkArgs "BaseException.__getattribute__" g ⟨[a,b],[]⟩)=pure ():=⟨_,rfl,λa b=>by kernel_rfl⟩
theorem Cy(L:Looks (model prog w) s.heap (isInstance (.ref x) (.type "BaseException")) true)(h:Q () s):wpAny (model prog w) A (checkBuiltinCall "BaseException.__getattribute__" ⟨[.ref x,b],[]⟩) Q E s:=by simp only[checkBuiltinCall,Fp,Cw];refine zAt (L.at ?_);simp only[Bool.not_true,Bool.false_eq_true,if_false];obtain⟨sig,e,r⟩:=Jf;have r:=r (.ref x) b;rw[e];cases sig with|none=>exact zAx h;|some g=>show wpAny _ _ (Bind.checkArgs "BaseException.__getattribute__" g ⟨[.ref x,b],[]⟩) Q E s;have r:Bind.checkArgs "BaseException.__getattribute__" g ⟨[.ref x,b],[]⟩=pure ():=r;rw[r];exact zAx h
theorem Cz(X:K.In s.heap)(I:InstAt s.heap x ox C none)(TH:findIn K (.ref C) "__getattribute__"=some (some (.builtin "BaseException.__getattribute__")))(TJ:findIn K (.ref C) "__getattr__"=some none)(hf:findObj K C none "__class__"=some (.bind (.builtin "getset_descriptor.__get__") (.builtin "object.__class__")))(hm:mroIn K C (.type "object")=some true)(hb:mroIn K C (.type "BaseException")=some true)(h:Q (some (.ref C)) {s with toks:=s.toks+1}):wpAny (model prog w) A (getAttr? (.ref x) "__class__") Q E s:=by
 obtain⟨hh,g,d,t,os⟩:=s;have L0:=I.type (M:=model prog w);have L1:=looks_findIn (M:=model prog w) X TH;have L2:=looks_findIn (M:=model prog w) X TJ;have L3:=looks_mroIn (M:=model prog w) X hb;unfold getAttr? getAttrBy? getAttrBy;refine zAt (wpAny_mkText (zAt (wpAny_attempt (wpAny_holding (zAt (L0.at (zAt (L1.at ?_))))))));show wpAny _ _ (getAttrByItsOwn _ _ _ _ _ _) _ _ _;unfold getAttrByItsOwn hookBefore;refine zAt ?_;rw[zAz (show onTheHeap (.ref C)=true from rfl)];refine L2.at ?_;refine zAt (wpAny_attempt (wpAny_holding ?_));show wpAny _ _ (boundAndCalled (.builtin "BaseException.__getattribute__") (.ref x) (.str "__class__" t)) _ _ _;unfold boundAndCalled;refine zAt (wpAny_of_eq (exc_slot.bind _) ?_);refine wpAny_call (codeAny_call_builtin exc_slot.plain Cv (Cy (s:=⟨hh,g,d,t+1,os⟩) (L0.andThen L3) ?_));refine LQ (s:=⟨hh,g,d,t+1,os⟩) X I hf hm ?_;show wpAny _ _ (handedOut (.ref C)) _ _ _;repeat lk
 exact h
end
structure ExcC(K:Frag)(C:Addr):Prop where
 cl:(clsIn K C).isSome=true
 ga:findIn K (.ref C) "__getattribute__"=some (some (.builtin "BaseException.__getattribute__"))gb:findIn K (.ref C) "__getattr__"=some none
 fc:findIn K (.ref C) "__class__"=some (some (.builtin "object.__class__"))sg:specialIn K (.builtin "object.__class__") "__get__"=some (some (.builtin "getset_descriptor.__get__"))tk:takesIn K (.builtin "object.__class__")=some true
 ob:mroIn K C (.type "object")=some true
 be:mroIn K C (.type "BaseException")=some true
theorem excAt.inst(x:excAt a C h):∃ox,InstAt h a ox C none:=by obtain⟨o,vs,e,c,d,dd⟩:=x;refine⟨o,e,c,?_,by rw[dd];trivial⟩;unfold notCls;rw[d]
theorem wR{K:Frag}(Z:ExcC K C):KitX K (.ref a) (.ref C) (excAt a C)where
 ty:=λM h _ p=>(let⟨_,I⟩:=p.inst;I.type);it:=λM h X _=>by
  have z:=Z.cl;unfold clsIn at z;split at z;.rename_i c' d' cd' EB ho;intro A' Q' E' s' k q;unfold isType loadHead;exact zAt (wpAny_loadPart (k _ _ (X _ _ ho)) (zAx q))
  .cases z
 ne:=λh tp dd z08 n sl X e=>by
  refine Bool.eq_false_iff.mpr λq=>?_;have q:C=tp:=by have:=beq_iff_eq.mp q;injection this
  subst q;have z:=Z.cl;unfold clsIn at z;split at z;.rename_i c' d' cd' EB ho;have:=X _ _ ho;rw[e]at this;cases this
  .cases z
 ca:=λ{prog w A E Q s}X p h=>by obtain⟨ox,I⟩:=p.inst;exact Cz X I Z.ga Z.gb (Fo Z.cl Z.fc Z.sg Z.tk) Z.ob Z.be h
theorem mG:fK X (.builtin "isinstance") (λxs H Q=>∃a C c b,xs=[.ref a,c]/\H a=some (.ext (excAt a C))/\ExcC X.K C/\((∃D,c=.ref D/\kitOne X.K (.ref C) (.ref D)=some b)\/∃n,c=.ty n/\kitOne X.K (.ref C) (.type n)=some b)/\Q (.bl b) H):=by
 intro z06 s σ H xs us Q I r h;obtain⟨a,C,c,b,rfl,e,Z,hk,q⟩:=h;obtain⟨u,v,rfl,ru,rv⟩:=vals2 r;cases(show u=Value.ref a from ru);obtain⟨p,_⟩:=(show ObjOk X.prog X.w H s.heap a (.ext (excAt a C))from I.hok a _ e);rcases hk with⟨D,rfl,hk⟩|⟨n,rfl,hk⟩;.cases(show v=Value.ref D from rv);exact kia_one (wR Z) I.kIn p hk (λz=>nomatch z) λtk=>⟨.bl b,H,I.tok _,rfl,q⟩
 .cases(show v=Value.type n from rv);exact kia_one (wR Z) I.kIn p hk (λz=>nomatch z) λtk=>⟨.bl b,H,I.tok _,rfl,q⟩
section
variable{K:Frag}{s:Shared}
structure CatchC(K:Frag)(C D:Addr):Prop where
 nt:typeIn K (.ref D)=some (.type "type")ty:(clsIn K D).isSome=true
 be:subIn K (.ref D) (.type "BaseException")=some true
 su:subIn K (.ref C) (.ref D)=some true
theorem CG(X:K.In s.heap)(h:(clsIn K D).isSome=true):Looks (model prog w) s.heap (isType (.ref D)) true:=by
 unfold clsIn at h;split at h;.rename_i c' d' cd' EB ho;intro A' Q' E' s' k q;exact zAt (wpAny_loadPart (k _ _ (X _ _ ho)) (zAx q))
 .cases h
theorem wU(X:K.In s.heap)(I:InstAt s.heap a ox C none)(Z:CatchC K C D)(h:Q true s):wpAny (model prog w) A (excMatches (.ref a) (.ref D)) Q E s:=by
 have L0:=I.type (M:=model prog w);have L1:=looks_typeIn (M:=model prog w) X Z.nt;have L2:=CG (prog:=prog) (w:=w) X Z.ty;have L3:=looks_subIn (M:=model prog w) X Z.be;have L4:=looks_subIn (M:=model prog w) X Z.su;have f:=tc_notTuple;repeat(first|with_reducible refine L1.at ?_|with_reducible refine L0.at ?_|with_reducible refine L2.at ?_|with_reducible refine L3.at ?_|with_reducible refine L4.at ?_|wp_step)
 exact h
end
theorem CJ(fl:Fly s.heap a C tb)(h:∀h',Fly h' a C tb->(∀b o,s.heap.get? b=some o->tb≠.ref b->h'.get? b=some o)->(∀b o,s.heap.get? b=some o->∃o',h'.get? b=some o')->Q () {s with heap:=h'}):wpAny M A (setFlight (.ref a) none) Q E s:=by
 obtain⟨⟨oe,vs,he,hc,hd,h1,mm⟩,tr⟩:=id fl;refine zAt (wpAny_field he hd h1 ?_);rcases tr with rfl|⟨T,oT,ts,rfl,nT,hT,nr,h3⟩;.rw[zAy z02];exact zAx (h s.heap fl (λb o e _=>e) λb o e=>⟨o,e⟩)
 .rw[zAz (show(Value.ref T !=Value.none)=true by simp)];have z3:=(Array.getElem?_eq_some_iff.mp h3).1;refine wpAny_setField hT nr z3 ?_;have g3:=Heap.get?_update_self (Obj.mapFields (·.setIfInBounds 3 ((none:Option Addr).elim Value.none λf=>rawInt f))) hT (Obj.isFreed_of_fields (Obj.data_mapFields nr _));have o3:∀b,b≠T->(s.heap.update T (Obj.mapFields (·.setIfInBounds 3 ((none:Option Addr).elim Value.none λf=>rawInt f)))).get? b=s.heap.get? b:=λb hb=>Heap.get?_update_other _ _ (Ne.symm hb);refine h _ ⟨⟨oe,vs,(o3 a (Ne.symm nT)).trans he,hc,hd,h1,mm⟩,.inr ⟨T,_,_,rfl,nT,g3,Obj.data_mapFields nr _,by simp[z3]⟩⟩ (λb o e hb=>(o3 b λz=>hb (by rw[z])).trans e) λb o e=>?_;by_cases z:b=T;.rw[z];exact⟨_,g3⟩
  .exact⟨o,(o3 b z).trans e⟩
abbrev Cx.tr(X:Cx)(z06:Qa1)(xe:gV):Cx:={X with pn:=X.pn++z06,xe:=xe}
theorem Inv.tr{σ:St}(I:Inv X z06 σ H s)(xe:gV):Inv (X.tr z06 xe) [] σ H s:=⟨⟨I.ok.mod,I.ok.kind,I.ok.glob,I.ok.blt,I.ok.above,I.ok.inj,I.ok.has,I.ok.cab,I.ok.hd,I.ok.frames,I.ok.stk,I.ok.exf,I.ok.bs,I.ok.bsz,I.ok.noex,I.ok.exfs,I.ok.funs,I.ok.frf⟩,I.os,I.bare,I.base,I.loc,I.cell,I.free,I.freeC,λp hp=>I.pin p (by simpa using hp),I.hok,I.len⟩
theorem Inv.untr{σ:St}(I:Inv (X.tr z06 xe) gN σ H s):Inv X z06 σ H s:=⟨⟨I.ok.mod,I.ok.kind,I.ok.glob,I.ok.blt,I.ok.above,I.ok.inj,I.ok.has,I.ok.cab,I.ok.hd,I.ok.frames,I.ok.stk,I.ok.exf,I.ok.bs,I.ok.bsz,I.ok.noex,I.ok.exfs,I.ok.funs,I.ok.frf⟩,I.os,I.bare,I.base,I.loc,I.cell,I.free,I.freeC,λp hp=>I.pin p (Zas _ hp),I.hok,I.len⟩
theorem Inv.drop{σ:St}(I:Inv X z06 σ H s)(hN:X.N.Nodup)(hi:X.N[i]?=some x)(hl:∀(i:Nat)x v,X.N[i]?=some x->σ[i]?=some (some v)->Vis X.env.scope x->∃u,RelV v u/\Look X.env s.heap m x u)(hn:h'.Ns X.env.locals λy=>if y=x then u else m y)(sb:Heap.SameBut X.env.locals s.heap h'):Inv X z06 (σ.set i none) H {s with heap:=h'}:=by
 have nL:∀b o,X.s₀.heap.get? b=some o->b≠X.env.locals:=λb o e=>zB7 (zB3 (zB0 e) I.ok.above);have cK:∀y c,X.env.cells.lookup y=some c->∀v,s.heap.IsCell c v->h'.IsCell c v:=λy c e v=>by rintro⟨o,ho,hd⟩;exact⟨o,(sb.2 c (I.cne y c e)).trans ho,hd⟩
 refine⟨I.ok,I.os,I.bare,⟨λb o e n hb hx=>(sb.2 b (nL b o e)).trans (I.base.keep b o e n hb hx),λb o e n hb hx=>?_,I.base.free,λb o e hx=>?_,I.base.tups,I.base.frzs,I.base.tbls⟩,⟨_,hn,λj y v e1 e2 e3=>?_⟩,λy c e=>?_,I.free,I.freeC,λp hp=>?_,λc o e=>?_,by rw[Zav];exact I.len⟩;.obtain⟨sl,e1⟩:=I.base.slot b o e n hb hx;exact⟨sl,(sb.2 b (nL b o e)).trans e1⟩
 .obtain⟨o',e1⟩:=I.base.there b o e hx;exact⟨o',(sb.2 b (nL b o e)).trans e1⟩
 .by_cases z:i=j
  .subst z;by_cases aI:i<σ.length;.rw[Za0 aI]at e2;cases e2
   .rw[Za1 (by rw[Zav];lia)]at e2;cases e2
  .rw[List.getElem?_set_ne z]at e2;obtain⟨u',r,l⟩:=hl j y v e1 e2 e3;refine⟨u',r,?_⟩;rcases l with⟨k,l⟩|⟨k,c,e,w'⟩
   .refine .inl ⟨k,?_⟩;show(if y=x then u else m y)=some u';rw[zAy λq=>z ?_];.exact l
    .rw[q]at e1;obtain⟨h1,g1⟩:=zAa.mp hi;obtain⟨h2,g2⟩:=zAa.mp e1;exact(List.getElem_inj hN).mp (g1.trans g2.symm)
   .exact .inr ⟨k,c,e,cK y c e _ w'⟩
 .obtain⟨v,w'⟩:=I.cell y c e;exact⟨v,cK y c e v w'⟩
 .obtain⟨e,n,ne,r⟩:=I.pin p hp;exact⟨(sb.2 p.1 ne).trans e,n,ne,r⟩
 .refine(I.hok c o e).stay (λd v hd z=>(sb.2 d λq=>?_).trans z) (λ_ z=>z) λ_ _ z=>z;rcases hd with y|y;.rw[y]at q;rw[q,I.free]at e;cases e
  .rw[q,I.free]at y;cases y
theorem jT{σ:St}(I:Inv X z06 σ H s)(hN:X.N.Nodup)(hi:X.N[i]?=some x)(hx:X.env.scope.names.lookup x=some .local)(h:∀s',Inv X z06 (σ.set i none) H s'->Q () s'):wpAny (model X.prog X.w) A (do bindName X.env x .none;unbindBehindTheSuite X.env x pos) Q E s:=by
 have BU:i<X.N.length:=(zAa.mp hi).1;refine zAt (wpAny_bindName (jK (v:=.non) I hN hi (.inl hx) rfl (λs1 I1 _=>?_) (.inr hx)));obtain⟨m,hn,hl⟩:=id I1.loc;obtain⟨u,_,lk⟩:=hl i x .non hi (by rw[Za0 (by rw[I.len];exact BU)]) (.inl hx);have hv:m x=some u:=by
  rcases lk with⟨_,z⟩|⟨k,_⟩;.exact z
  .have dQ:X.env.kindOf x=some .local:=hx;rw[dQ]at k;rcases k with k|k<;>cases k
 refine wpAny_onRaise (wpAny_unbindName_local hx hn hv (by rw[I.ok.kind];rfl) λh' u' FY sb=>?_);have J:=I1.drop hN hi hl FY sb;rw[List.set_set]at J;exact h _ J
theorem Inv.back{σ:St}(I:Inv ((X.un A).wish xe) z06 σ H s)(ok:X.Ok):Inv X z06 σ H s:=⟨ok,I.os,I.bare,I.base,I.loc,I.cell,I.free,I.freeC,I.pin,I.hok,I.len⟩
def Fq(D:Ends)(i:Nat):Ends:={nx:=λσ H=>D.nx (σ.set i none) H,rt:=D.rt,ct:=λσ H=>D.ct (σ.set i none) H,bk:=λσ H=>D.bk (σ.set i none) H}
def Qv(n i:Nat)(ok:Addr->Prop)(tb:(Addr->Addr->Hp->Prop)->TS)(th:TS):TS:=λD σ H=>tb (λa C H'=>ok C/\∀ar:St,ar.length=n->H' a=none->th (Fq D i) (ar.set i (some (.ref a))) (upd H' a (.ext (excAt a C)))) D σ H
theorem LR(hm:X.mg y=some (.ref Dc))(hg:Gl X y)(hN:X.N.Nodup)(hi:X.N[i]?=some n)(hl:X.env.scope.names.lookup n=some .local)(hx:X.ex=[])(hs:X.stack=X.env::X.outer)(aS:∀z06 xe EX,wO (X.tr z06 xe) EX->PSs (X.tr z06 xe) body (tb EX))(vE:∀v,PSs ((X.un (X.A.mark v)).nox) (oI::kq) th)(fE:(y==("__debug__":Str))=false:=by decide):PS X (.Try body [.ExceptHandler (some (.Name y np)) (some n) (oI::kq) bq] [] [] pos) (Qv X.N.length i (λC=>CatchC X.K C Dc) tb th):=by
 intro z06 s σ H D I h;refine wpAny_Try_except ?_;have W:wO (X.tr z06 λe s₁=>wpAny (model X.prog X.w) X.A (noteFrame e X.env) (λ_ s₂=>wpAny (model X.prog X.w) X.A (setFlight e none) (λ_ s₃=>wpAny (model X.prog X.w) X.A (handleBy e X.env [.ExceptHandler (some (.Name y np)) (some n) (oI::kq) bq]) (SP X z06 D) X.xe s₃) X.xe s₂) X.xe s₁) (λa C H'=>CatchC X.K C Dc/\∀ar:St,ar.length=X.N.length->H' a=none->th (Fq D i) (ar.set i (some (.ref a))) (upd H' a (.ext (excAt a C)))):=by
  intro gN AO H1 s1 a C TK I1 fl na fa ft hp q;obtain⟨Z,q⟩:=q;have J:=I1.untr;have kS:X.A.frames=some (X.env::X.outer):=by rw[<-hs];exact J.ok.frames
  have dP:s1.heap.FunFrames X.base (X.env::X.outer):=by rw[<-hs];exact J.stack
  have vx:X.env.frame=some X.env.locals:=by
   rcases J.ok.stk with z|z;.exact absurd (congrArg List.length (hs.symm.trans z)) z01
   .exact z.2
  have kg:∀p∈X.pn++z06,p.1≠a/\TK≠.ref p.1:=λp iX=>hp p (Zas _ iX);show wpAny (model X.prog X.w) X.A (noteFrame (.ref a) X.env) _ X.xe s1;refine Af kS dP vx fl λh' T nT iS k1 k2 k3=>?_;have J2:Inv X z06 AO H1 {s1 with heap:=h'}:=J.left (t':=s1.toks) hx fl na fa ft kg (by rw[hs];exact k1) k2 k3;have tf:∀T',Value.ref T=.ref T'->X.s₀.heap.get? T'=none/\H1 T'=none:=λT' z=>by cases z;exact⟨J.was hx nT,J.hok.no nT⟩
  have ja:∀p∈X.pn++z06,p.1≠a/\Value.ref T≠.ref p.1:=λp iX=>⟨(kg p iX).1,λz=>by cases z;obtain⟨e,_⟩:=J.pin p iX;rw[nT]at e;cases e⟩;obtain⟨oe,vs,he,hc,hd,_,mm⟩:=iS.obj;have inst:excAt a C h':=⟨oe,vs,he,hc,hd,mm⟩;refine wpAny_handleBy_cons (codeAny_handlers_test ?_) (by intro q;cases q);have J4:=J2.un' (X.A.mark (some (.ref a))) rfl;refine jL (X:=X.un (X.A.mark (some (.ref a)))) J4 hg hm ?_ fE;obtain⟨ox,ix⟩:=inst.inst;refine wU (s:={s1 with heap:=h'}) J2.kIn ix Z ?_;show codeAny _ _ (.handlers (.ref a) [.ExceptHandler none (some n) (oI::kq) bq] X.env) _ _;refine codeAny_handlers_suite_as ?_;refine CJ (s:={s1 with heap:=h'}) iS λh2 HV j1 j2=>?_;have J5:Inv X z06 AO H1 {s1 with heap:=h2}:=J2.left (t':=s1.toks) hx iS na fa tf ja (λb o e _ hb _=>j1 b o e hb) (λb o e _ hb=>⟨o.slots,j1 b o e hb⟩) j2;obtain⟨TL,HZ,TN,tq,hd2,_,Ic⟩:=HV.obj;have BY:excAt a C h2:=⟨TL,HZ,TN,tq,hd2,Ic⟩;have TQ:a≠X.env.locals:=by obtain⟨m,⟨o,es,ep,ho,qE,_⟩,_⟩:=J5.loc;exact Ne.symm (HV.ne ho λvs q=>by rw[qE]at q;cases q).1
  have TR:∀x c,X.env.cells.lookup x=some c->c≠a:=λx c e=>by obtain⟨v,o,ho,qE⟩:=J5.cell x c e;exact(HV.ne ho λvs q=>by rw[qE]at q;cases q).1
  have J6:=J5.track (o:=.ext (excAt a C)) hx fa na TQ TR (λp iX=>(kg p iX).1) (excAt.ok BY);refine jK (v:=.ref a) J6 hN hi (.inl hl) rfl (λs6 I6 _=>?_) (.inr hl);have hw:=q AO J.len fa;refine wpAny_mono (vE (some (.ref a)) z06 s6 _ _ (Fq D i) ((I6.un' (X.A.mark (some (.ref a))) rfl).wish _) hw) (λf s7 sp=>?_) λe s' z=>z.elim;show wpAny (model X.prog X.w) X.A (do bindName X.env n .none;unbindBehindTheSuite X.env n bq) (λ_ s₃=>SP X z06 D f s₃) X.xe s7;cases f with|ret u=>obtain⟨v,ar,H',K',rv,qq⟩:=sp;exact jT (K'.back J.ok) hN hi hl λs' K2=>⟨v,_,H',K2,rv,qq⟩;|next=>obtain⟨ar,H',K',qq⟩:=sp;exact jT (K'.back J.ok) hN hi hl λs' K2=>⟨_,H',K2,qq⟩;|brk=>obtain⟨ar,H',K',qq⟩:=sp;exact jT (K'.back J.ok) hN hi hl λs' K2=>⟨_,H',K2,qq⟩;|cont=>obtain⟨ar,H',K',qq⟩:=sp;exact jT (K'.back J.ok) hN hi hl λs' K2=>⟨_,H',K2,qq⟩
 have hb:=aS z06 _ _ W [] s σ H D (I.tr _) h;refine wpAny_mono hb (λf s1 sp=>?_) λe s1 z=>z;cases f with|ret u=>obtain⟨v,ar,H',K',rv,qq⟩:=sp;exact⟨v,ar,H',K'.untr,rv,qq⟩;|next=>obtain⟨ar,H',K',qq⟩:=sp;exact wpAny_execs_nil ⟨ar,H',K'.untr,qq⟩;|brk=>obtain⟨ar,H',K',qq⟩:=sp;exact⟨ar,H',K'.untr,qq⟩;|cont=>obtain⟨ar,H',K',qq⟩:=sp;exact⟨ar,H',K'.untr,qq⟩
theorem wV(a b:Bool):MeetsSeq.EqGives (.bool a) (.bool b) (a==b):=λprog w A E s Q h=>PySem.SeqAt.EqAt.bool_bool (A:=A) (s:=s) a b prog w E Q h
def isB(k:Bool):Value->Bool|.bool n=>n==k|_=>false
theorem wW(bs:List Bool)(k:Bool):((bs.map Value.bool).toArray.toList.countP (isB k))=bs.count k:=by rw[List.toList_toArray,List.countP_map];rfl
inductive RCountBI(x:V)(vs:List V)(H:Hp)(Q:VK):Prop|mk:∀l(bs:List Bool)k,(x=.ref l)->(vs=[.bl k])->(H l=some (.lst (bs.map V.bl)))->(Q (.int (bs.count k:Nat)) H)->RCountBI  x vs H Q
def Ag:V->List V->Hp->VK->Prop:=λx vs H Q=>RCountBI  x vs H Q
section
theorem CK:MtM X "list.count" Ag:=by
 intro z06 s σ H x vs v us Q I rx rv h;obtain⟨l,bs,k,rfl,rfl,hH,q⟩:=h;cases rx;obtain⟨u,rfl,ru⟩:=vals1 rv;cases(show u=Value.bool k from ru);obtain⟨z,z08,n,r,hl,e⟩:=I.lstM hH;have ei:z08=bs.map Value.bool:=j8 r;subst ei;refine call_meets F.slot_list_count ⟨_,e,rfl⟩ F.entry_list_count (F.args_list_count_2 _ _) (MeetsSeq.list_count l (bs.map Value.bool).toArray n (.bool k) (isB k) (λy hy=>?_)) ⟨e,?_⟩;.obtain⟨b,_,rfl⟩:=zA5.mp (show y∈bs.map Value.bool by simpa using hy);exact wV b k
 .refine⟨.int (bs.count k:Nat),H,I.tok _,⟨s.toks,?_⟩,q⟩;rw[wW]
inductive RIndexBI(x:V)(vs:List V)(H:Hp)(Q:VK):Prop|mk:∀l(bs:List Bool)k(j:Nat),(x=.ref l)->(vs=[.bl k])->(H l=some (.lst (bs.map V.bl)))->(bs[j]?=some k)->((∀i,i<j->bs[i]?≠some k))->(Q (.int j) H)->RIndexBI  x vs H Q
def Ah:V->List V->Hp->VK->Prop:=λx vs H Q=>RIndexBI  x vs H Q
theorem CN:MtM X "list.index" Ah:=by
 intro z06 s σ H x vs v us Q I rx rv h;obtain⟨l,bs,k,j,rfl,rfl,hH,hj,F9,q⟩:=h;cases rx;obtain⟨u,rfl,ru⟩:=vals1 rv;cases(show u=Value.bool k from ru);obtain⟨z,z08,n,r,hl,e⟩:=I.lstM hH;have ei:z08=bs.map Value.bool:=j8 r;subst ei;rw[zA1]at z;rw[sizeLine_eq]at z;have TU:=(zAa.mp hj).1;have gt:∀m(hm:m<(bs.map Value.bool).toArray.size),(bs.map Value.bool).toArray[m]=Value.bool (bs[m]'(by simpa using hm)):=λm hm=>by simp
 refine call_meets F.slot_list_index ⟨_,e,rfl⟩ F.entry_list_index (F.args_list_index_2 _ _) (MeetsSeq.list_index l (bs.map Value.bool).toArray n (.bool k) (isB k) (λy hy=>?_) j (by simpa using TU) z00 ?_ λm hm aI=>?_) ⟨e,⟨.int j,H,I.tok _,⟨_,rfl⟩,q⟩⟩;.obtain⟨b,_,rfl⟩:=zA5.mp (show y∈bs.map Value.bool by simpa using hy);exact wV b k
 .rw[gt,(zAa.mp hj).2];exact beq_self_eq_true k
 .rw[gt];refine beq_false_of_ne λc=>F9 m aI ?_;rw[zA0 (by simpa using hm),c]
end
def er(H:Hp)(cs:Qa1):Hp:=λb=>if(cs.lookup b).isSome=true then none else H b
def fz(H:Hp)(cs:Qa1):Hp:=λb=>match cs.lookup b with|some o=>some (.frz o (.ext λ_=>True))|none=>H b
section
theorem tU(e:cs.lookup b=some o):fz H cs b=some (.frz o (.ext λ_=>True)):=by unfold fz;rw[e]
theorem eG(e:cs.lookup b=none):fz H cs b=H b:=by unfold fz;rw[e]
theorem mH(e:cs.lookup b=some o):er H cs b=none:=by unfold er;rw[e];rfl
theorem gq(e:cs.lookup b=none):er H cs b=H b:=by unfold er;rw[e];rfl
def Loose(H:Hp)(h:Heap)(fs:Qa9)(cs:Qa1):Prop:=∀b o,cs.lookup b=some o->h.get? b=some o/\H b=none/\b∉fs
theorem Loose.no(L:Loose H h fs cs)(e:H b=some u):cs.lookup b=none:=by cases q:cs.lookup b with|none=>rfl;|some o=>rw[(L b o q).2.1]at e;cases e
theorem HOk.fz(x:HOk P w H h)(L:Loose H h fs cs):HOk P w (L2.fz H cs) h:=λb u e=>by cases q:cs.lookup b with|some o=>rw[tU q]at e;cases e;have g:=(L b o q).1;exact⟨g,trivial,⟨o,g⟩,λ_ _ _ _=>trivial⟩;|none=>rw[eG q]at e;exact(x b u e).stay (λ_ _ _ z=>z) (λc z=>by rw[eG (L.no z)];exact z) λc xs z=>by rw[eG (L.no z)];exact z
theorem HOk.er(x:HOk P w H' h')(fr:∀b o,cs.lookup b=some o->H' b=some (.frz o (.ext λ_=>True))):HOk P w (L2.er H' cs) h':=λb u e=>by cases q:cs.lookup b with|some o=>rw[mH q]at e;cases e;|none=>
  rw[gq q]at e;have no:∀c u,(∀o,u≠HO.frz o (.ext λ_=>True))->H' c=some u->cs.lookup c=none:=λc u hu z=>by cases q:cs.lookup c with|none=>rfl;|some o=>rw[fr c o q]at z;cases z;exact absurd rfl (hu o)
  exact(x b u e).stay (λ_ _ _ z=>z) (λc z=>by rw[gq (no c _ (λo y=>by cases y) z)];exact z) λc xs z=>by rw[gq (no c _ (λo y=>by cases y) z)];exact z
theorem Un.held(u:Un fs [] (fz H cs) H' h h')(ok:HOk P w H' h')(L:Loose H h fs cs):Un fs [] H (er H' cs) h h'/\HOk P w (er H' cs) h'/\∀b o,cs.lookup b=some o->h'.get? b=some o:=by
 have fr:∀b o,cs.lookup b=some o->H' b=some (.frz o (.ext λ_=>True)):=λb o q=>u.frzs b o _ (tU q);have kp:∀b o,cs.lookup b=some o->h'.get? b=some o:=λb o q=>(ok b _ (fr b o q)).1;have no:∀c v,(∀o,v≠HO.frz o (.ext λ_=>True))->H' c=some v->cs.lookup c=none:=λc v hv z=>by cases q:cs.lookup c with|none=>rfl;|some o=>rw[fr c o q]at z;cases z;exact absurd rfl (hv o)
 refine⟨⟨λb o e n hb hx=>?_,λb o e n hb hx=>?_,λb o e n hx=>?_,u.there,λb xs e=>?_,λb o v e=>?_,λb ps e=>?_⟩,ok.er fr,kp⟩;.cases q:cs.lookup b with|some o'=>have:=(L b o' q).1;rw[e]at this;cases this;exact kp b o q;|none=>exact u.keep b o e (by rw[eG q];exact n) hb hx
 .cases q:cs.lookup b with|some o'=>exact absurd hb (L b o' q).2.2;|none=>exact u.slot b o e (by rw[eG q];exact n) hb hx
 .cases q:cs.lookup b with|some o'=>exact mH q;|none=>rw[gq q];exact u.free b o e (by rw[eG q];exact n) hx
 .have z:=u.tups b xs (by rw[eG (L.no e)];exact e);rw[gq (no b _ (λo y=>by cases y) z)];exact z
 .have z:=u.frzs b o v (by rw[eG (L.no e)];exact e);rw[gq (L.no e)];exact z
 .obtain⟨m,z⟩:=u.tbls b ps (by rw[eG (L.no e)];exact e);exact⟨m,by rw[gq (L.no e)];exact z⟩
theorem Un.loose(u:Un fs [] (er H cs) H1 h h')(ok:HOk P w H1 h')(B4:HOk P w H h)(fr:∀b o,cs.lookup b=some o->H b=some (.frz o (.ext λ_=>True))/\b∉fs):Un fs [] H (fz H1 cs) h h'/\HOk P w (fz H1 cs) h':=by
 have y7:∀b o,cs.lookup b=some o->h.get? b=some o:=λb o q=>(B4 b _ (fr b o q).1).1;have kp:∀b o,cs.lookup b=some o->h'.get? b=some o:=λb o q=>u.keep b o (y7 b o q) (mH q) (fr b o q).2 z01;have nn:∀b o,cs.lookup b=some o->H1 b=none:=λb o q=>u.free b o (y7 b o q) (mH q) z01;have no:∀c v,(∀o,v≠HO.frz o (.ext λ_=>True))->H c=some v->cs.lookup c=none:=λc v hv z=>by cases q:cs.lookup c with|none=>rfl;|some o=>rw[(fr c o q).1]at z;cases z;exact absurd rfl (hv o)
 refine⟨⟨λb o e n hb hx=>?_,λb o e n hb hx=>?_,λb o e n hx=>?_,u.there,λb xs e=>?_,λb o v e=>?_,λb ps e=>?_⟩,ok.fz (fs:=fs) λb o q=>⟨kp b o q,nn b o q,(fr b o q).2⟩⟩;.cases q:cs.lookup b with|some o'=>rw[(fr b o' q).1]at n;cases n;|none=>exact u.keep b o e (by rw[gq q];exact n) hb hx
 .cases q:cs.lookup b with|some o'=>exact absurd hb (fr b o' q).2;|none=>exact u.slot b o e (by rw[gq q];exact n) hb hx
 .cases q:cs.lookup b with|some o'=>rw[(fr b o' q).1]at n;cases n;|none=>rw[eG q];exact u.free b o e (by rw[gq q];exact n) hx
 .have q:=no b _ (λo y=>by cases y) e;rw[eG q];exact u.tups b xs (by rw[gq q];exact e)
 .cases q:cs.lookup b with|some o'=>have z:=(fr b o' q).1;rw[e]at z;cases z;exact tU q;|none=>rw[eG q];exact u.frzs b o v (by rw[gq q];exact e)
 .have q:=no b _ (λo y=>by cases y) e;obtain⟨m,z⟩:=u.tbls b ps (by rw[gq q];exact e);exact⟨m,by rw[eG q];exact z⟩
end
def rO(fd:FuncData)(fl L:Addr):Env:=newEnv fd.scope L fd.globals fd.closure (fd.qualname++".<locals>.") (some fl) fd.code none fd.builtins
def cxL(P:Program)(w:World)(K:Frag)(mg:Qa0)(base:Heap)(N:Qa7)(fd:FuncData)(fl:Addr)(A:Around)(outer:List Env)(s:Shared)(H:Hp)(E:XK):Cx where prog:=P;w:=w;K:=K;mg:=mg;base:=base;A:=A.deeper (rO fd fl s.heap.objs.size);N:=N;s₀:=s;H₀:=H;env:=rO fd fl s.heap.objs.size;outer:=outer;stack:=rO fd fl s.heap.objs.size::outer;ex:=[];calm:=true;fn:=λ_=>false;pn:=[];xe:=λe s'=>wpAny (model P w) (A.deeper (rO fd fl s.heap.objs.size)) (leaving (rO fd fl s.heap.objs.size) e) (λ_ kN=>CX1 P w outer H s E e kN) (λe' kN=>CX1 P w outer H s E e' kN) s'
structure LamAt(fd:FuncData)(body:Expr)(N:Qa7):Prop where
 bd:fd.body=.expr body
 gl:fd.globals=mainGlobals
 bl:fd.builtins=builtinsNs
 kd:fd.scope.kind=.function
 co:fd.scope.isCoroutine=false
 ge:fd.scope.isGenerator=false
 fr:∀p∈fd.scope.names,p.2≠.cell
 fl:∀x,fd.scope.names.lookup x=some .free->∃c,fd.closure.lookup x=some c
 nd:∀x y c,fd.closure.lookup x=some c->fd.closure.lookup y=some c->x=y
 ba:bindArgs fd ⟨[],[]⟩=pure []nm:∀x∈N,fd.scope.names.lookup x=some .free
theorem Jg{K:Frag}{E:XK}{body:Expr}{vs:List V}{h1:Heap}{tk:Nat}(Z:LamAt fd body N)(hd:A.handled=none)(e0:Env0 P w K mg base A outer s H)(hn:h1.Ns s.heap.objs.size λx=>([]:List (Str×Value)).reverse.lookup x)(hk:∀b o,s.heap.get? b=some o->h1.get? b=some o)(cell:∀x c,fd.closure.lookup x=some c->H c=none/\∃v,s.heap.IsCell c v)(val:∀(i:Nat)x v,N[i]?=some x->vs[i]?=some v->∃c u,fd.closure.lookup x=some c/\RelV v u/\s.heap.IsCell c (some u))(hl:vs.length=N.length):Inv (cxL P w K mg base N fd fl A outer s H E) [] (vs.map some) H {s with heap:=h1,toks:=tk}:=by
 have ck:∀c v,s.heap.IsCell c v->h1.IsCell c v:=λc v=>by rintro⟨o,ho,z⟩;exact⟨o,hk c o ho,z⟩
 refine⟨⟨e0.mod,Z.kd,Z.gl,Z.bl,zA3 _,Z.nd,λx hx=>?_,λx c z=>(by cases z),λ_=>hd,Around.frames_deeper e0.frames,.inr ⟨rfl,rfl⟩,λb z=>absurd (show b∈([]:Qa9)from z) z01,e0.bs,e0.bsz,λb _ _ z=>absurd (show b∈([]:Qa9)from z) z01,λb z=>absurd (show b∈([]:Qa9)from z) z01,e0.funs,e0.frf⟩,rfl,e0.bare,Un.kept hk,⟨_,hn,λi x v e1 e2 e3=>?_⟩,λx c e=>?_,e0.hok.fresh (zA3 _),λx c e=>(cell x c e).1,λp hp=>absurd (show p∈([]:Qa1)from hp) z01,e0.hok.kept hk,by rw[zA1];exact hl⟩
 .rcases hx with hx|hx;.exact absurd rfl (Z.fr _ (PySem.mem_of_lookup (hx)))
  .exact Z.fl x hx
 .rw[zAb]at e2;cases q:vs[i]? with|none=>rw[q]at e2;cases e2;|some v'=>
   rw[q]at e2;have e2:v'=v:=by simpa using e2
   subst e2;obtain⟨c,u,ec,r,z⟩:=val i x v' e1 q;exact⟨u,r,.inr ⟨.inr (Z.nm x (zB5 e1)),c,ec,ck c _ z⟩⟩
 .obtain⟨_,v,z⟩:=cell x c e;exact⟨v,ck c v z⟩
theorem gr{K:Frag}:wO (cxL P w K mg base N fd fl A outer s H E) λa C H'=>E (.ref a) (some C) H':=by
 intro z06 σ H' s' a C tb I Iq na fa ft _ q;have dP:s'.heap.FunFrames base (rO fd fl s.heap.objs.size::outer):=I.stack;have kS:(A.deeper (rO fd fl s.heap.objs.size)).frames=some (rO fd fl s.heap.objs.size::outer):=I.ok.frames;have vx:(rO fd fl s.heap.objs.size).frame=some s.heap.objs.size:=rfl;have ub:Un (frs outer) [] H H' s.heap s'.heap:=I.base;have na:s.heap.get? a=none:=na;have ft:∀T,tb=.ref T->s.heap.get? T=none/\H' T=none:=ft;refine wN kS dP vx Iq λh' T nT iS k1 k2 k3=>?_;have apart:∀b o,s.heap.get? b=some o->b≠a/\tb≠.ref b:=λb o e=>⟨λz=>(by rw[z,na]at e;cases e),λz=>(by rw[(ft b z).1]at e;cases e)⟩;have HU:∀b o,s.heap.get? b=some o->b∉frs outer->b∉frs (rO fd fl s.heap.objs.size::outer):=λb o e hn hm=>by
  unfold frs at hm;rw[Za4,vx]at hm;rcases zAo.mp hm with z|z;.exact absurd (zB0 e) (by rw[z];exact Zaj _)
  .exact hn z
 refine⟨a,C,H',T,rfl,I.os,I.bare,⟨λb o e n hb _=>?_,λb o e n hb _=>?_,ub.free,λb o e hx=>?_,ub.tups,ub.frzs,ub.tbls⟩,λc o e=>?_,na,?_,fa,I.hok.no nT,iS,q⟩;.exact k1 b o (ub.keep b o e n hb z01) (apart b o e).1 (apart b o e).2 (HU b o e hb)
 .obtain⟨sl,e1⟩:=ub.slot b o e n hb z01;obtain⟨kB,e2⟩:=k2 b _ e1 (apart b o e).1 (apart b o e).2;exact⟨kB,e2⟩
 .obtain⟨o',e1⟩:=ub.there b o e hx;exact k3 b o' e1
 .refine(I.hok c o e).stay (λd v hd z=>?_) (λ_ z=>z) λ_ _ z=>z;have BN:∃o',H' d=some o':=by grind
  obtain⟨o',eo⟩:=BN;refine k1 d v z (λy=>(by rw[y,fa]at eo;cases eo)) (λy=>(by rw[(ft d y).2]at eo;cases eo)) λhm=>?_;rw[I.stkFree d hm]at eo;cases eo
 .exact I.was rfl nT
abbrev NoC(cs:Qa1)(H:Hp):Prop:=∀b o,cs.lookup b=some o->H b=none
theorem CX1.loose(B4:HOk P w H s.heap)(fr:∀b o,cs.lookup b=some o->H b=some (.frz o (.ext λ_=>True))/\b∉frs outer)(x:CX1 P w outer (er H cs) s (λe C H1=>NoC cs H1->E e C (fz H1 cs)) e s'):CX1 P w outer H s E e s':=by
 obtain⟨a,C,H1,T,rfl,os,bare,un,ok,na,nT,fa,fT,Iq,q⟩:=x;obtain⟨u,k⟩:=un.loose ok B4 fr;have no:∀b,s.heap.get? b=none->cs.lookup b=none:=λb z=>by cases y:cs.lookup b with|none=>rfl;|some o=>have:=(B4 b _ (fr b o y).1).1;rw[z]at this;cases this
 exact⟨a,C,_,T,rfl,os,bare,u,k,na,nT,by rw[eG (no a na)];exact fa,by rw[eG (no T nT)];exact fT,Iq,q λb o z=>un.free b o (B4 b _ (fr b o z).1).1 (mH z) z01⟩
theorem Jh{K:Frag}{body:Expr}{vs:List V}{cs:Qa1}{te:TE}{k:Nat}(Z:LamAt fd body N)(hr:Room k A)(e0:Env0 P w K mg base A outer s H)(B5:s.heap.get? fl=some ob)(qE:ob.data=.func fd)(ff:s.heap.CodeRec fd.code fd.qualname)(fr:∀b o,cs.lookup b=some o->H b=some (.frz o (.ext λ_=>True))/\b∉frs outer)(cell:∀x c,fd.closure.lookup x=some c->∃o v,cs.lookup c=some o/\o.data=.cell v)(val:∀(i:Nat)x v,N[i]?=some x->vs[i]?=some v->∃c u o,fd.closure.lookup x=some c/\RelV v u/\cs.lookup c=some o/\o.data=.cell (some u))(hl:vs.length=N.length)(md:PE (cxL P w K mg base N fd fl A outer s (er H cs) (λe C H1=>NoC cs H1->E e C (fz H1 cs))) body te)(h:te (vs.map some) (er H cs) λv H1=>NoC cs H1->Q v (fz H1 cs)):codeAny (model P w) A (.call (.ref fl) ⟨[],[]⟩) (CR (CX1 P w) outer P w H s Q E) s:=by
 have y7:∀b o,cs.lookup b=some o->s.heap.get? b=some o:=λb o q=>(e0.hok b _ (fr b o q).1).1;have NS:∀b,H b=none->er H cs b=none:=λb z=>by cases q:cs.lookup b with|some o=>exact mH q;|none=>rw[gq q];exact z
 have e1:Env0 P w K mg base A outer s (er H cs):=⟨e0.frames,e0.mod,λb o e=>⟨(e0.bs b o e).1,NS b (e0.bs b o e).2⟩,e0.bsz,e0.funs,λb hb=>NS b (e0.frf b hb),e0.hok.er λb o q=>(fr b o q).1,e0.bare⟩;refine kla_callFunE (by have:=hr.dp;lia) B5 qE Z.co Z.ge Z.bd ff ?_;rw[Z.ba];refine zAx (wpAny_newFunctionEnv Z.fr (λx hx=>absurd hx z01) (λh1 hn sb=>?_) Z.kd);have hk:∀b o,s.heap.get? b=some o->h1.get? b=some o:=λb o e=>(sb.2 b (zB7 (zB0 e))).trans (zAu _ e);refine⟨(e0.mod.nolimit.keeps λb o e=>(e0.bs b o e).1).keeps hk,?_⟩;have I:=Jg (fl:=fl) (E:=λe C H1=>NoC cs H1->E e C (fz H1 cs)) (tk:=s.toks+0) Z hr.hd e1 hn hk (λx c e=>(let⟨o,v,q,d⟩:=cell x c e;⟨mH q,v,o,y7 c o q,d⟩)) (λi x v e1 e2=>(let⟨c,u,o,a1,a2,a3,a4⟩:=val i x v e1 e2;⟨c,u,a1,a2,o,y7 c o a3,a4⟩)) hl;refine kla_codeExpr (wpAny_mono (md [] _ _ _ _ I h) (λu s' hv=>?_) λe s' hx=>?_);.obtain⟨v,H1,J,r,q⟩:=hv;obtain⟨un,k⟩:=Un.loose (fs:=frs outer) J.base J.hok e0.hok fr;exact⟨v,fz H1 cs,J.os,J.bare,un,k,r,q λb o z=>Un.free (fs:=frs outer) (ex:=[]) J.base b o (y7 b o z) (mH z) z01⟩
 .exact wpAny_mono hx (λ_ kN z=>CX1.loose e0.hok fr z) λe' kN z=>CX1.loose e0.hok fr z
abbrev held(o:Obj):HO:=.frz o (.ext λ_=>True)
structure LamObj(H:Hp)(fl:Addr)(fd:FuncData):Prop where
 ob:∃o,H fl=some (held o)/\o.data=.func fd
 cd:∃c oc vs t,fd.code=.ref c/\H c=some (held oc)/\oc.data=.fields vs/\vs[1]?=some (.str fd.qualname t)
def M3(X:Cx)(i:Nat)(E:XK):TE:=λσ H Q=>∃(fl:Addr)(fd:FuncData)(body:Expr)(N:Qa7)(vs:List V)(cs:Qa1)(te:TE),σ[i]?=some (some (.ref fl))/\LamObj H fl fd/\LamAt fd body N/\(∀b o,cs.lookup b=some o->H b=some (held o))/\(∀x c,fd.closure.lookup x=some c->∃o v,cs.lookup c=some o/\o.data=.cell v)/\(∀(i:Nat)(x:Str)(v:V),N[i]?=some x->vs[i]?=some v->∃c u o,fd.closure.lookup x=some c/\RelV v u/\cs.lookup c=some o/\o.data=.cell (some u))/\vs.length=N.length/\(∀s,PE (cxL X.prog X.w X.K X.mg X.base N fd fl X.A X.stack s (er H cs) (λe C H1=>NoC cs H1->E e C (fz H1 cs))) body te)/\te (vs.map some) (er H cs) λv H1=>NoC cs H1->Q v (fz H1 cs)
theorem M4{p pos:Pos}(hr:Room k X.A)(hN:X.N[i]?=some x)(hv:Vis X.env.scope x)(W:wO X λa C H=>E (.ref a) (some C) H)(hx:X.ex=[])(hd:Qad x:=by decide)(ff:(x==("__classdict__":Str))=false:=by decide):PE X (.Call (.Name x p) [] [] pos) (M3 X i E):=by
 intro z06 s σ H Q I h;obtain⟨fl,fd,body,N,vs,cs,te,Iy,L,Z,fr,cell,val,hl,md,q⟩:=h;obtain⟨o,ho,qE⟩:=L.ob;have B5:s.heap.get? fl=some o:=(I.hok fl _ ho).1;refine wpAny_Call_Name_kw (thn (ye (pos:=p) hN hv hd ff z06 s σ H (λv H'=>v=.ref fl/\H'=H) I ⟨_,Iy,rfl,rfl⟩) λf s1=>?_);rintro⟨v,H1,I1,r1,z1,z2⟩;subst z1 z2;cases(show f=Value.ref fl from r1);have B5:s1.heap.get? fl=some o:=(I1.hok fl _ ho).1;refine callWith_F0 (by obtain⟨oc,od,dt,sl⟩:=o;exact⟨oc,od,fd,sl,by rw[B5];exact congrArg some (by rw[show dt=Data.func fd from qE])⟩) ?_;obtain⟨c,oc,ws,t,ec,hc,IA,hw⟩:=L.cd;have TV:s1.heap.CodeRec fd.code fd.qualname:=⟨c,oc,ws,t,ec,(I1.hok c _ hc).1,IA,hw⟩;refine wpAny_call (codeAny_mono (Jh (k:=k) Z hr I1.env0 B5 qE TV (λb ob e=>⟨fr b ob e,λhm=>?_⟩) cell val hl (md s1) q) λr s' hq=>?_);.have:=I1.stkFree b hm;rw[fr b ob e]at this;cases this
 .cases r with|error e=>exact Kp W hx z06 σ _ s1 e s' I1 hq;|ok iS=>cases iS with|ret u=>exact I1.after hq;|next=>exact False.elim hq;|brk=>exact False.elim hq;|cont=>exact False.elim hq
def Ft(H:Hp)(c:Addr)(q:Str):Prop:=∃oc vs t,H c=some (held oc)/\oc.data=.fields vs/\vs[1]?=some (.str q t)
def TabOk(H:Hp)(P:Addr)(q:Str):Prop:=∃ps,H P=some (.tbl ps)/\TriplesOk ps.toList/\∀l,codeAmong l ps.toList=none\/∃c,codeAmong l ps.toList=some (.ref c)/\Ft H c q
theorem TabOk.keep(x:TabOk H P q)(kp:∀ps,H P=some (.tbl ps)->H' P=some (.tbl ps))(kh:∀b o,H b=some (held o)->H' b=some (held o)):TabOk H' P q:=by
 obtain⟨ps,e,t,h⟩:=x;refine⟨ps,kp ps e,t,λl=>?_⟩;rcases h l with z|⟨c,z,oc,vs,t',y,r⟩;.exact .inl z
 .exact .inr ⟨c,z,oc,vs,t',kh _ _ y,r⟩
theorem TabOk.same(x:TabOk H P q)(s:Same H H'):TabOk H' P q:=x.keep (λ_=>s _ _) λ_ _=>s _ _
theorem CP:∀a,TriplesOk a->codeAmong l (a++r)=(codeAmong l a).orElse λ_=>codeAmong l r:=λa h=>by fun_induction TriplesOk a with
 |case1=>simp[codeAmong];|case2 x t y u z rest ih=>
  simp only[List.cons_append,codeAmong];split;.rfl
  .exact ih h;|case3 a h1 h2=>exact h.elim
section
variable{T c fl:Addr}
theorem mJ(e:h.get? b=some o):ObjOk P w H h b (held o):=⟨e,trivial,⟨o,e⟩,λ_ _ _ _=>trivial⟩
theorem Ou(hT:H T=some (.tbl ps))(ok:HOk P w H h)(k:∀b o,b≠T->h.get? b=some o->h'.get? b=some o)(hp:h'.get? T=some (tabObj (ps++more)))(hc:h.objs.size<=c)(hf:h.objs.size<=fl)(ZY:c≠fl)(ec:h'.get? c=some oc)(ef:h'.get? fl=some ob):Un fs [] H (upd (upd (upd H T (.tbl (ps++more))) c (held oc)) fl (held ob)) h h'/\HOk P w (upd (upd (upd H T (.tbl (ps++more))) c (held oc)) fl (held ob)) h':=by
 have nc:=ok.fresh hc;have nf:=ok.fresh hf;have lt:∀b u,H b=some u->b≠c/\b≠fl:=λb u e=>⟨aH e nc,aH e nf⟩;have ml:∀b u,b≠T->H b=some u->upd (upd (upd H T (.tbl (ps++more))) c (held oc)) fl (held ob) b=some u:=λb u n e=>by rw[aD (lt b u e).2,aD (lt b u e).1,aD n];exact e
 have atT:upd (upd (upd H T (.tbl (ps++more))) c (held oc)) fl (held ob) T=some (.tbl (ps++more)):=by rw[aD (lt T _ hT).2,aD (lt T _ hT).1,ao]
 have old:∀b o,h.get? b=some o->b≠c/\b≠fl:=λb o e=>⟨zB7 (zB3 (zB0 e) hc),zB7 (zB3 (zB0 e) hf)⟩;refine⟨⟨λb o e n _ _=>k b o (λz=>(by rw[z,hT]at n;cases n)) e,λb o e n _ _=>⟨o.slots,k b o (λz=>(by rw[z,hT]at n;cases n)) e⟩,λb o e n _=>?_,λb o e _=>?_,λb xs e=>ml b _ (λz=>(by rw[z,hT]at e;cases e)) e,λb o u e=>ml b _ (λz=>(by rw[z,hT]at e;cases e)) e,λb qs e=>?_⟩,λb u e=>?_⟩;.rw[aD (old b o e).2,aD (old b o e).1,aD λz=>(by rw[z,hT]at n;cases n)];exact n
 .by_cases z:b=T;.rw[z];exact⟨_,hp⟩
  .exact⟨o,k b o z e⟩
 .by_cases z:b=T;.subst z;rw[hT]at e;cases e;exact⟨more,atT⟩
  .exact⟨#[],by rw[Array.append_empty];exact ml b _ z e⟩
 .by_cases z1:b=fl;.subst z1;rw[ao]at e;cases e;exact mJ ef
  .rw[aD z1]at e;by_cases z2:b=c;.subst z2;rw[ao]at e;cases e;exact mJ ec
   .rw[aD z2]at e;by_cases z3:b=T;.subst z3;rw[ao]at e;cases e;exact hp
    .rw[aD z3]at e;refine(ok b u e).stay (λd v hd q=>k d v (λy=>?_) q) (λd q=>ml d _ (λy=>(by rw[y,hT]at q;cases q)) q) λd xs q=>ml d _ (λy=>(by rw[y,hT]at q;cases q)) q;subst y;rcases hd with y|y;.exact z3 y.symm
     .rw[hT]at y;cases y
end
def tMk(T:Addr)(q:Str)(params:Arguments)(body:Expr)(scope:Scope)(cl:List (Str×Addr))(N:Qa7):TE:=λ_ H Q=>TabOk H T q/\∀fl pm cv ct H1,(∀b o,b≠T->H b=some o->H1 b=some o)->TabOk H1 T q->H fl=none->LamObj H1 fl (kla_fn "<lambda>" q params body scope cl pm cv ct)->LamAt (kla_fn "<lambda>" q params body scope cl pm cv ct) body N->Q (.ref fl) H1
structure LamTx(X:Cx)(params:Arguments)(body:Expr)(scope:Scope)(N:Qa7):Prop where
 df:defaultsOf params X.env=([],[])kd:scope.kind=.function
 co:scope.isCoroutine=false
 ge:scope.isGenerator=false
 fr:∀p∈scope.names,p.2≠.cell
 fl:∀p∈scope.names,p.2=NameKind.free->X.env.kindOf p.1=some .cell\/X.env.kindOf p.1=some .free
 ba:∀qual cl pm cv ct,bindArgs (kla_fn "<lambda>" qual params body scope cl pm cv ct) ⟨[],[]⟩=pure []nm:∀x∈N,scope.names.lookup x=some .free
theorem Fv(Z:LamTx X params body scope N)(gu:X.env.code=.ref cc)(hC:CodeHd X.base cc T)(hB:X.base.BuiltinsAt X.mg T):PE X (.Lambda params body scope cw) (tMk T (X.env.qual++"<lambda>") params body scope (cj X.env.cells scope.names []) N):=by
 intro z06 s σ H Q I h;obtain⟨⟨ps,hT,tr,am⟩,q⟩:=h;have hs:∀p∈scope.names,p.2=NameKind.free->(X.env.cells.lookup p.1).isSome=true:=λp hp e=>by obtain⟨c,z⟩:=I.ok.has p.1 (Z.fl p hp e);rw[z];rfl
 have lam:∀qual pm cv ct,LamAt (kla_fn "<lambda>" qual params body scope (cj X.env.cells scope.names []) pm cv ct) body N:=λqual pm cv ct=>⟨rfl,rfl,rfl,Z.kd,Z.co,Z.ge,Z.fr,λx hx=>jt _ _ (.inl ⟨_,PySem.mem_of_lookup hx,rfl⟩),λx y c h1 h2=>by
   rcases iM _ _ hs h1 with z|z;.cases z
   .rcases iM _ _ hs h2 with z2|z2;.cases z2
    .exact I.ok.inj x y c z z2,Z.ba _ _ _ _ _,Z.nm⟩;have hg:=I.mod.glob.keeps I.bk;have hP:s.heap.get? T=some (tabObj ps):=I.hok T _ hT;have TX:mainGlobals≠T:=λz=>by obtain⟨o,es,ep,e,_⟩:=I.mod.glob;have:=(I.bs _ _ e).2;rw[z,hT]at this;cases this
 have hb:s.heap.BuiltinsAt X.mg T:=by obtain⟨bm,o,b1,b2,b3,b4,b5,r⟩:=hB;exact⟨bm,o,b1,b2,b3,b4,I.bk _ _ b5,r⟩
 refine kla_eval Z.df ?_;rcases am cw with hn|⟨c,hf,oc,vs,t,hc,hd,hv⟩
 .refine kla_makeFunction (mg:=X.mg) (jO hs) I.ok.glob hg gu (hC.keeps I.bk) hP tr hn TX hb λc' oP h' tk hx kD aI IB B6=>?_;obtain⟨c₂,oc,vs,t,e2,EC,hd,hv⟩:=IB;cases e2;obtain⟨un,ok⟩:=Ou (P:=X.prog) (w:=X.w) (fs:=frs X.stack) (h':=h'.push (kla_obj "<lambda>" (X.env.qual++"<lambda>") params body scope (cj X.env.cells scope.names []) ((X.mg "__name__").getD .none) c' oP)) (fl:=h'.objs.size) hT I.hok (λb o n e=>zAu _ (hx b o n e)) (zAu _ B6) kD (Zaf kD (Za7 aI)) (zB7 aI) (zAu _ EC) (zB1 _ rfl);have J:=I.call (ch:=[]) (g':=s.gens) (t':=tk) (d':=s.drawn) un ok I.bare λb z=>absurd z z01;have nc:H c'=none:=I.hok.fresh kD;have nf:H h'.objs.size=none:=I.hok.fresh (Zaf kD (Za7 aI));have kp:∀b o,b≠T->H b=some o->upd (upd (upd H T (.tbl (ps++#[rawInt cw.line,rawInt cw.col,.ref c']))) c' (held oc)) h'.objs.size (held (kla_obj "<lambda>" (X.env.qual++"<lambda>") params body scope (cj X.env.cells scope.names []) ((X.mg "__name__").getD .none) c' oP)) b=some o:=λb o n e=>by rw[aD (aH e nf),aD (aH e nc),aD n];exact e
  have cd:Ft (upd (upd (upd H T (.tbl (ps++#[rawInt cw.line,rawInt cw.col,.ref c']))) c' (held oc)) h'.objs.size (held (kla_obj "<lambda>" (X.env.qual++"<lambda>") params body scope (cj X.env.cells scope.names []) ((X.mg "__name__").getD .none) c' oP))) c' (X.env.qual++"<lambda>"):=⟨oc,vs,t,by rw[aD (zB7 aI),ao],hd,hv⟩;refine⟨.ref h'.objs.size,_,J,rfl,q _ ((X.mg "__name__").getD .none) (.ref c') oP _ kp ⟨ps++#[rawInt cw.line,rawInt cw.col,.ref c'],?_,?_,λl=>?_⟩ nf ⟨⟨_,ao,rfl⟩,?_⟩ (lam _ _ _ _)⟩;.rw[aD (aH hT nf),aD (aH hT nc),ao]
  .rw[Zak];exact TriplesOk_snoc _ _ _ _ tr
  .rw[Zak,CP _ tr];rcases am l with z|⟨c,z,TY,HZ,t2,y,r⟩
   .rw[z];show codeAmong l [rawInt cw.line,rawInt cw.col,.ref c']=none\/_;simp only[codeAmong,rawInt];by_cases e:((cw.line:Int)==(l.line:Int)&&(cw.col:Int)==(l.col:Int))=true;.refine .inr ⟨c',?_,cd⟩;show codeAmong l [rawInt cw.line,rawInt cw.col,.ref c']=some (.ref c');simp only[codeAmong,rawInt];rw[zAz e]
    .refine .inl ?_;rw[zAy e]
   .rw[z];exact .inr ⟨c,rfl,TY,HZ,t2,kp _ _ (λw'=>by rw[w',hT]at y;cases y) y,r⟩
  .obtain⟨TZ,T2,t3,a1,a2,a3⟩:=cd;exact⟨c',TZ,T2,t3,rfl,a1,a2,a3⟩
 .refine kla_makeFunctionHit (mg:=X.mg) (jO hs) I.ok.glob hg gu (hC.keeps I.bk) hP tr hf hb λoP h' tk hk hsz=>?_;have J:=I.laid (a:=h'.objs.size) (o:=held (kla_obj "<lambda>" (X.env.qual++"<lambda>") params body scope (cj X.env.cells scope.names []) ((X.mg "__name__").getD .none) c oP)) (h':=h'.push (kla_obj "<lambda>" (X.env.qual++"<lambda>") params body scope (cj X.env.cells scope.names []) ((X.mg "__name__").getD .none) c oP)) (t':=tk) (λb u e=>zAu _ (hk b u e)) hsz (mJ (zB1 _ rfl));have nf:H h'.objs.size=none:=I.hok.fresh hsz;have kp:Same H (upd H h'.objs.size (held (kla_obj "<lambda>" (X.env.qual++"<lambda>") params body scope (cj X.env.cells scope.names []) ((X.mg "__name__").getD .none) c oP))):=λb o e=>by rw[aD (aH e nf)];exact e
  exact⟨.ref h'.objs.size,_,J,rfl,q _ ((X.mg "__name__").getD .none) (.ref c) oP _ (λb o _ e=>kp b o e) (TabOk.same ⟨ps,hT,tr,am⟩ kp) nf ⟨⟨_,ao,rfl⟩,c,oc,vs,t,rfl,kp _ _ hc,hd,hv⟩ (lam _ _ _ _)⟩
structure CellsOf(cl:List (Str×Addr))(N:Qa7)(vs:List V)(H:Hp)(cs:Qa1):Prop where
 no:∀b o,cs.lookup b=some o->H b=none
 cell:∀x c,cl.lookup x=some c->∃o v,cs.lookup c=some o/\o.data=.cell v
 val:∀(i:Nat)x v,N[i]?=some x->vs[i]?=some v->∃c u o,cl.lookup x=some c/\RelV v u/\cs.lookup c=some o/\o.data=.cell (some u)
theorem Ov:∀{l:Qa1},l.lookup b=some o->(b,o)∈l|[],e=>by cases e;|(a,x)::r,e=>by rw[Zay]at e;cases z:b==a with|true=>rw[z]at e;cases e;rw[eq_of_beq z];exact .head _;|false=>rw[z]at e;exact .tail _ (Ov e)
theorem tV:∀{fp:Qa9},(dX fp h).lookup b=some o->b∈fp/\h.get? b=some o:=λ{fp}e=>ni (p:=(b,o)) (Ov e)
theorem kY(e:h.get? b=some o):∀{fp:Qa9},b∈fp->(dX fp h).lookup b=some o
 |[],z=>absurd z z01|a::r,z=>by
  have un:dX (a::r) h=match(h.get? a).map (λo=>(a,o))with|some p=>p::dX r h|none=>dX r h:=by unfold dX;rw[Za4];cases(h.get? a).map (λo=>(a,o))<;>rfl
  rw[un];by_cases y:b=a;.subst y;rw[e];show List.lookup b ((b,o)::dX r h)=_;rw[Zay,beq_self_eq_true]
  .have ih:=kY e (fp:=r) ((zAo.mp z).resolve_left y);cases q:h.get? a with|none=>exact ih;|some o'=>show List.lookup b ((a,o')::dX r h)=_;rw[Zay,show(b==a)=false by simpa using y];exact ih
theorem wX:∀l acc,q∈cj cells l acc->q∈acc\/∃k,(q.1,k)∈l/\k=NameKind.free/\q.2=(cells.lookup q.1).getD 0
 |[],_,h=>.inl h|(n,k)::r,acc,h=>by
  have h':q∈cj cells r (if k=.free then(n,(cells.lookup n).getD 0)::acc else acc):=h;rcases wX r _ h' with e|⟨k',e1,e2⟩
  .by_cases hk:k=.free
   .rw[zAz hk]at e;rcases zAo.mp e with z|z;.cases z;exact .inr ⟨k,Zan,hk,rfl⟩
    .exact .inl z
   .rw[zAy hk]at e;exact .inl e
  .exact .inr ⟨k',Zai _ e1,e2⟩
def Kq(sp:Sp)(N:Qa7)(ix:List Nat)(cl:List (Str×Addr))(te:TE):TE:=λσ H Q=>te σ H λv H1=>∃vs:List V,vs.length=N.length/\(∀(j i:Nat)u,ix[j]?=some i->vs[j]?=some u->σ[i]?=some (some u))/\∀cs,CellsOf cl N vs H1 cs->sp [v] (fz H1 cs) (λv H2=>Q v (er H2 cs)) E0
theorem Ji{p pos:Pos}{scope:Scope}(F:FnOk X.prog X.w X.K X.mg X.base CX0 k f fd [y] sp)(hr:Room k X.A)(hg:Gl X x)(hm:X.mg x=some (.ref f))(hk:PySem.W.keepIn X.K (.ref f)=true)(hb:Binds X.K fd [y] [])(hx:X.ex=[])(hp:∀p∈scope.names,p.2=NameKind.free->X.env.kindOf p.1=some .cell/\X.fn p.1=true)(hN:∀(j:Nat)x,N[j]?=some x->∃i,ix[j]?=some i/\X.N[i]?=some x/\scope.names.lookup x=some .free)(ha:PE X arg te)(fE:Qad x:=by decide)(he:starEach [arg] X.env=(false,eval arg X.env)::starEach [] X.env:=by rfl)(fx:(backTo pos (starEach [] X.env)).any (·.1)=false:=by rfl):PE X (.Call (.Name x p) [arg] [] pos) (Kq sp N ix (cj X.env.cells scope.names []) te):=by
 intro z06 s σ H Q I h;refine wpAny_Call_Name_kw (jL I hg hm ?_ fE);refine PySem.W.callWith_K (h₀:=X.base) I.ok.mod.kin hk (thn (aP ha aj he pos z06 s σ H (λvs H1=>∃ws:List V,ws.length=N.length/\(∀(j i:Nat)(u:V),ix[j]?=some i->ws[j]?=some u->σ[i]?=some (some u))/\∀cs,CellsOf (cj X.env.cells scope.names []) N ws H1 cs->sp vs (fz H1 cs) (λv H2=>Q v (er H2 cs)) E0) I h) λus s1 z=>?_) he fx;obtain⟨vs,H1,I1,r,ws,hw,gE,q⟩:=z;refine⟨I1.kIn,?_⟩;have hs:∀p∈scope.names,p.2=NameKind.free->(X.env.cells.lookup p.1).isSome=true:=λp iX e=>by obtain⟨c,z⟩:=I1.ok.has p.1 (.inl (hp p iX e).1);rw[z];rfl
 have sub:∀x c,(cj X.env.cells scope.names []).lookup x=some c->X.env.cells.lookup x=some c:=λx c e=>by
  rcases iM _ _ hs e with z|z;.cases z
  .exact z
 have at':∀b∈(cj X.env.cells scope.names []).map (·.2),∃x,X.env.cells.lookup x=some b/\X.fn x=true:=λb fm=>by
  obtain⟨q',T3,rfl⟩:=zA5.mp fm;rcases wX _ _ T3 with z|⟨k',fk,rfl,e⟩;.cases z
  .obtain⟨c,hc⟩:=Zax.mp (hs _ fk rfl);refine⟨q'.1,?_,(hp _ fk rfl).2⟩;rw[e,show X.env.cells.lookup q'.1=some c from hc];rfl
 obtain⟨cs,ES⟩:∃cs,cs=dX ((cj X.env.cells scope.names []).map (·.2)) s1.heap:=⟨_,rfl⟩;have NU:∀x c,(cj X.env.cells scope.names []).lookup x=some c->c∈(cj X.env.cells scope.names []).map (·.2):=λx c e=>zA5.mpr ⟨(x,c),PySem.mem_of_lookup e,rfl⟩;have L:Loose H1 s1.heap (frs X.stack) cs:=λb o e=>by
  rw[ES]at e;obtain⟨fm,e'⟩:=tV e;obtain⟨x',dQ,nE⟩:=at' b fm;refine⟨e',I1.freeC x' b dQ,λz=>?_⟩;rcases zAo.mp (I1.stkSub b z)with y'|y';.exact I1.cne x' b dQ y'
  .obtain⟨_,o',kz,_⟩:=I1.ok.funs.mem y';exact absurd (zB3 (zB0 kz) (I1.ok.cab x' b nE dQ)) (Zaj _)
 have C:CellsOf (cj X.env.cells scope.names []) N ws H1 cs:=by
  refine⟨λb o e=>(L b o e).2.1,λx' c e=>?_,λi x' v e1 e2=>?_⟩;.obtain⟨v,o,ho,hd⟩:=I1.cell x' c (sub x' c e);exact⟨o,v,by rw[ES];exact kY ho (NU x' c e),hd⟩
  .obtain⟨j,e3,e4,e5⟩:=hN i x' e1;obtain⟨m,hn,hl⟩:=I1.loc;have NV:=(hp (x',.free) (PySem.mem_of_lookup e5) rfl).1;obtain⟨u,ru,lk⟩:=hl j x' v e4 (gE i j v e3 e2) (.inr (.inl NV));rcases lk with⟨kl,_⟩|⟨_,c,ec,o,ho,hd⟩;.rw[NV]at kl;cases kl
   .obtain⟨c',bg⟩:=jt (cells:=X.env.cells) (x:=x') scope.names [] (.inl ⟨_,PySem.mem_of_lookup e5,rfl⟩);have:=sub x' c' bg;rw[ec]at this;cases this;exact⟨c,u,o,bg,ru,by rw[ES];exact kY ho (NU x' c bg),hd⟩
 have q:=q cs C;have hok:=I1.hok.fz L;have e0:Env0 X.prog X.w X.K X.mg X.base X.A X.stack s1 (fz H1 cs):=by
  have e1:=I1.env0;refine⟨e1.frames,e1.mod,λb o e=>⟨(e1.bs b o e).1,?_⟩,e1.bsz,e1.funs,λb fm=>?_,hok,e1.bare⟩;.cases z:cs.lookup b with|none=>rw[eG z];exact(e1.bs b o e).2;|some o'=>have z':=z;rw[ES]at z';obtain⟨x',dQ,nE⟩:=at' b (tV z').1;exact absurd (zB3 (zB0 (I1.ok.bs b o e).1) (I1.ok.cab x' b nE dQ)) (Zaj _)
  .cases z:cs.lookup b with|none=>rw[eG z];exact e1.frf b fm;|some o'=>exact absurd fm (L b o' z).2.2
 have hl:(us++[]).length=[y].length:=by rw[zAn,<-r.length];exact F.len _ _ _ _ q
 have BQ:=hb s1 us I1.kIn hl;rw[zAn]at BQ;refine wpAny_call (codeAny_mono (F.run X.A X.stack s1 (fz H1 cs) ⟨us,[]⟩ us vs _ E0 hr e0 BQ r q) λrr s' hq=>?_);cases rr with|error e=>exact(show False from hq).elim;|ok fl=>cases fl with|ret u=>obtain⟨v,H2,os,bare,un,mf,rv,qq⟩:=hq;obtain⟨un',om,_⟩:=un.held mf L;exact I1.after (Q:=Q) ⟨v,er H2 cs,os,bare,un',om,rv,qq⟩;|next=>exact False.elim hq;|brk=>exact False.elim hq;|cont=>exact False.elim hq
def wY(scope sc:Scope)(NX N:Qa7)(ix:List Nat):Bool:=decide (scope.kind=.function)&&!scope.isCoroutine&&!scope.isGenerator&&scope.names.all (λp=>decide (p.2≠NameKind.cell)&&(decide (p.2≠NameKind.free)||decide (sc.names.lookup p.1=some NameKind.cell)))&&(N.zip ix).all (λq=>decide (NX[q.2]?=some q.1)&&decide (scope.names.lookup q.1=some NameKind.free))&&decide (N.length=ix.length)
theorem Fun.okC{K:Frag}{st:Stmt}{f cc:Addr}{fd:FuncData}{N ps:Qa7}{k:Nat}{sp:Sp}(F:Fun K x qual st f fd)(hc:fd.code=.ref cc)(S:FnScope N ps (aC st))(len:∀vs H Q E,sp vs H Q E->vs.length=ps.length)(aS:∀A outer s H vs Q E,Room k (A.deeper (envOfC qual (aC st) s.heap.objs.size f (.ref cc)))->sp vs H Q E->∃t,PSs (jr CX0 P w K mg base N qual (aC st) f (.ref cc) A outer s H E).nox (cV st) t/\t {nx:=λ_ H'=>Q .non H',rt:=Q} (start N vs) H):FnOk P w K mg base CX0 (k+1) f fd ps sp:=by obtain⟨oc,od,kV,doc,pm,an,af,ct,kP,rfl,lk,ff⟩:=F.ex;subst hc;refine DR lk ff S len λA outer s H vs Q E hr iO=>?_;obtain⟨t,h,q⟩:=aS A outer s H vs Q E hr iO;exact⟨t,h.nox,q⟩
theorem Fun.oqC{K:Frag}{st:Stmt}{f cc:Addr}{fd:FuncData}{N ps:Qa7}{k:Nat}{sp:Sp}(F:Fun K x qual st f fd)(hc:fd.code=.ref cc)(S:FnScope N ps (aC st))(aS:∀A outer s H vs Q E,Room k (A.deeper (envOfC qual (aC st) s.heap.objs.size f (.ref cc)))->sp vs H Q E->∃t,PSs (jr CX0 P w K mg base N qual (aC st) f (.ref cc) A outer s H E).nox (cV st) t/\t {nx:=λ_ H'=>Q .non H',rt:=Q} (start N vs) H)(len:LenOk sp ps:=by exact{}):FnOk P w K mg base CX0 (k+1) f fd ps sp:=F.okC hc S len.h aS
section
mutual
theorem IsTh.kp(k:∀b o,(∀ps,o≠HO.tbl ps)->(∀ob u,o≠HO.frz ob u)->H b=some o->H' b=some o)(hS:∀b o,(∀ps,o≠HO.tbl ps)->(∀ob u,o≠HO.frz ob u)->S b->H b=some o->S' b):∀{v:V}{d:PyData},IsTh S H v d->IsTh S' H' v d|_,_,.non=>.non|_,_,.bl b=>.bl b|_,_,.int i=>.int i|_,_,.str x=>.str x|_,_,.lst s e r=>.lst (hS _ _ (λ_ z=>by cases z) (λ_ _ z=>by cases z) s e) (k _ _ (λ_ z=>by cases z) (λ_ _ z=>by cases z) e) (IsThs.kp k hS r)|_,_,.tup e r=>.tup (k _ _ (λ_ z=>by cases z) (λ_ _ z=>by cases z) e) (IsThs.kp k hS r)|_,_,.dct s e=>.dct (hS _ _ (λ_ z=>by cases z) (λ_ _ z=>by cases z) s e) (k _ _ (λ_ z=>by cases z) (λ_ _ z=>by cases z) e)
theorem IsThs.kp(k:∀b o,(∀ps,o≠HO.tbl ps)->(∀ob u,o≠HO.frz ob u)->H b=some o->H' b=some o)(hS:∀b o,(∀ps,o≠HO.tbl ps)->(∀ob u,o≠HO.frz ob u)->S b->H b=some o->S' b):∀{vs:List V}{ds:Qa3},IsThs S H vs ds->IsThs S' H' vs ds|_,_,.nil=>.nil|_,_,.cons h t=>.cons (IsTh.kp k hS h) (IsThs.kp k hS t)
end
theorem IsTh.tbl(h:IsTh S H v d)(t:TabOk H T q)(k:∀b o,b≠T->H b=some o->H' b=some o):IsTh S H' v d:=h.kp (λb o n1 _ e=>k b o (λz=>by obtain⟨ps,y,_⟩:=t;rw[z,y]at e;cases e;exact n1 _ rfl) e) λ_ _ _ _ s _=>s
theorem Ow(no:NoC cs H):er (fz H cs) cs=H:=by funext b;cases q:cs.lookup b with|some o=>rw[mH q,no b o q];|none=>rw[gq q,eG q]
theorem Same.fz(s:Same H H'):Same (L2.fz H cs) (L2.fz H' cs):=λb o e=>by cases q:cs.lookup b with|some u=>rw[tU q]at e⊢;exact e;|none=>rw[eG q]at e⊢;exact s b o e
theorem Ai(s:Same (fz H cs) H1)(n:∀ob u,o≠HO.frz ob u)(e:H1 b=some o):er H1 cs b=some o:=by cases q:cs.lookup b with|some u=>rw[s b _ (tU q)]at e;cases e;exact absurd rfl (n _ _);|none=>rw[gq q];exact e
theorem Same.er(s:Same (L2.fz H cs) H1)(no:NoC cs H):Same H (L2.er H1 cs):=λb o e=>by cases q:cs.lookup b with|some u=>rw[no b u q]at e;cases e;|none=>rw[gq q];exact s b o (by rw[eG q];exact e)
end
theorem CQ{K:Frag}{sp:Sp}{s₁:Shared}{vs:Qa4}{ns:WF}(KX:K.In s₁.heap)(IC:s₁.heap.Ns mainGlobals mg)(hb:s₁.heap.Ns builtinsNs mb)(T4:∀x:Str,x≠"__name__"->mb x=bootBuiltins x)(ID:s₁.heap.NoLimit)(hg:s₁.gens=#[])(hC:CodeHd s₁.heap c T)(hT:s₁.heap.get? T=some (tabObj #[]))(hK:noTabs K=true)(bmain:∃bm ob,mg "__builtins__"=some (.ref bm)/\bm≠builtinsNs/\s₁.heap.get? bm=some ob/\ob.cls=.type "module"/\ob.dict=some builtinsNs/\ob.data=.plain)(ha:s₁.heap.get? a=some {cls:=.type "list",data:=.seq vs.toArray})(hi:IntsAre vs ns)(hl:ns.length<=sizeLine)(hr:Room k callerA)(F:∀base,K.In base->base.Ns mainGlobals mg->CodeHd base c T->base.BuiltinsAt mg T->FnOk P w K mg base CX k fa fd [x] sp)(B7:∀s u,BindsTo s fd ⟨[u],[]⟩ [(x,u)])(iO:∀H,SqL K H a (ns.map V.int)->TabOk H T qn->sp [.ref a] H (λv _=>v=.bl true) λ_ _ _=>False)(IE:∀H e s',CX [] H s₁ (λ_ _ _=>False) e s'->False):codeAny (model P w) callerA (.call (.ref fa) ⟨[.ref a],[]⟩) (λr s'=>r=.ok (.ret (.bool true))/\OldK s₁.heap s'.heap/\s'.os=s₁.os/\AllBare s'.gens) s₁:=by
 have rv:=sY hi;have IF:=hi.length;have neT:a≠T:=λz=>by rw[z,hT]at ha;cases ha
 have T5:K.lookup T=none:=by cases e:K.lookup T with|none=>rfl;|some o=>have h1:=KX _ _ e;rw[hT]at h1;cases h1;have h2:=Zae.mp hK _ (mem_of_lookupK e);exact absurd (show false=true from h2) zAg
 have core:∀H:Hp,H T=some (.tbl #[])->(∀b,b≠T->H b=none\/∃o xs,H b=some (.frz o (.lst xs)))->SqL K H a (ns.map V.int)->HOk P w H s₁.heap->(∀b,H b≠none->b=a\/b=T)->(H a≠none->K.lookup a=none)->codeAny (model P w) callerA (.call (.ref fa) ⟨[.ref a],[]⟩) (λr s'=>r=.ok (.ret (.bool true))/\OldK s₁.heap s'.heap/\s'.os=s₁.os/\AllBare s'.gens) s₁:=by
  intro H eT hO hS hok hA T6;have fe:∀{b:Addr}{o:Obj},s₁.heap.get? b=some o->H b=none->(pL s₁.heap H).get? b=some o:=λe n=>Dv e n;have apart:∀{b:Addr}{o:Obj},s₁.heap.get? b=some o->(∀z08 n,o.data≠.seq z08 n)->o.cls≠.none->H b=none:=λ{b o}e h1 h2=>by grind
  have AR:∀{b:Addr}{o:Obj}{es:Array DictEntry}{ep:Nat},s₁.heap.get? b=some o->o.data=.dict es ep->H b=none:=λ{b o es ep}e d=>by cases q:H b with|none=>rfl;|some u=>
    rcases hA b (by rw[q];simp)with z|z;.rw[z,ha]at e;cases e;cases d
    .rw[z,hT]at e;cases e;cases d
  have ET:∀{b:Addr}{m:Qa0},s₁.heap.Ns b m->(pL s₁.heap H).Ns b m:=λ{b m}⟨o,es,ep,e,d,r⟩=>⟨o,es,ep,fe e (AR e d),d,r⟩;have NW:K.In (pL s₁.heap H):=λb o e=>fe (KX b o e) (by cases q:H b with|none=>rfl;|some u=>
    rcases hA b (by rw[q];simp)with z|z;.subst z;rw[T6 (by rw[q];simp)]at e;cases e
    .rw[z,T5]at e;cases e);have hM:Mod K mg (pL s₁.heap H):=⟨NW,ET IC,⟨mb,ET hb,T4⟩,let⟨mc,h1,h2⟩:=ID;⟨mc,ET h1,h2⟩⟩;have e0:Env0 P w K mg (pL s₁.heap H) callerA [] s₁ H:=⟨rfl,hM,λb o e=>Ie e,Nat.le_of_eq (BJ _ _),trivial,λb hb=>absurd (show b∈([]:Qa9)from hb) z01,hok,.of_eq hg⟩;have T7:CodeHd (pL s₁.heap H) c T:=by obtain⟨o,T8,file,tf,flags,tg,Bi,text,tt,e,h1,h2,r⟩:=hC;exact⟨o,T8,file,tf,flags,tg,Bi,text,tt,fe e (apart e (λz08 n z=>by rw[h2]at z;cases z) λz=>by rw[h1]at z;cases z),h1,h2,r⟩
  have T9:(pL s₁.heap H).BuiltinsAt mg T:=by
   obtain⟨bm,ob,b1,b2,b3,b4,b5,b6⟩:=bmain;refine⟨bm,ob,b1,b2,λz=>?_,λz=>?_,fe b3 (apart b3 (λz08 n z=>by rw[b6]at z;cases z) λz=>by rw[b4]at z;cases z),b4,b5,b6⟩;.obtain⟨o,es,ep,e,d,_⟩:=IC;rw[z,e]at b3;cases b3;rw[d]at b6;cases b6
   .rw[z,hT]at b3;cases b3;cases b4
  refine codeAny_mono ((F _ NW (ET IC) T7 T9).run callerA [] s₁ H ⟨[.ref a],[]⟩ [.ref a] [.ref a] _ _ hr e0 (B7 s₁ (.ref a)) (.cons rfl .nil) (iO H hS ⟨#[],eT,trivial,λl=>.inl rfl⟩)) λr s' h=>?_;cases r with|error e=>exact(IE H e s' h).elim;|ok fl=>cases fl with|next=>exact False.elim h;|brk=>exact False.elim h;|cont=>exact False.elim h;|ret u=>
    obtain⟨v,H',os,bare,un,B9,r',q⟩:=h;have q':v=.bl true:=q;subst q';obtain rfl:u=Value.bool true:=r';have kept:∀b o,b≠T->s₁.heap.get? b=some o->s'.heap.get? b=some o:=λb o nb e=>by
     rcases hO b nb with z|⟨ob,xs,z⟩;.exact un.keep b o e z (by intro z;exact absurd (show b∈([]:Qa9)from z) z01) z01
     .have z2:=un.frzs b ob _ z;obtain⟨e1,_⟩:=hok b _ z;obtain⟨e2,_⟩:=B9 b _ z2;rw[e]at e1;cases e1;exact e2
    obtain⟨more,Ua⟩:=un.tbls T #[] eT;have NY:s'.heap.get? T=some (tabObj (#[]++more)):=B9 T _ Ua;refine⟨rfl,⟨λb o e=>?_,λb o e=>?_⟩,os,bare⟩
    .by_cases z:b=T;.subst z;rw[hT]at e;cases e;exact .inr (.inl ⟨(hC.tab hT).isCodeTable,rfl,#[],more,rfl,NY⟩)
     .exact .inl (kept b o z e)
    .by_cases z:b=T;.rw[z];exact⟨_,NY⟩
     .exact⟨o,kept b o z e⟩
 cases hk:K.lookup a with|some o=>
  have e:=KX a o hk;rw[ha]at e;cases e;refine core (λb=>if b=T then some (.tbl #[])else none) (zAz rfl) (λb nb=>.inl (zAy nb)) (.inr ⟨_,vs.toArray,_,hk,rfl,rfl,rfl,by rw[zA8,IF];exact hl,by simpa using rv⟩) (λb u z=>?_) (λb z=>?_) λz=>absurd (zAy neT) z
  .by_cases fm:b=T;.have z':=(zAz fm).symm.trans z;cases z';subst fm;exact hT
   .have z':=(zAy fm).symm.trans z;cases z'
  .by_cases fm:b=T;.exact .inr fm
   .exact absurd (zAy fm) z;|none=>
  refine core (λb=>if b=T then some (.tbl #[])else if b=a then some (.frz {cls:=.type "list",data:=.seq vs.toArray} (.lst (ns.map V.int)))else none) (zAz rfl) (λb nb=>?_) (.inl (.inr ⟨{cls:=.type "list",data:=.seq vs.toArray},(zAy neT).trans (zAz rfl)⟩)) (λb u z=>?_) (λb z=>?_) λ_=>hk
  .by_cases fm:b=a;.exact .inr ⟨_,_,(zAy nb).trans (zAz fm)⟩
   .exact .inl ((zAy nb).trans (zAy fm))
  .by_cases mn:b=T;.have z':=(zAz mn).symm.trans z;cases z';subst mn;exact hT
   .by_cases fm:b=a;.have z':=((zAy mn).trans (zAz fm)).symm.trans z;cases z';subst fm;exact⟨ha,by rw[zA1];exact hl,vs,_,rv,ha⟩
    .have z':=((zAy mn).trans (zAy fm)).symm.trans z;cases z'
  .by_cases mn:b=T;.exact .inr mn
   .by_cases fm:b=a;.exact .inl fm
    .exact absurd ((zAy mn).trans (zAy fm)) z
theorem walk_ofT{l:PySem.W.OpenLaw}{K:Params->Frag}{CX:World->CXT}{sp:World->Sp}{x nm qn:Str}{c T:Addr}(hn:l.most=some n)(A7:n<=sizeLine)(tN:d.params.defaults=[])(hr:Room k callerA)(hY:∀w h,YP w h->(K w.params).In h)(IG:(recsOf q).find? (λe=>e.name==nm)=some dr)(B6:∀p,tabIn (K p) nm=some (c,T))(IH:∀p,noTabs (K p)=true)(F:∀w mg fa h,(K w.params).In h->h.Ns mainGlobals mg->mg d.name=some (.ref fa)->∃fd,(∀s u,BindsTo s fd ⟨[u],[]⟩ [(x,u)])/\∀base,(K w.params).In base->base.Ns mainGlobals mg->CodeHd base c T->base.BuiltinsAt mg T->FnOk l.prog w (K w.params) mg base (CX w) k fa fd [x] (sp w))(iO:∀w H a(ns:WF),ns.length<=n->SqL (K w.params) H a (ns.map V.int)->TabOk H T qn->sp w [.ref a] H (λv _=>v=.bl true) λ_ _ _=>False)(IE:∀w H s e s',CX w [] H s (λ_ _ _=>False) e s'->False):PySem.W.WalkO q loose XP YP l.row.toRowW d [] (λf vs=>PySem.call f vs):=by refine Att.attach_call hn tN λw s₀ s₁ mg mb fa o pm cd doc a vs ns G Y ho hd ff hmg tP hints hlen hg=>?_;have KX:=hY w _ Y;obtain⟨fd,hb,hF⟩:=F w mg fa _ KX G.T.g hmg;obtain⟨hC,hT⟩:=tab_of G.T KX IG (B6 w.params);exact CQ KX G.T.g G.T.b G.T.builtins G.T.nolimit hg hC hT (IH w.params) G.T.bmain tP hints (Zaf hlen A7) hr hF hb (λH hS Ub=>iO w H a ns hlen hS Ub) λH e s'=>IE w H s₁ e s'
inductive RRepNI(x:V)(y:V)(H:Hp)(Q:VK):Prop|mk:∀l k xs,(x=.ref l)->(y=.int k)->(H l=some (.lst xs))->(-(2^63)<=k)->(k<2^63)->(xs.length*k.toNat<=sizeLine)->(∀p,H p=none->p≠sysModules->Q (.ref p) (upd H p (.lst (List.replicate k.toNat xs).flatten)))->RRepNI  x y H Q
def Ox:R2:=λx y H Q=>RRepNI  x y H Q
theorem Aj:OpR X (binaryOp .Mult) Ox:=by
 intro z06 s σ H x y v u Q I rx ry h;obtain⟨l,k,xs,rfl,rfl,hH,h1,h2,hz,q⟩:=h;cases rx;obtain⟨t,rfl⟩:=ry;obtain⟨z,z08,n,r,hl,e⟩:=I.lstM hH;have hlen:z08.toArray.size*k.toNat<=sizeLine:=by rw[zA8,<-hl];exact hz
 have tF:¬z08.toArray.size*k.toNat>(2^63-1)/8:=by
  have:(sizeLine:Nat)<=(2^63-1)/8:=by decide
  lia
 have tI:¬(!Builtin.List.listFitsIndex k)=true:=by rw[fitsIndex_both h1 h2];exact zAg
 have fh:¬Builtin.List.listTooLong (z08.toArray.size*k.toNat)=true:=by rw[lH hlen];exact zAg
 have tJ:List.foldl (λx1 x2=>x1++x2) #[] (List.replicate (if z08.toArray.isEmpty=true then 0 else k.toNat) z08.toArray)=(List.replicate k.toNat z08).flatten.toArray:=by
  have f0:∀m:Nat,List.foldl (λx1 x2=>x1++x2) #[] (List.replicate m z08.toArray)=(List.replicate m z08).flatten.toArray:=λm=>by have:=foldl_rep z08 m [];rw[List.nil_append]at this;exact this
  rw[f0];cases z08 with|nil=>simp;|cons a r'=>rw[zAy z01]
 refine wpAny_binaryOp_repeat_ref (T:="list") (U:="int") z02 ⟨_,e,rfl⟩ (λs'=>typeIs_int s' k t) noFill_list_mul F.fills_int_mul F.slot_int_rmul repeat_list F.slot_int_index.lookup (call_meets F.slot_int_rmul (typeIs_int s k t) F.entry_int_rmul (F.args_int_rmul_2 _ _) (int___rmul___int_list k t l z08.toArray n) ⟨e,rfl,⟨_,e,rfl⟩,call_meets F.slot_list_mul ⟨_,e,rfl⟩ F.entry_list_mul (F.args_list_mul_2 _ _) (AutoListH.list___mul___list_int_3 l z08.toArray n k t tI tF fh) ⟨e,?_⟩⟩);rw[tJ];exact⟨.ref _,_,I.lnew (t':=s.toks) (r.rep k.toNat) (by rw[len_rep,Nat.mul_comm];exact hz),rfl,q _ I.fresh (Zam I.big)⟩
end L2
namespace L2.Z3
open PySem PySem.Spec PyProof.Rows PySem.Calls
theorem tc3(a b c:Value):checkTypeCall "zip" ⟨[a,b,c],[]⟩=pure ():=by kernel_rfl
theorem nc3(a b c:Value):checkBuiltinCall "zip.__new__" ⟨[.type "zip",a,b,c],[]⟩=pure ():=by kernel_rfl
theorem oi4(a b c d:Value):argsOk "object.__init__" ⟨[a,b,c,d],[]⟩:=by rfl
theorem M5:typeLookup (.type "zip") "__len__"=pure none:=by rw[typeLookup_type];kernel_rfl
theorem Jj:typeLookup (.type "zip") "__length_hint__"=pure none:=by rw[typeLookup_type];kernel_rfl
abbrev IsZ(h:Heap)(z TI TO:Addr)(f0 f1:Value):Prop:=h.get? z=some {cls:=.type "zip",dict:=none,data:=.fields #[f0,f1,.bool false,.ref TI,.ref TO],slots:=#[]}
abbrev iR(h:Heap)(T:Addr)(a b c:Value):Prop:=h.get? T=some {cls:=.type "tuple",data:=.seq #[a,b,c]}
theorem nn{a b:Nat}(h:a≠b):@Ne Addr a b:=h
structure Apart(l1 l2 l3 i1 i2 i3 TI TO z:Nat):Prop where
 a1:l1<i1
 a2:l2<i1
 a3:l3<i1
 b1:i1<i2
 b2:i2<i3
 b3:i3<TI
 b4:TI<TO
 b5:TO<z
structure St(l1 l2 l3 i1 i2 i3 TI TO z:Nat)(xs ys zs:Qa5)(S:Nat)(i:Nat)(h:Heap):Prop where
 z0:(i=0/\IsZ h z TI TO .none (.bool false))\/∃(a:Nat)(oa:Obj)(f:Bool),IsZ h z TI TO (rawInt a) (.bool f)/\h.get? a=some oa/\z<a/\a≠S
 ti:iR h TI (.ref i1) (.ref i2) (.ref i3)to:∃a b c,iR h TO a b c
 p1:h.IsListIter i1 l1 i
 p2:h.IsListIter i2 l2 i
 p3:h.IsListIter i3 l3 i
 q1:h.IsList l1 xs
 q2:h.IsList l2 ys
 q3:h.IsList l3 zs
section
variable{s:Shared}{l1 l2 l3 i1 i2 i3 TI TO z:Nat}
theorem M6(hT:iR s.heap T a b c)(h:∀h',h'.get? T=some {cls:=.type "tuple",data:=.seq ((#[a,b,c]:Qa5).setIfInBounds k x)}->Heap.SameBut T s.heap h'->Q () {s with heap:=h'}):wpAny (model prog w) A (updateSeq T (·.setIfInBounds k x)) Q E s:=by refine wpAny_updateSeq hT rfl (h _ ?_ (Heap.SameBut.update ..));rw[Heap.get?_update_self _ hT rfl];simp[Obj.mapSeq]
theorem Jk{Q:gV}(D:Apart l1 l2 l3 i1 i2 i3 TI TO z)(hz:IsZ s.heap z TI TO .none (.bool false))(ot:iR s.heap TI (.ref i1) (.ref i2) (.ref i3))(EL:iR s.heap TO a b c)(h1:s.heap.IsListIter i1 l1 k)(h2:s.heap.IsListIter i2 l2 k)(h3:s.heap.IsListIter i3 l3 k)(q1:s.heap.IsList l1 xs)(q2:s.heap.IsList l2 ys)(q3:s.heap.IsList l3 zs)(hx:xs[k]?=some x)(hy:ys[k]?=some y)(hv:zs[k]?=some v)(hQ:∀h',IsZ h' z TI TO (rawInt s.heap.objs.size) (.bool false)->iR h' TO x y v->h'.IsListIter i1 l1 (k+1)->h'.IsListIter i2 l2 (k+1)->h'.IsListIter i3 l3 (k+1)->iR h' s.heap.objs.size x y v->h'.objs.size=s.heap.objs.size+1->(∀c o,c≠z->c≠TO->c≠i1->c≠i2->c≠i3->s.heap.get? c=some o->h'.get? c=some o)->Q (.ref s.heap.objs.size) {s with heap:=h'}):wpAny (model prog w) A (Builtin.«zip.__next__» ⟨[.ref z],[]⟩) (λfin s'=>∃v,fin=.done (.ret v)/\Q v s') E s:=by
 obtain⟨a1,a2,a3,b1,b2,b3,b4,b5⟩:=D;show wpAny _ _ (field (.ref z) 2>>=_) _ _ _;refine zAt (wpAny_field hz rfl (x:=.bool false) rfl ?_);show wpAny _ _ (field (.ref z) 3>>=_) _ _ _;refine zAt (wpAny_field hz rfl (x:=.ref TI) rfl ?_);refine zAt (wpAny_seqItems ot rfl ?_);refine zAt ?_;unfold Builtin.SmallTypes.ownedTupleIsFree;refine zAt (wpAny_field hz rfl (x:=.none) rfl (zAx ?_));simp only[if_true];refine zAt (wpAny_rule ?_);refine zAt (wpAny_field hz rfl (x:=.ref TO) rfl ?_);refine zAt (wpAny_setField_rec hz z01 λg1 II s1=>?_);replace II:IsZ g1 z TI TO .ellipsis (.bool false):=II;refine zAt ?_;simp only[List.zipIdx_cons,List.zipIdx_nil,List.forIn_cons,List.forIn_nil];refine zAt (zAt (wpAny_onRaise ?_));show wpAny _ _ (Builtin.SmallTypes.nextOf (.ref i1)>>=_) _ _ _;refine zAt (wpAny_nextOf_list_item (h1.extBut s1.extBut (nn z00)) (q1.extBut s1.extBut (nn z00)) hx λg2 p1 s2=>zAx ?_);have t2:iR g2 TO a b c:=s2.extBut _ _ (nn z00) (s1.extBut _ _ (nn z00) EL);refine zAt (wpAny_seqItems t2 rfl ?_);refine zAt (M6 t2 λg3 t3 s3=>?_);replace t3:iR g3 TO x b c:=t3;refine zAt (wpAny_letGo (zAx ?_));have k3:∀d o,d≠z->d≠TO->d≠i1->s.heap.get? d=some o->g3.get? d=some o:=λd o n1 n2 n3 e=>s3.extBut _ _ n2 (s2.extBut _ _ n3 (s1.extBut _ _ n1 e));refine zAt (zAt (wpAny_onRaise ?_));show wpAny _ _ (Builtin.SmallTypes.nextOf (.ref i2)>>=_) _ _ _;refine zAt (wpAny_nextOf_list_item (h2.at λo e=>k3 _ o (nn z00) (nn z00) (nn z00) e) (q2.at λo e=>k3 _ o (nn z00) (nn z00) (nn z00) e) hy λg4 p2 s4=>zAx ?_);have t4:iR g4 TO x b c:=s4.extBut _ _ (nn z00) t3;refine zAt (wpAny_seqItems t4 rfl ?_);refine zAt (M6 t4 λg5 t5 s5=>?_);replace t5:iR g5 TO x y c:=t5;refine zAt (wpAny_letGo (zAx ?_));have k5:∀d o,d≠TO->d≠i2->g3.get? d=some o->g5.get? d=some o:=λd o n1 n2 e=>s5.extBut _ _ n1 (s4.extBut _ _ n2 e);refine zAt (zAt (wpAny_onRaise ?_));show wpAny _ _ (Builtin.SmallTypes.nextOf (.ref i3)>>=_) _ _ _;refine zAt (wpAny_nextOf_list_item (h3.at λo e=>k5 _ o (nn z00) (nn z00) (k3 _ o (nn z00) (nn z00) (nn z00) e)) (q3.at λo e=>k5 _ o (nn z00) (nn z00) (k3 _ o (nn z00) (nn z00) (nn z00) e)) hv λg6 p3 s6=>zAx ?_);have t6:iR g6 TO x y c:=s6.extBut _ _ (nn z00) t5;refine zAt (wpAny_seqItems t6 rfl ?_);refine zAt (M6 t6 λg7 t7 s7=>?_);replace t7:iR g7 TO x y v:=t7;refine zAt (wpAny_letGo (zAx (zAx ?_)));have k7:∀d o,d≠TO->d≠i3->g5.get? d=some o->g7.get? d=some o:=λd o n1 n2 e=>s7.extBut _ _ n1 (s6.extBut _ _ n2 e);refine zAt (wpAny_seqItems t7 rfl ?_);refine zAt (wpAny_newTuple ?_);have hsz:g7.objs.size=s.heap.objs.size:=by rw[s7.1,s6.1,s5.1,s4.1,s3.1,s2.1,s1.1]
 have z7:IsZ g7 z TI TO .ellipsis (.bool false):=k7 _ _ (nn z00) (nn z00) (k5 _ _ (nn z00) (nn z00) (s3.extBut _ _ (nn z00) (s2.extBut _ _ (nn z00) II)));have zl:z<g7.objs.size:=zB0 z7;refine zAt ?_;unfold Builtin.SmallTypes.ownedTupleHandOut;have z8:IsZ (g7.push {cls:=.type "tuple",data:=.seq #[x,y,v]}) z TI TO .ellipsis (.bool false):=zAu _ z7;refine zAt (wpAny_setField_rec z8 z01 λg9 z9 s9=>?_);replace z9:IsZ g9 z TI TO (rawInt g7.objs.size) (.bool false):=z9;refine wpAny_setField_rec z9 z01 λh8 z10 vF=>?_;replace z10:IsZ h8 z TI TO (rawInt g7.objs.size) (.bool false):=z10;have up:∀d o,d≠z->g7.get? d=some o->h8.get? d=some o:=λd o n e=>vF.extBut _ _ n (s9.extBut _ _ n (zAu _ e));have tn:iR h8 g7.objs.size x y v:=vF.extBut _ _ (Zam zl) (s9.extBut _ _ (Zam zl) (zB1 _ rfl));have Cb:h8.objs.size=g7.objs.size+1:=by rw[vF.1,s9.1,Heap.size_push]
 rw[hsz]at z10 tn Cb;refine zAx ⟨_,rfl,?_⟩;show Q (.ref g7.objs.size) _;rw[hsz];refine hQ h8 z10 (up _ _ (nn z00) t7) (p1.at λo e=>up _ o (nn z00) (k7 _ _ (nn z00) (nn z00) (k5 _ _ (nn z00) (nn z00) (s3.extBut _ _ (nn z00) e)))) (p2.at λo e=>up _ o (nn z00) (k7 _ _ (nn z00) (nn z00) (s5.extBut _ _ (nn z00) e))) (p3.at λo e=>up _ o (nn z00) (s7.extBut _ _ (nn z00) e)) tn Cb λd o n1 n2 n3 n4 n5 e=>up d o n1 (k7 _ _ n2 n5 (k5 _ _ n2 n4 (k3 _ _ n1 n2 n3 e)))
theorem Ak{a:Nat}(hz:IsZ s.heap z TI TO (rawInt a) (.bool f))(ha:s.heap.get? a=some oa):wpAny (model prog w) A (Builtin.SmallTypes.ownedTupleIsFree (.ref z)) (λb s'=>b=false/\∃g0,s'={s with heap:=g0}/\IsZ g0 z TI TO (rawInt a) (.bool true)/\Heap.SameBut z s.heap g0) E s:=by refine zAt (wpAny_field hz rfl (x:=rawInt a) rfl ?_);refine zAt (PySem.W.kdx_alive ha ?_);refine zAt (wpAny_field hz rfl (x:=.bool f) rfl ?_);cases f with|true=>exact zAx ⟨rfl,s.heap,rfl,hz,Heap.SameBut.refl _ _⟩;|false=>exact zAt (wpAny_setField_rec hz z01 λg0 z0 s0=>zAx ⟨rfl,g0,rfl,z0,s0⟩)
theorem M7{a:Nat}{Q:gV}(D:Apart l1 l2 l3 i1 i2 i3 TI TO z)(hz:IsZ s.heap z TI TO (rawInt a) (.bool f))(ha:s.heap.get? a=some oa)(ZZ:z<a)(ot:iR s.heap TI (.ref i1) (.ref i2) (.ref i3))(h1:s.heap.IsListIter i1 l1 k)(h2:s.heap.IsListIter i2 l2 k)(h3:s.heap.IsListIter i3 l3 k)(q1:s.heap.IsList l1 xs)(q2:s.heap.IsList l2 ys)(q3:s.heap.IsList l3 zs)(hx:xs[k]?=some x)(hy:ys[k]?=some y)(hv:zs[k]?=some v)(hQ:∀h',IsZ h' z TI TO (rawInt a) (.bool true)->h'.IsListIter i1 l1 (k+1)->h'.IsListIter i2 l2 (k+1)->h'.IsListIter i3 l3 (k+1)->iR h' s.heap.objs.size x y v->h'.objs.size=s.heap.objs.size+1->(∀c o,c≠z->c≠i1->c≠i2->c≠i3->s.heap.get? c=some o->h'.get? c=some o)->Q (.ref s.heap.objs.size) {s with heap:=h'}):wpAny (model prog w) A (Builtin.«zip.__next__» ⟨[.ref z],[]⟩) (λfin s'=>∃v,fin=.done (.ret v)/\Q v s') E s:=by
 obtain⟨a1,a2,a3,b1,b2,b3,b4,b5⟩:=D;show wpAny _ _ (field (.ref z) 2>>=_) _ _ _;refine zAt (wpAny_field hz rfl (x:=.bool false) rfl ?_);show wpAny _ _ (field (.ref z) 3>>=_) _ _ _;refine zAt (wpAny_field hz rfl (x:=.ref TI) rfl ?_);refine zAt (wpAny_seqItems ot rfl ?_);refine zAt (wpAny_mono (Ak hz ha) (λb s' h=>?_) λ_ _ x=>x);obtain⟨rfl,g0,rfl,z0,s0⟩:=h;refine zAt (zAt (zAt (wpAny_holding ?_)));refine zAt (wpAny_nextOf_list_item (h1.extBut s0.extBut (nn z00)) (q1.extBut s0.extBut (nn z00)) hx λg1 p1 s1=>zAx ?_);refine zAx ?_;have k1:∀d o,d≠z->d≠i1->s.heap.get? d=some o->g1.get? d=some o:=λd o n1 n2 e=>s1.extBut _ _ n2 (s0.extBut _ _ n1 e);refine zAt (zAt (wpAny_holding ?_));show wpAny _ _ (Builtin.SmallTypes.nextOf (.ref i2)>>=_) _ _ _;refine zAt (wpAny_nextOf_list_item (h2.at λo e=>k1 _ o (nn z00) (nn z00) e) (q2.at λo e=>k1 _ o (nn z00) (nn z00) e) hy λg2 p2 s2=>zAx ?_);refine zAx ?_;have k2:∀d o,d≠z->d≠i1->d≠i2->s.heap.get? d=some o->g2.get? d=some o:=λd o n1 n2 n3 e=>s2.extBut _ _ n3 (k1 _ _ n1 n2 e);refine zAt (zAt (wpAny_holding ?_));show wpAny _ _ (Builtin.SmallTypes.nextOf (.ref i3)>>=_) _ _ _;refine zAt (wpAny_nextOf_list_item (h3.at λo e=>k2 _ o (nn z00) (nn z00) (nn z00) e) (q3.at λo e=>k2 _ o (nn z00) (nn z00) (nn z00) e) hv λg3 p3 s3=>zAx ?_);refine zAx (zAx ?_);have k3:∀d o,d≠z->d≠i1->d≠i2->d≠i3->s.heap.get? d=some o->g3.get? d=some o:=λd o n1 n2 n3 n4 e=>s3.extBut _ _ n4 (k2 _ _ n1 n2 n3 e);refine zAt (wpAny_newTuple (hsz:=by show 3<=sizeLine;decide) ?_);have hsz:g3.objs.size=s.heap.objs.size:=by rw[s3.1,s2.1,s1.1,s0.1]
 have z3:IsZ g3 z TI TO (rawInt a) (.bool true):=s3.extBut _ _ (nn z00) (s2.extBut _ _ (nn z00) (s1.extBut _ _ (nn z00) z0));have tn:iR (g3.push {cls:=.type "tuple",data:=.seq #[x,y,v]}) g3.objs.size x y v:=zB1 _ rfl;have Cb:(g3.push {cls:=.type "tuple",data:=.seq #[x,y,v]}).objs.size=g3.objs.size+1:=Heap.size_push ..;rw[hsz]at tn Cb;refine zAx ⟨_,rfl,?_⟩;show Q (.ref g3.objs.size) _;rw[hsz];exact hQ _ (zAu _ z3) (p1.at λo e=>zAu _ (s3.extBut _ _ (nn z00) (s2.extBut _ _ (nn z00) e))) (p2.at λo e=>zAu _ (s3.extBut _ _ (nn z00) e)) (p3.at λo e=>zAu _ e) tn Cb λd o n1 n2 n3 n4 e=>zAu _ (k3 _ _ n1 n2 n3 n4 e)
theorem M8{a:Nat}(hh:A.handled=none)(D:Apart l1 l2 l3 i1 i2 i3 TI TO z)(hz:IsZ s.heap z TI TO (rawInt a) (.bool f))(ha:s.heap.get? a=some oa)(ot:iR s.heap TI (.ref i1) (.ref i2) (.ref i3))(h1:s.heap.IsListIter i1 l1 k)(q1:s.heap.IsList l1 xs)(hx:xs[k]?=none)(hE:∀h' e,(∀c o,c≠z->c≠i1->s.heap.get? c=some o->h'.get? c=some o)->(∃o,h'.get? e=some o/\o.cls=.type "StopIteration")->E (.ref e) {s with heap:=h'}):wpAny (model prog w) A (Builtin.«zip.__next__» ⟨[.ref z],[]⟩) Q E s:=by obtain⟨a1,a2,a3,b1,b2,b3,b4,b5⟩:=D;show wpAny _ _ (field (.ref z) 2>>=_) _ _ _;refine zAt (wpAny_field hz rfl (x:=.bool false) rfl ?_);refine zAt (wpAny_field hz rfl (x:=.ref TI) rfl ?_);refine zAt (wpAny_seqItems ot rfl ?_);refine zAt (wpAny_mono (Ak hz ha) (λb s' h=>?_) λ_ _ x=>x);obtain⟨rfl,g0,rfl,z0,s0⟩:=h;refine zAt (zAt (zAt (wpAny_holding ?_)));refine zAt (wpAny_nextOf_list_end hh (h1.extBut s0.extBut (nn z00)) (q1.extBut s0.extBut (nn z00)) hx λg1 e s1 he=>hE g1 e (λd o n1 n2 x=>s1 _ _ n2 (s0.extBut _ _ n1 x)) he)
theorem St.keep(x:St l1 l2 l3 i1 i2 i3 TI TO z xs ys zs S i h)(D:Apart l1 l2 l3 i1 i2 i3 TI TO z)(hS:z<S)(hk:∀b o,b≠S->h.get? b=some o->h'.get? b=some o):St l1 l2 l3 i1 i2 i3 TI TO z xs ys zs S i h':=by
 obtain⟨a1,a2,a3,b1,b2,b3,b4,b5⟩:=D;obtain⟨z0,ti,⟨a,b,c,to⟩,p1,p2,p3,q1,q2,q3⟩:=x;refine⟨?_,hk _ _ (nn z00) ti,⟨a,b,c,hk _ _ (nn z00) to⟩,p1.at λo e=>hk _ o (nn z00) e,p2.at λo e=>hk _ o (nn z00) e,p3.at λo e=>hk _ o (nn z00) e,q1.at λo e=>hk _ o (nn z00) e,q2.at λo e=>hk _ o (nn z00) e,q3.at λo e=>hk _ o (nn z00) e⟩;rcases z0 with⟨e,hz⟩|⟨a,oa,f,hz,ha,h1,h2⟩;.exact .inl ⟨e,hk _ _ (nn z00) hz⟩
 .exact .inr ⟨a,oa,f,hk _ _ (nn z00) hz,hk _ _ h2 ha,h1,h2⟩
theorem item{S:Nat}{i:Nat}(D:Apart l1 l2 l3 i1 i2 i3 TI TO z)(st:St l1 l2 l3 i1 i2 i3 TI TO z xs ys zs S i s.heap)(hS:S<s.heap.objs.size)(hx:xs[i]?=some x)(hy:ys[i]?=some y)(hv:zs[i]?=some v)(hQ:∀h',St l1 l2 l3 i1 i2 i3 TI TO z xs ys zs S (i+1) h'->iR h' s.heap.objs.size x y v->h'.objs.size=s.heap.objs.size+1->(∀c o,c≠z->c≠TO->c≠i1->c≠i2->c≠i3->s.heap.get? c=some o->h'.get? c=some o)->Q (some (.ref s.heap.objs.size)) {s with heap:=h'}):wpAny (model prog w) A (pyNext (.ref z)) Q E s:=by
 obtain⟨a1,a2,a3,b1,b2,b3,b4,b5⟩:=id D;obtain⟨z0,ti,⟨a,b,c,to⟩,p1,p2,p3,q1,q2,q3⟩:=st;have zl:z<s.heap.objs.size:=by rcases z0 with⟨_,hz⟩|⟨_,_,_,hz,_⟩<;>exact zB0 hz
 have hT:s.TypeIs (.ref z) "zip":=by rcases z0 with⟨_,hz⟩|⟨_,_,_,hz,_⟩<;>exact⟨_,hz,rfl⟩
 refine zAt (wpAny_attempt (wpAny_callSpecial?_slot (name:=Str.ofString "__next__") hT F.slot_zip_next (wpAny_call_entry F.slot_zip_next hT F.entry_zip_next ?_ (F.args_zip_next_1 _))));rcases z0 with⟨rfl,hz⟩|⟨a',oa,f,hz,ha,h1,h2⟩;.refine Jk D hz ti to p1 p2 p3 q1 q2 q3 hx hy hv λh' e1 e2 e3 e4 e5 e6 e7 k=>zAx (hQ h' ⟨.inr ⟨_,_,_,e1,e6,zl,nn z00⟩,k _ _ (nn z00) (nn z00) (nn z00) (nn z00) (nn z00) ti,⟨_,_,_,e2⟩,e3,e4,e5,q1.at λo e=>k _ o (nn z00) (nn z00) (nn z00) (nn z00) (nn z00) e,q2.at λo e=>k _ o (nn z00) (nn z00) (nn z00) (nn z00) (nn z00) e,q3.at λo e=>k _ o (nn z00) (nn z00) (nn z00) (nn z00) (nn z00) e⟩ e6 e7 k)
 .refine M7 D hz ha h1 ti p1 p2 p3 q1 q2 q3 hx hy hv λh' e1 e3 e4 e5 e6 e7 k=>zAx (hQ h' ⟨.inr ⟨a',oa,true,e1,k _ _ (nn z00) (nn z00) (nn z00) (nn z00) ha,h1,h2⟩,k _ _ (nn z00) (nn z00) (nn z00) (nn z00) ti,⟨_,_,_,k _ _ (nn z00) (nn z00) (nn z00) (nn z00) to⟩,e3,e4,e5,q1.at λo e=>k _ o (nn z00) (nn z00) (nn z00) (nn z00) e,q2.at λo e=>k _ o (nn z00) (nn z00) (nn z00) (nn z00) e,q3.at λo e=>k _ o (nn z00) (nn z00) (nn z00) (nn z00) e⟩ e6 e7 λc o n1 _ n3 n4 n5 e=>k c o n1 n3 n4 n5 e)
theorem done(hh:A.handled=none)(D:Apart l1 l2 l3 i1 i2 i3 TI TO z)(st:St l1 l2 l3 i1 i2 i3 TI TO z xs ys zs S i s.heap)(hi:i≠0)(hx:xs[i]?=none)(hQ:∀h',(∀c o,c≠z->c≠i1->s.heap.get? c=some o->h'.get? c=some o)->Q none {s with heap:=h'}):wpAny (model prog w) A (pyNext (.ref z)) Q E s:=by
 obtain⟨z0,ti,⟨a,b,c,to⟩,p1,p2,p3,q1,q2,q3⟩:=st;rcases z0 with⟨e,_⟩|⟨a',oa,f,hz,ha,h1,h2⟩;.exact absurd e hi
 have hT:s.TypeIs (.ref z) "zip":=⟨_,hz,rfl⟩;refine zAt (wpAny_attempt (wpAny_callSpecial?_slot (name:=Str.ofString "__next__") hT F.slot_zip_next (wpAny_call_entry F.slot_zip_next hT F.entry_zip_next (M8 hh D hz ha ti p1 q1 hx λh' e hk he=>?_) (F.args_zip_next_1 _))));obtain⟨o,ho,hc⟩:=he;exact zAt (wpAny_isInstance (T:="StopIteration") (b:=true) ⟨o,ho,hc⟩ isSubtype_stop (zAx (hQ _ hk)))
structure Gd(xs ys zs:Qa5)(lo:Nat)(h:Heap)(as:List Nat):Prop where
 rise:as.Pairwise (·<·)above:∀a∈as,lo<a
 rows:∀(j:Nat)a,as[j]?=some a->∃x y v,xs[j]?=some x/\ys[j]?=some y/\zs[j]?=some v/\iR h a x y v
end
section
variable{s:Shared}{l1 l2 l3 i1 i2 i3 TI TO z:Nat}
theorem loop(hh:A.handled=none)(D:Apart l1 l2 l3 i1 i2 i3 TI TO z)(vS:z<S)(nx:xs.size=n)(ny:ys.size=n)(nz:zs.size=n)(n0:0<n)(hn:n<=sizeLine)(res:Value){h₁:Heap}(hR:∀h' tk acc c as,(∀b o,b≠S->b≠z->b≠TO->b≠i1->b≠i2->b≠i3->h₁.get? b=some o->h'.get? b=some o)->h'.get? S=some {cls:=.type "list",dict:=none,data:=.seq acc c,slots:=#[]}->as.length=n->Gd xs ys zs S h' as->acc.toList=as.map Value.ref->R (.ok (.ret res)) {s with heap:=h',toks:=tk}):∀k i h tk c acc as,n-i=k->i<=n->St l1 l2 l3 i1 i2 i3 TI TO z xs ys zs S i h->(∀b o,b≠S->b≠z->b≠TO->b≠i1->b≠i2->b≠i3->h₁.get? b=some o->h.get? b=some o)->h.get? S=some {cls:=.type "list",dict:=none,data:=.seq acc c,slots:=#[]}->acc.toList=as.map Value.ref->as.length=i->Gd xs ys zs S h as->codeAny (model prog w) A (.builtin "list.extend.loop" ⟨[.ref S,.ref z,res],[]⟩) R {s with heap:=h,toks:=tk}:=by obtain⟨a1,a2,a3,b1,b2,b3,b4,b5⟩:=id D;intro k;induction k with|zero=>intro i h tk c acc as hk hi st mv hS dA vT hG;refine codeAny_builtin PySem.F.entry_extend_loop ?_;show wpAny _ A.in1 (pyNext (.ref z)>>=_) _ _ _;refine zAt (done (s:={s with heap:=h,toks:=tk}) (A:=A.in1) hh D st z00 (Array.getElem?_eq_none z00) λh' he=>?_);refine zAx (hR h' tk acc c as (λb o n1 n2 n3 n4 n5 n6 e=>he b o n2 n4 (mv b o n1 n2 n3 n4 n5 n6 e)) (he S _ (nn z00) (nn z00) hS) z00 ⟨hG.rise,hG.above,λj a hj=>?_⟩ dA);obtain⟨x,y,v,e1,e2,e3,e4⟩:=hG.rows j a hj;have:=hG.above a (zB5 hj);exact⟨x,y,v,e1,e2,e3,he a _ (nn z00) (nn z00) e4⟩;|succ k ih=>
  intro i h tk c acc as hk hi st mv hS dA vT hG;have aI:i<n:=z00;obtain⟨x,hx⟩:∃x,xs[i]?=some x:=⟨xs[i],Zau z00⟩;obtain⟨y,hy⟩:∃x,ys[i]?=some x:=⟨ys[i],Zau z00⟩;obtain⟨v,hv⟩:∃x,zs[i]?=some x:=⟨zs[i],Zau z00⟩;have hsz:acc.size=i:=by rw[<-zA9,dA,zA1,vT]
  have N0:S<h.objs.size:=zB0 hS;refine codeAny_builtin PySem.F.entry_extend_loop ?_;rw[Around.under_plainId PySem.F.plain_extend_loop _];show wpAny _ A.in1 (pyNext (.ref z)>>=_) _ _ _;refine zAt (item (s:={s with heap:=h,toks:=tk}) D st N0 hx hy hv λh' z09 ht hz EU=>?_);dsimp only at ht hz EU⊢;have y8:=EU S _ (nn z00) (nn z00) (nn z00) (nn z00) (nn z00) hS;have up:∀b o,b≠S->h'.get? b=some o->(h'.update S (Obj.mapSeq (·.push (Value.ref h.objs.size)))).get? b=some o:=λb o hb e=>(Heap.get?_update_other _ _ (Ne.symm hb)).trans e;refine zAt ?_;refine wpAny_updateSeq y8 rfl (zAx ⟨plainId_quiet PySem.F.plain_extend_loop _,ih (i+1) _ tk _ (acc.push (Value.ref h.objs.size)) (as++[h.objs.size]) z00 aI (z09.keep D vS up) (λb o n1 n2 n3 n4 n5 n6 e=>up b o n1 (EU b o n2 n3 n4 n5 n6 (mv b o n1 n2 n3 n4 n5 n6 e))) (Heap.get?_update_self _ y8 rfl) (by rw[Array.toList_push,dA,zA4];rfl) (by rw[zA2,vT];rfl) ⟨?_,?_,?_⟩⟩) (by rw[hsz];lia) (by grind);.refine List.pairwise_append.mpr ⟨hG.rise,List.pairwise_singleton _ _,λa ha b hb=>?_⟩;rw[Zad.mp hb];obtain⟨j,hj⟩:=List.mem_iff_getElem?.mp ha;obtain⟨_,_,_,_,_,_,e⟩:=hG.rows j a hj;exact zB0 e
  .intro a ha;rcases zA6.mp ha with ha|ha;.exact hG.above a ha
   .rw[Zad.mp ha];exact N0
  .intro j b hj;rcases Nat.lt_trichotomy j as.length with h1|h1|h1;.rw[zBb h1]at hj;obtain⟨x',y',v',e1,e2,e3,e4⟩:=hG.rows j b hj;have hb:=hG.above b (zB5 hj);exact⟨x',y',v',e1,e2,e3,up b _ (nn z00) (EU b _ (nn z00) (nn z00) (nn z00) (nn z00) (nn z00) e4)⟩
   .subst h1;have hb:h.objs.size=b:=by simpa using hj
    subst hb;exact⟨x,y,v,by rw[vT];exact hx,by rw[vT];exact hy,by rw[vT];exact hv,up _ _ (nn z00) ht⟩
   .have Cc:(as++[h.objs.size])[j]?=none:=Za1 (by rw[zA2,List.length_singleton];lia);rw[Cc]at hj;cases hj
end
end L2.Z3
namespace L2
open PySem PyProof.Rows HT
theorem yM:bootBuiltins "list"=some (.type "list"):=by decide+kernel
section
end
end L2
namespace L2.Z3
open PySem PySem.Spec PyProof.Rows PySem.Calls
abbrev g1(h:Heap)(l:Addr):Heap:=h.push {cls:=.type "list_iterator",data:=.fields #[.ref l,.int 0 0]}
abbrev g3(h:Heap)(l1 l2 l3:Addr):Heap:=g1 (g1 (g1 h l1) l2) l3
abbrev g4(h:Heap)(l1 l2 l3:Addr):Heap:=(g3 h l1 l2 l3).push {cls:=.type "tuple",data:=.seq #[.ref h.objs.size,.ref (g1 h l1).objs.size,.ref (g1 (g1 h l1) l2).objs.size]}
abbrev g5(h:Heap)(l1 l2 l3:Addr):Heap:=(g4 h l1 l2 l3).push {cls:=.type "tuple",data:=.seq #[.none,.none,.none]}
abbrev g6(h:Heap)(l1 l2 l3:Addr):Heap:=(g5 h l1 l2 l3).push {cls:=.type "zip",data:=.fields #[.none,.bool false,.bool false,.ref (g3 h l1 l2 l3).objs.size,.ref (g4 h l1 l2 l3).objs.size]}
theorem M9(l1 l2 l3:Addr)(xs ys zs:Qa5):Meets (Builtin.«zip.__new__» ⟨[.type "zip",.ref l1,.ref l2,.ref l3],[]⟩) (λ_ R s=>s.heap.IsList l1 xs/\s.heap.IsList l2 ys/\s.heap.IsList l3 zs/\R (.ok (.ret (.ref (g5 s.heap l1 l2 l3).objs.size))) {s with heap:=g6 s.heap l1 l2 l3}):=.of_wp λprog w A R s h=>by obtain⟨hp,g,d,tk,os⟩:=s;obtain⟨de,fF,Cf,h⟩:=h;have A9:=sub_zip;have IJ:Heap.IsList (Shared.heap ⟨hp,g,d,tk,os⟩) l1 xs:=de;have Uc:Heap.IsList (Shared.heap ⟨g1 hp l1,g,d,tk,os⟩) l2 ys:=Heap.IsList.push fF _;have Ud:Heap.IsList (Shared.heap ⟨g1 (g1 hp l1) l2,g,d,tk,os⟩) l3 zs:=Heap.IsList.push (Heap.IsList.push Cf _) _;wp_walk using wpAny_pyIter_list IJ,wpAny_pyIter_list Uc,wpAny_pyIter_list Ud;exact⟨_,rfl,h⟩
section
theorem Oz{l1 l2 l3:Nat}(de:s.heap.IsList l1 xs)(fF:s.heap.IsList l2 ys)(Cf:s.heap.IsList l3 zs)(h:∀h',Apart l1 l2 l3 s.heap.objs.size (s.heap.objs.size+1) (s.heap.objs.size+2) (s.heap.objs.size+3) (s.heap.objs.size+4) (s.heap.objs.size+5)->(∀S,s.heap.objs.size+5<S->St l1 l2 l3 s.heap.objs.size (s.heap.objs.size+1) (s.heap.objs.size+2) (s.heap.objs.size+3) (s.heap.objs.size+4) (s.heap.objs.size+5) xs ys zs S 0 h')->h'.objs.size=s.heap.objs.size+6->(∀c o,s.heap.get? c=some o->h'.get? c=some o)->Q (.ref (s.heap.objs.size+5)) {s with heap:=h'}):wpAny (model prog w) A (call (.type "zip") [.ref l1,.ref l2,.ref l3]) Q E s:=by
 refine callType_new F.called_zip z02 (tc3 _ _ _) (nc3 _ _ _) (λobj=>oi4 obj _ _ _) F.entry_zip_new (M9 l1 l2 l3 xs ys zs) ⟨de,fF,Cf,?_⟩;have lt:∀{l:Addr}{zs:Qa5},s.heap.IsList l zs->l<s.heap.objs.size:=λh=>by obtain⟨_,e,_⟩:=h;exact zB0 e
 have z1:(g1 s.heap l1).objs.size=s.heap.objs.size+1:=Heap.size_push ..;have z2:(g1 (g1 s.heap l1) l2).objs.size=s.heap.objs.size+2:=by rw[Heap.size_push,z1]
 have z3:(g3 s.heap l1 l2 l3).objs.size=s.heap.objs.size+3:=by rw[Heap.size_push,z2]
 have z4:(g4 s.heap l1 l2 l3).objs.size=s.heap.objs.size+4:=by rw[Heap.size_push,z3]
 have z5:(g5 s.heap l1 l2 l3).objs.size=s.heap.objs.size+5:=by rw[Heap.size_push,z4]
 have z6:(g6 s.heap l1 l2 l3).objs.size=s.heap.objs.size+6:=by rw[Heap.size_push,z5]
 have e6:(g6 s.heap l1 l2 l3).get? (g5 s.heap l1 l2 l3).objs.size=some _:=zB1 _ rfl;have e5:(g6 s.heap l1 l2 l3).get? (g4 s.heap l1 l2 l3).objs.size=some _:=zAu _ (zB1 _ rfl);have e4:(g6 s.heap l1 l2 l3).get? (g3 s.heap l1 l2 l3).objs.size=some _:=zAu _ (zAu _ (zB1 _ rfl));have k3:∀b o,(g3 s.heap l1 l2 l3).get? b=some o->(g6 s.heap l1 l2 l3).get? b=some o:=λb o e=>zAu _ (zAu _ (zAu _ e));have e3:(g6 s.heap l1 l2 l3).get? (g1 (g1 s.heap l1) l2).objs.size=some _:=k3 _ _ (zB1 _ rfl);have e2:(g6 s.heap l1 l2 l3).get? (g1 s.heap l1).objs.size=some _:=k3 _ _ (zAu _ (zB1 _ rfl));have e1:(g6 s.heap l1 l2 l3).get? s.heap.objs.size=some _:=k3 _ _ (zAu _ (zAu _ (zB1 _ rfl)));have kp:∀c o,s.heap.get? c=some o->(g6 s.heap l1 l2 l3).get? c=some o:=λc o x=>k3 _ _ (zAu _ (zAu _ (zAu _ x)));show _/\_;rw[z3,z4,z5]at e6;rw[z4]at e5;rw[z1,z2,z3]at e4;rw[z2]at e3;rw[z1]at e2;rw[z5];have n1:l1<s.heap.objs.size:=lt de;have n2:l2<s.heap.objs.size:=lt fF;have n3:l3<s.heap.objs.size:=lt Cf;exact⟨⟨_,e6,rfl⟩,h _ ⟨n1,n2,n3,z00,z00,z00,z00,z00⟩ (λS _=>⟨.inl ⟨rfl,e6⟩,e4,⟨_,_,_,e5⟩,⟨_,e1,rfl,rfl⟩,⟨_,e2,rfl,rfl⟩,⟨_,e3,rfl,rfl⟩,de.at λo e=>kp _ o e,fF.at λo e=>kp _ o e,Cf.at λo e=>kp _ o e⟩) z6 kp⟩
end
section
variable{l1 l2 l3 i1 i2 i3 TI TO z:Nat}
theorem ext(hh:A.handled=none)(D:Apart l1 l2 l3 i1 i2 i3 TI TO z)(vS:z<S)(nx:xs.size=n)(ny:ys.size=n)(nz:zs.size=n)(n0:0<n)(hn:n<=sizeLine)(res:Value)(c₀:Nat)(st:St l1 l2 l3 i1 i2 i3 TI TO z xs ys zs S 0 s.heap)(hS:s.heap.get? S=some {cls:=.type "list",data:=.seq #[] c₀})(hR:∀h' tk acc c as,(∀b o,b≠S->b≠z->b≠TO->b≠i1->b≠i2->b≠i3->s.heap.get? b=some o->h'.get? b=some o)->h'.get? S=some {cls:=.type "list",dict:=none,data:=.seq acc c,slots:=#[]}->as.length=n->Gd xs ys zs S h' as->acc.toList=as.map Value.ref->R (.ok (.ret res)) {s with heap:=h',toks:=tk}):wpAny (model prog w) A.in1 (Builtin.List.listExtendWith (.ref S) (.ref z) res) (λfin s'=>match fin with|.done f=>R (.ok f) s'|.again c'=>c'.quiet=true/\codeAny (model prog w) A c' R s') (λe s'=>R (.error e) s') s:=by
 have hz:IsZ s.heap z TI TO .none (.bool false)\/∃a f,IsZ s.heap z TI TO (rawInt a) (.bool f):=by
  rcases st.z0 with⟨_,e⟩|⟨a,_,f,e,_⟩;.exact .inl e
  .exact .inr ⟨a,f,e⟩
 have hT:s.TypeIs (.ref z) "zip":=by rcases hz with e|⟨_,_,e⟩<;>exact⟨_,e,rfl⟩
 unfold Builtin.List.listExtendWith;refine zAt (wpAny_typeOf hT ?_);have h1:Builtin.List.listSameRef (.ref S) (.ref z)=false:=by have:(S:Addr)≠z:=nn z00;simp[Builtin.List.listSameRef,this]
 have h2:(Value.type "zip"==Value.type "list")=false:=by decide
 have h3:(Value.type "zip"==Value.type "tuple")=false:=by decide
 simp only[h1,h2,h3,Bool.or_false,Bool.false_eq_true,if_false];have hit:∀{Q:gV}{E:gV},Q (.ref z) s->wpAny (model prog w) A.in1 (pyIter (.ref z)) Q E s:=λ{Q E}q=>by refine wpAny_pyIter_slot hT F.slot_zip_iter (wpAny_call_entry F.slot_zip_iter hT F.entry_zip_iter ?_ (F.args_zip_iter_1 _));show wpAny _ _ (ret (.ref z)) _ _ s;exact zAx ⟨_,rfl,"zip",_,hT,F.slot_zip_next.lookup,q⟩
 refine zAt (hit ?_);refine zAt (wpAny_holding ?_);unfold Builtin.List.listLengthHint;refine zAt (wpAny_specialOf hT M5 ?_);refine zAt (wpAny_specialOf hT Jj ?_);refine zAx ?_;refine zAt (wpAny_rule ?_);refine zAt ?_;show wpAny _ A.in1 (updateSeq S (·.push .none)>>=λ_=>updateSeq S (·.pop)) _ _ _;refine zAt (wpAny_updateSeq hS rfl ?_);have kr:=Heap.get?_update_self (Obj.mapSeq (·.push Value.none)) hS rfl;refine wpAny_updateSeq (hz:=by seq_fits) kr rfl ?_;have Cn:=Heap.get?_update_self (Obj.mapSeq (·.pop)) kr rfl;have Co:∀b o,b≠S->s.heap.get? b=some o->((s.heap.update S (Obj.mapSeq (·.push Value.none))).update S (Obj.mapSeq (·.pop))).get? b=some o:=λb o hb e=>(Heap.get?_update_other _ _ (Ne.symm hb)).trans ((Heap.get?_update_other _ _ (Ne.symm hb)).trans e);exact zAx ⟨plainId_quiet F.plain_extend_loop _,loop (s:=s) (h₁:=s.heap) hh D vS nx ny nz n0 hn res hR n 0 _ s.toks _ #[] [] (Nat.sub_zero _) (zAp _) (st.keep D vS Co) (λb o n1 _ _ _ _ _ e=>Co b o n1 e) Cn rfl rfl ⟨List.Pairwise.nil,(λ_ ha=>nomatch ha),(λj a hj=>by simp at hj)⟩⟩
theorem init(hh:A.handled=none)(D:Apart l1 l2 l3 i1 i2 i3 TI TO z)(vS:z<S)(nx:xs.size=n)(ny:ys.size=n)(nz:zs.size=n)(n0:0<n)(hn:n<=sizeLine)(st:St l1 l2 l3 i1 i2 i3 TI TO z xs ys zs S 0 s.heap)(hS:s.heap.get? S=some {cls:=.type "list",data:=.seq #[]})(hR:∀h' tk acc c as,(∀b o,b≠S->b≠z->b≠TO->b≠i1->b≠i2->b≠i3->s.heap.get? b=some o->h'.get? b=some o)->h'.get? S=some {cls:=.type "list",dict:=none,data:=.seq acc c,slots:=#[]}->as.length=n->Gd xs ys zs S h' as->acc.toList=as.map Value.ref->R (.ok (.ret .none)) {s with heap:=h',toks:=tk}):wpAny (model prog w) A.in1 (Builtin.«list.__init__» ⟨[.ref S,.ref z],[]⟩) (λfin s'=>match fin with|.done f=>R (.ok f) s'|.again c'=>c'.quiet=true/\codeAny (model prog w) A c' R s') (λe s'=>R (.error e) s') s:=by refine zAt ?_;refine zAt (wpAny_seqItems hS rfl (zAx ?_));refine zAt (wpAny_updateSeq hS rfl ?_);have kr:=Heap.get?_update_self (Obj.mapSeq (λ_=>(#[]:Qa5))) hS rfl;have Co:∀b o,b≠S->s.heap.get? b=some o->(s.heap.update S (Obj.mapSeq (λ_=>(#[]:Qa5)))).get? b=some o:=λb o hb e=>(Heap.get?_update_other _ _ (Ne.symm hb)).trans e;refine zAt (wpAny_letGo ?_);refine ext hh D vS nx ny nz n0 hn .none _ (st.keep D vS Co) kr λh' tk acc c as hk y8 hl hG dA=>?_;exact hR h' tk acc c as (λb o n1 n2 n3 n4 n5 n6 e=>hk b o n1 n2 n3 n4 n5 n6 (Co b o n1 e)) y8 hl hG dA
theorem OD(hh:A.handled=none)(D:Apart l1 l2 l3 i1 i2 i3 TI TO z)(nx:xs.size=n)(ny:ys.size=n)(nz:zs.size=n)(n0:0<n)(hn:n<=sizeLine)(zl:z<s.heap.objs.size)(st:∀S,z<S->St l1 l2 l3 i1 i2 i3 TI TO z xs ys zs S 0 s.heap)(hQ:∀h' tk acc c as,(∀b o,b≠z->b≠TO->b≠i1->b≠i2->b≠i3->s.heap.get? b=some o->h'.get? b=some o)->h'.get? s.heap.objs.size=some {cls:=.type "list",dict:=none,data:=.seq acc c,slots:=#[]}->as.length=n->Gd xs ys zs s.heap.objs.size h' as->acc.toList=as.map Value.ref->Q (.ref s.heap.objs.size) {s with heap:=h',toks:=tk}):wpAny (model prog w) A (call (.type "list") [.ref z]) Q E s:=by refine callType_codes (Q₁:=λobj s₁=>obj=.ref s.heap.objs.size/\s₁={s with heap:=s.heap.push {cls:=.type "list",data:=.seq #[]}}) PySem.F.called_list (PySem.F.typeCall_list_1 _) PySem.F.entry_list_init (code_list_new _ ⟨rfl,rfl⟩) λobj s₁ h₁=>?_;obtain⟨rfl,rfl⟩:=h₁;have hS:(s.heap.push {cls:=.type "list",data:=.seq #[]}).get? s.heap.objs.size=some {cls:=.type "list",data:=.seq #[]}:=zB1 _ rfl;refine⟨⟨_,hS,rfl⟩,PySem.F.args_list_init_2 _ _,init (A:=A.in1) (s:={s with heap:=s.heap.push {cls:=.type "list",data:=.seq #[]}}) hh D zl nx ny nz n0 hn ((st _ zl).keep D zl λb o _ e=>zAu _ e) hS (λh' tk acc c as hk y8 hl hG dA=>?_)⟩;exact⟨rfl,hQ h' tk acc c as (λb o n2 n3 n4 n5 n6 e=>hk b o (zB7 (zB0 e)) n2 n3 n4 n5 n6 (zAu _ e)) y8 hl hG dA⟩
end
theorem Fw{σ:L2.St}(I:Inv X z06 σ H s)(k:∀b u,s.heap.get? b=some u->h'.get? b=some u)(old:∀b,b<s.heap.objs.size->H' b=H b)(new:∀b o,s.heap.objs.size<=b->H' b=some o->ObjOk X.prog X.w H' h' b o):Inv X z06 σ H' {s with heap:=h',toks:=t'}:=by
 have ol:∀{b:Addr}{o:HO},H b=some o->H' b=some o:=λe=>by rw[old _ (I.hok.lt e)];exact e
 refine I.un ⟨λb o q _ _ _=>k b o q,λb o q _ _ _=>⟨o.slots,k b o q⟩,λb o q n _=>by rw[old _ (zB0 q)];exact n,λb o q _=>⟨o,k b o q⟩,λb xs q=>ol q,λb o u q=>ol q,λb ps q=>⟨#[],by rw[ol q];simp⟩⟩ λb o e=>?_;by_cases hb:b<s.heap.objs.size;.rw[old _ hb]at e;exact(I.hok b o e).stay (λc v _ q=>k c v q) (λc q=>ol q) λc xs q=>ol q
 .exact new b o (Nat.le_of_not_lt hb) e
def Fx(xs ys zs:List V)(j:Nat):List V:=[xs.getD j .non,ys.getD j .non,zs.getD j .non]
def tLZ(K:Frag)(ta:TA):TE:=λσ H Q=>ta σ H λvs H1=>∃a b c xs ys zs,vs=[.ref a,.ref b,.ref c]/\SqL K H1 a xs/\SqL K H1 b ys/\SqL K H1 c zs/\ys.length=xs.length/\zs.length=xs.length/\0<xs.length/\∀l(as:Qa9)H',Same H1 H'->H1 l=none->l≠sysModules->H' l=some (.lst (as.map V.ref))->as.length=xs.length->(∀j a,as[j]?=some a->H' a=some (.tup (Fx xs ys zs j)))->Q (.ref l) H'
theorem CT:bootBuiltins "zip"=some (.type "zip"):=by decide+kernel
theorem vals3:∀{a b c:V}{us:Qa4},Vals [a,b,c] us->∃u v w,us=[u,v,w]/\RelV a u/\RelV b v/\RelV c w:=λh=>by cases h with|cons r1 h=>cases h with|cons r2 h=>cases h with|cons r3 h=>cases h;exact⟨_,_,_,rfl,r1,r2,r3⟩
theorem Fy{as:List Nat}(h:as.Pairwise (·<·)){i j:Nat}(hi:as[i]?=some a)(hj:as[j]?=some a):i=j:=by have nd:as.Nodup:=h.imp λ{x y}z=>zB7 z;obtain⟨h1,e1⟩:=zAa.mp hi;obtain⟨h2,e2⟩:=zAa.mp hj;exact(List.getElem_inj nd).mp (e1.trans e2.symm)
section
open Classical in
theorem pe_lzip3{p p2 p3 pos:Pos}(hd:X.A.handled=none)(Ue:Gl X "list")(Ug:X.mg "list"=none)(hg:Gl X "zip")(hm:X.mg "zip"=none)(ha:PA X [a,b,c] ta)(hs:starEach [a,b,c] X.env=[(false,eval a X.env),(false,eval b X.env),(false,eval c X.env)]:=by rfl)(iN:starEach [b,c] X.env=[(false,eval b X.env),(false,eval c X.env)]:=by rfl)(he:starEach [(.Call (.Name "zip" p2) [a,b,c] [] p3)] X.env=[(false,eval (.Call (.Name "zip" p2) [a,b,c] [] p3) X.env)]:=by rfl):PE X (.Call (.Name "list" p) [.Call (.Name "zip" p2) [a,b,c] [] p3] [] pos) (tLZ X.K ta):=by
 intro z06 s σ H Q I h;refine wpAny_Call_Name_kw (iy I Ue Ug yM ?_ z02 z02);refine PyProof.Rows.callWith_type1 ?_ he rfl;rw[he];refine Calls.spliced_cons ?_;refine Call_ (iy I hg hm CT (PyProof.Rows.callWith_type1 (thn (ha p3 z06 s σ H _ I h) λus s1=>?_) (by rw[hs,iN]) (by rw[iN];rfl)));rintro⟨vs,H1,I1,r1,q1⟩;obtain⟨x,y,z,xs,ys,zs,e,hx,hy,hz,ly,lz,l0,q⟩:=q1;subst e;obtain⟨u1,u2,u3,rfl,Uh,Ui,Uj⟩:=vals3 r1;cases Uh;cases Ui;cases Uj;obtain⟨Z0,v1,Uk,z1⟩:=I1.list hx;obtain⟨Z1,v2,Ul,z2⟩:=I1.list hy;obtain⟨Z2,v3,Um,z3⟩:=I1.list hz;have n1:=v1.length;have n2:=v2.length;have n3:=v3.length;refine Oz (l1:=x) (l2:=y) (l3:=z) Uk.isList Ul.isList Um.isList λg D st gs kp=>?_;refine Calls.spliced_nil ?_;refine OD (s:={s1 with heap:=g}) (n:=xs.length) hd D (by rw[zA8];lia) (by rw[zA8];lia) (by rw[zA8];lia) l0 z1 (by show _<g.objs.size;lia) (λS hS=>st S hS) λh' tk acc cc as vv at' hl hG dA=>?_;have Uo:(Shared.heap {s1 with heap:=g}).objs.size=s1.heap.objs.size+6:=gs;have Up:∀b o,s1.heap.get? b=some o->h'.get? b=some o:=λb o e=>by obtain⟨b',rfl⟩:∃b':Nat,b'=b:=⟨b,rfl⟩;have hb:@LT.lt Nat instLTNat b' s1.heap.objs.size:=zB0 e;exact vv b' o (nn z00) (nn z00) (nn z00) (nn z00) (nn z00) (kp b' o e)
 have big:@LT.lt Nat instLTNat sysModules s1.heap.objs.size:=I1.big;obtain⟨Lz,N1⟩:∃Lz:Nat,Lz=(Shared.heap {s1 with heap:=g}).objs.size:=⟨_,rfl⟩;rw[<-N1]at at' hG Uo;show EP X z06 σ Q (.ref (Shared.heap {s1 with heap:=g}).objs.size) _;rw[<-N1];let H':Hp:=λb=>if b=Lz then some (.lst (as.map V.ref))else if hj:∃j:Nat,as[j]?=some b then some (.tup (Fx xs ys zs hj.choose))else H1 b;have fy:∀{j a:Nat},as[j]?=some a->@LT.lt Nat instLTNat Lz a:=λ{j a}e=>hG.above a (zB5 e);have eL:H' Lz=some (.lst (as.map V.ref)):=zAz rfl;have eT:∀j a,as[j]?=some a->H' a=some (.tup (Fx xs ys zs j)):=λj a e=>by have hj:∃j:Nat,as[j]?=some a:=⟨j,e⟩;have n:¬(a=Lz):=Zam (fy e);show(if a=Lz then _ else if hj:∃j:Nat,as[j]?=some a then some (HO.tup (Fx xs ys zs hj.choose))else H1 a)=_;rw[zAy n,dif_pos hj,Fy hG.rise hj.choose_spec e]
 have old:∀b,b<s1.heap.objs.size->H' b=H1 b:=λb hb=>by grind
 have fresh:∀b:Nat,@LE.le Nat instLENat s1.heap.objs.size b->H1 b=none:=λb hb=>I1.hok.fresh hb;have vr:∀l:List Nat,Vals (l.map V.ref) (l.map Value.ref):=λl=>by induction l with|nil=>exact .nil;|cons x l ih=>exact .cons rfl ih
 have get:∀{ws:List V}{z08:Qa4}(v:Vals ws z08){j:Nat}{u:Value},z08.toArray[j]?=some u->RelV (ws.getD j .non) u:=λ{ws z08}v{j u}e=>by
  have e':z08[j]?=some u:=by simpa using e
  have hj:j<ws.length:=by rw[v.length];exact(zAa.mp e').1
  obtain⟨u',e1,r⟩:=v.get (zA0 hj);rw[e']at e1;cases e1;rw[zA7,zA0 hj];exact r
 refine⟨.ref Lz,H',(show Inv X z06 σ H' {s1 with heap:=h',toks:=tk}from Fw I1 Up old λb o hb e=>?_),rfl,q Lz as H' (λb o e=>by rw[old b (I1.hok.lt e)];exact e) (fresh _ z00) (nn z00) eL hl eT⟩;obtain⟨b',rfl⟩:∃b':Nat,b'=b:=⟨b,rfl⟩;by_cases h1:b'=Lz;.subst h1;rw[eL]at e;cases e;refine⟨by rw[zA1,hl];exact z1,as.map Value.ref,cc,vr as,?_⟩;rw[<-dA];simpa using at'
 .by_cases h2:∃j:Nat,as[j]?=some b';.obtain⟨j,hj⟩:=h2;rw[eT j b' hj]at e;cases e;obtain⟨u,v,w',e1,e2,e3,e4⟩:=hG.rows j b' hj;exact⟨(by show 3<=sizeLine;decide),[u,v,w'],.cons (get v1 e1) (.cons (get v2 e2) (.cons (get v3 e3) .nil)),_,e4,rfl,⟨_,rfl⟩⟩
  .exfalso;have:H' b'=H1 b':=by show(if b'=Lz then _ else if hj:∃j:Nat,as[j]?=some b' then some (HO.tup (Fx xs ys zs hj.choose))else H1 b')=_;rw[zAy h1,dif_neg h2]
   rw[this,fresh b' hb]at e;cases e
end
end L2.Z3
namespace L2
open PySem PySem.Spec PyProof.Rows
def Itv(K:Frag)(a:Addr)(n:Nat):It:=⟨λi H=>∃xs x,SqL K H a xs/\xs.length=n/\xs.reverse[i]?=some x,λi H v H'=>H'=H/\∀xs,SqL K H a xs->xs.reverse[i]?=some v,λi _=>i=n⟩
theorem Fz{K:Frag}(a it:Addr)(n:Nat):Turn P w K tg (Itv K a n) [it] it (λi h=>i<=n/\h.IsRevIter it a ((n:Int)-1-(i:Int)))where
 mem:=by simp
 obj:=λi h st b hb=>by
  have e:b=it:=by simpa using hb
  subst e;obtain⟨o,e,c,d⟩:=st.2;exact⟨o,e,λv z=>by rw[d]at z;cases z⟩
 keep:=λi h h' st k=>⟨st.1,st.2.at λo e=>k it z01 o e⟩;item:=by
  intro X hP hw hK hc i z06 s σ H E I hf st hg;subst hP hw hK;obtain⟨xs,x,hq,hn,hx⟩:=hg;have hi:i<xs.length:=by have:=(zAa.mp hx).1;rw[Zbf]at this;exact this
  rw[List.getElem?_reverse hi]at hx;obtain⟨z08,rv,p,hz⟩:=I.list hq;obtain⟨u,hu,ru⟩:=rv.get hx;obtain⟨f0,f1,f2,f3,f4,f5⟩:=hf it z01;have e0:(n:Int)-1-(i:Int)=((xs.length-1-i:Nat):Int):=z00;have st2:=st.2;rw[e0]at st2;refine wpAny_pyNext_rev_item st2 p.isList (x:=u) (by simpa using hu) λh' z09 sb=>?_;have I1:Inv X z06 σ H {s with heap:=h'}:=I.turned (t':=s.toks) (λb o hb e=>(sb.2 b hb).trans e) f0 f1 f3 f4 f5;obtain⟨o,e,c,d⟩:=id z09;have e1:((xs.length-1-i:Nat):Int)-1=(n:Int)-1-((i+1:Nat):Int):=z00;rw[e1]at z09;exact⟨u,rfl,zj (s:={s with heap:=h'}) e c d z02 ⟨x,H,I1,ru,⟨rfl,λys hy=>by rw[I.list_inj hy hq,List.getElem?_reverse hi];exact hx⟩,⟨z00,z09⟩,λb hb=>(hf b hb).1⟩⟩
 done:=by intro X hP hw hK hc i z06 s σ H E I hf st hg;subst hP hw hK;have hg:i=n:=hg;obtain⟨f0,f1,f2,f3,f4,f5⟩:=hf it z01;have st2:=st.2;rw[show(n:Int)-1-(i:Int)=-1 by lia]at st2;exact wpAny_pyNext_rev_end (I.ok.hd hc) st2 λh' eb=>⟨rfl,I.turned (t':=s.toks) (λb o hb e=>eb b o hb e) f0 f1 f3 f4 f5⟩
 self:=λ_ _ _ _ _ st h=>wpAny_pyIter_revIter st.2 h
theorem boot_reversed:bootBuiltins "reversed"=some (.type "reversed"):=by decide+kernel
section
def Qx(K:Frag)(t:TA):TI:=λσ H R=>t σ H λvs H1=>∃a xs,vs=[.ref a]/\SqL K H1 a xs/\R (Itv K a xs.length) H1
theorem Ma(hg:Gl X "reversed")(hm:X.mg "reversed"=none)(ha:PA X [a] ta)(hs:starEach [a] X.env=[(false,eval a X.env)]:=by rfl):PI X tg (.Call (.Name "reversed" p) [a] [] pos) (Qx X.K ta):=by
 intro z06 s σ H R I h;refine Call_ (iy I hg hm boot_reversed (PyProof.Rows.callWith_type1 (thn (ha pos z06 s σ H _ I h) λus s1=>?_) hs rfl));rintro⟨vs,H1,I1,r1,q1⟩;obtain⟨x,xs,e,hx,q⟩:=q1;subst e;obtain⟨u,rfl,ru⟩:=vals1 r1;cases ru;obtain⟨z08,rv,p1,_⟩:=I1.list hx;have hlen:=rv.length;refine call_reversed_list p1.isList ?_;have st:Heap.IsRevIter (s1.heap.push (revObj x ((z08.toArray.size:Int)-1))) s1.heap.objs.size x ((xs.length:Int)-1-((0:Nat):Int)):=by
  refine⟨_,zB1 _ rfl,rfl,?_⟩;have:(z08.toArray.size:Int)-1=(xs.length:Int)-1-((0:Nat):Int):=by rw[zA8];lia
  rw[<-this];rfl
 refine wpAny_pyIter_revIter st ?_;refine⟨_,_,_,_,H1,rfl,I1.kept (t':=s1.toks) (λb o e=>zAu _ e),Fz x s1.heap.objs.size xs.length,⟨zAp _,st⟩,λc hc=>?_,q⟩;have hle:s1.heap.objs.size<=c:=by rw[Zad.mp hc];exact zA3 _
 exact I1.fpOk hle (I1.hok.fresh hle)
end
theorem Jl{K:Frag}{g:TG}{tb:TS}{D:Ends}{σ:St}{H:Hp}(Pv:Nat->St->Hp->Prop)(h0:Pv 0 σ H)(hl:∀i σ H,i<=xs.length->Pv i σ H->SqL K H a xs)(hs:∀i x σ H,xs.reverse[i]?=some x->Pv i σ H->g x σ H λay H2=>tb {D with nx:=Pv (i+1),ct:=Pv (i+1),bk:=D.nx} ay H2)(hd:∀σ H,Pv xs.length σ H->D.nx σ H):∃W:Nat->Nat->St->Hp->Prop,(∃m,W 0 m σ H)/\∀i m σ H,W i m σ H->((Itv K a xs.length).stop i H/\D.nx σ H)\/((Itv K a xs.length).go i H/\∃N,(∀ar H',N ar H'->∃m',m'<m/\W (i+1) m' ar H')/\∀x H',(Itv K a xs.length).yld i H x H'->g x σ H' λay H2=>tb {D with nx:=N,ct:=N,bk:=D.nx} ay H2):=by
 refine⟨λi m σ H=>m=xs.length-i/\i<=xs.length/\Pv i σ H,⟨xs.length,by simp,zAp _,h0⟩,?_⟩;rintro i m σ H⟨rfl,hi,p⟩;have q:=hl i σ H hi p;by_cases aI:i<xs.length;.refine .inr ⟨⟨xs,xs.reverse[i]'(by rw[Zbf];exact aI),q,rfl,zA0 _⟩,Pv (i+1),λar H' p'=>⟨xs.length-(i+1),z00,rfl,aI,p'⟩,λx H' y=>?_⟩;obtain⟨e,y⟩:=y;subst e;exact hs i x σ _ (y xs q) p
 .have e:i=xs.length:=z00;subst e;exact .inl ⟨rfl,hd σ H p⟩
section
def Mf(K:Frag)(te:TE):TE:=λσ H Q=>te σ H λx H2=>∃a xs,x=.ref a/\SqL K H2 a xs/\∀p,H2 p=none->Q (.ref p) (upd H2 p (.lst xs.reverse))
theorem Jm(he:PE X e te):PE X (.Subscript e (.Slice none none (some (.UnaryOp .USub (.Constant (.int 1) j p4) p3)) p2) pos) (Mf X.K te):=by intro z06 s σ H Q I h;refine Subscript_ (thn (he z06 s σ H _ I h) λv s1=>?_);rintro⟨x,H1,I1,r1,q1⟩;refine wpAny_Slice ?_;rw[evalPart_none,evalPart_some];refine zAx (zAx ?_);refine thn (sG nq aB z06 s1 σ H1 (λy H'=>H'=H1/\y=.int (-1)) I1 ⟨_,rfl,rfl,rfl⟩) λvk s3=>?_;rintro⟨y,H3,I3,ry,e3,ey⟩;subst e3;subst ey;obtain⟨a,xs,rfl,hx,q⟩:=q1;cases r1;obtain⟨t,rfl⟩:=ry;have I4:Inv X z06 σ H3 {s3 with heap:=s3.heap.push {cls:=.type "slice",data:=.fields #[.none,.none,.int (-1) t]}}:=I3.kept (t':=s3.toks) λb ob q=>zAu _ q;obtain⟨its',r',iF,vn⟩:=I4.list hx;have N3:=r'.length;show wpAny (model X.prog X.w) X.A (subscriptTail e (.Slice none none (some (.UnaryOp .USub (.Constant (.int 1) j p4) p3)) p2) (.ref a) (.ref s3.heap.objs.size)) (EP X z06 σ Q) X.xe {s3 with heap:=s3.heap.push {cls:=.type "slice",data:=.fields #[.none,.none,.int (-1) t]}};refine tail_any (T:="list") (ops:=[.ref a,.ref s3.heap.objs.size]) iF.isList.typeIs slot_list_getitem.lookup ?_ (by with_unfolding_all rfl);refine wpAny_getItem_list_slice iF.isList (Heap.IsSliceOf.new ..) .none .none (.int (-1) t) z02 ?_ (by rw[zA8]<;>lia);rw[PySem.W.krv_pick];refine⟨.ref _,_,I4.laid (t':=s3.toks) (o:=.lst xs.reverse) (λb ob q=>zAu _ q) (zA3 _) ?_,rfl,q _ (I4.hok.fresh (zA3 _))⟩;exact⟨by rw[Zbf];exact vn,_,0,r'.reverse,zB1 _ rfl⟩
end
section
theorem Jo(hh:A.handled=none)(ht:s.heap.IsTuple t (intItems xs))(fy:0<xs.size)(h:∀v h' tk,(intItems xs)[argBest (λi j=>decide (numAt xs i<numAt xs j)) (xs.size-1)]?=some v->(∀b o,s.heap.get? b=some o->h'.get? b=some o)->Q v {s with heap:=h',toks:=tk}):wpAny (model prog w) A (call (.builtin "min") [.ref t]) Q E s:=by
 have aI:t<s.heap.objs.size:=by obtain⟨_,e,_⟩:=ht;exact zB0 e
 refine call_min_walk (wpAny_pyIter_tuple ht ?_);refine⟨_,_,_,_,_,_,_,rfl,Walks.tuple (A:=A.in1) hh _ t (zB7 aI) (intItems xs),⟨⟨_,zB1 _ rfl,rfl,rfl⟩,ht.push _⟩,λb hb=>?_,by simpa[intItems]using fy,CmpOf.ints_lt (numAt xs) (λ_ _=>intItems_at),λv h' tk hP hk=>?_⟩
 .show b<(s.heap.push _).objs.size;rw[Heap.size_push];simp only[List.mem_cons,List.not_mem_nil,or_false]at hb;rcases hb with e|e<;>subst e;.exact Nat.lt_succ_self _
  .exact Zba aI
 .refine h v h' tk (by simpa[intItems]using hP) λb o e=>hk b o (λhm=>?_) (zAu _ e);have e1:=Zad.mp hm;exact absurd (e1▸zB0 e) (Zaj _)
end
section
theorem uT(hc:X.calm=true):fK X (.builtin "min") (λxs H Q=>∃(p:Addr)(ns:WF),xs=[.ref p]/\SqT X.K H p (ns.map V.int)/\ns≠[]/\∀M,M∈ns->(∀a∈ns,M<=a)->Q (.int M) H):=by
 intro z06 s σ H xs us Q I r h;obtain⟨p,ns,rfl,hq,fy,q⟩:=h;obtain⟨u,rfl,ru⟩:=vals1 r;cases ru;obtain⟨z08,rv,pl,hz⟩:=I.tuple hq;have hi:IntsAre z08 ns:=intsAre_of rv;obtain⟨zs,ez⟩:=(hi.allInts:AllInts z08.toArray).items;have en:numsOf z08=ns:=hi.numsOf;have hl:s.heap.IsTuple p (intItems zs):=ez▸(show s.heap.IsTuple p z08.toArray from pl);have bq:0<zs.size:=by
  have e1:(intItems zs).size=z08.length:=by rw[<-ez,zA8]
  have e2:=rv.length;rw[zA1]at e2;have e3:0<ns.length:=List.length_pos_iff.mpr fy;simp only[intItems,Array.size_map]at e1;lia
 have hn:numsOf (intItems zs).toList=ns:=by rw[<-ez];exact en
 refine Jo (I.ok.hd hc) hl bq λv h' tk hv hk=>?_;obtain⟨t,rfl⟩:=intItems_at hv;obtain⟨h1,h2⟩:=argBest_lt (numAt zs) (zs.size-1);rw[nums_intItems]at hn;refine⟨.int _,H,I.kept (t':=tk) hk,⟨t,rfl⟩,q _ ?_ λa ha=>?_⟩;.rw[<-hn,numAt_eq];exact getD_mem (by rw[zA1,zA9];lia)
 .rw[<-hn]at ha;obtain⟨j,hj,rfl⟩:=mem_getD ha;rw[zA1,zA9]at hj;rw[<-numAt_eq];exact h2 j z00
end
def Mi(wi:TI)(src:List (Option Nat))(g:TG)(tt:TT)(tm:TM):TE:=λσ H Q=>wi σ H λJ H1=>vQ J g tt tm (λys _ H'=>∀D,H' D=none->Q (.ref D) (upd H' D (.lst ys))) [] (capσ σ src) H1
theorem FJ{M:Addr->Env->Sem Fin->Sem Fin}(Nc:Qa7)(src:List (Option Nat))(hc:X.calm=true)(hi:PI X tg iter wi)(lT:∀it D env,compTurn (.ListComp elt (⟨tg,iter,ifs,0⟩::rest) scope pos) 0 (.ref it) (.ref D) env=oJ tg ifs p (.ref it) env (M D env) (again (.compLoop (.ListComp elt (⟨tg,iter,ifs,0⟩::rest) scope pos) 0 (.ref it) (.ref D) env)))(hb:∀C fp z06 s₂ H₂,PG (cxC X scope Nc C fp z06 s₂ H₂) tg g/\PTs (cxC X scope Nc C fp z06 s₂ H₂) ifs tt/\∀D,Apart (cxC X scope Nc C fp z06 s₂ H₂) D->PM (cxC X scope Nc C fp z06 s₂ H₂) D (M D (cxC X scope Nc C fp z06 s₂ H₂).env) tm)(bo:∀C,Caps X (compEnvC scope (cj X.env.cells scope.names []) C X.env) Nc src)(S:CScope X scope)(hs:∀x,foldedSetIterable iter X.env x=pure x:=by intro _;rfl):PE X (.ListComp elt (⟨tg,iter,ifs,0⟩::rest) scope pos) (Mi wi src g tt tm):=by intro z06 s σ H Q I h;rw[eval_ListComp];refine wpAny_comprehension_free (use:=none) rfl hs (jO S.hfree) S.kind S.hnames ?_;refine thn (hi z06 s σ H _ I h) λv s1 h1=>thn h1 λsP s2 h2=>?_;obtain⟨it,fp,tn,J,H2,e,I2,T,st2,f2,hW⟩:=h2;subst e;refine pU (RR:=λacc C=>compPost (model X.prog X.w) X.A X.xe none (EP X z06 σ Q) acc C) hc S rfl lT bo hb I2 T st2 f2 hW ?_;intro D C s' ys H' m fin nD J' hn fC;obtain⟨f0,f1,_,f3,f4,f5⟩:=fC;refine⟨m,hn,λGS iP=>?_⟩;exact⟨.ref D,_,J'.turned (t':=s'.toks) (λb o hb e=>iP.extBut b o hb e) f0 f1 f3 f4 f5,rfl,fin D nD⟩
open PySem PySem.Spec PyProof.Rows PySem.Calls PySem.W
theorem FN{X:Cx}(ok:wY scope X.env.scope X.N N ix=true):(∀p∈scope.names,p.2=NameKind.free->X.env.kindOf p.1=some .cell)/\∀(j:Nat)x,N[j]?=some x->∃i,ix[j]?=some i/\X.N[i]?=some x/\scope.names.lookup x=some .free:=by
 unfold wY at ok;simp only[Bool.and_eq_true,z17,Bool.not_eq_true',List.all_eq_true,Bool.or_eq_true]at ok;obtain⟨⟨⟨⟨⟨kd,co⟩,ge⟩,IL⟩,zs⟩,hl⟩:=ok;refine⟨λp hp e=>?_,λj x e=>?_⟩
 .rcases(IL p hp).2 with z|z;.exact absurd e z
  .exact z
 .have hj:=(zAa.mp e).1;have e2:ix[j]?=some (ix[j]'z00):=zA0 z00;have:=zs (x,ix[j]'z00) (zB5 (i:=j) (by rw[List.getElem?_zip_eq_some];exact⟨e,e2⟩));exact⟨_,e2,this.1,this.2⟩
theorem fu(ix:List Nat)(gu:X.env.code=.ref cc)(hC:CodeHd X.base cc T)(hB:X.base.BuiltinsAt X.mg T)(IM:X.env.scope=sc)(IP:X.N=NX)(tN:defaultsOf params X.env=([],[]))(Uq:∀qual cl pm cv ct,bindArgs (kla_fn "<lambda>" qual params body scope cl pm cv ct) ⟨[],[]⟩=pure [])(ok:wY scope sc NX N ix=true):PE X (.Lambda params body scope cw) (tMk T (X.env.qual++"<lambda>") params body scope (cj X.env.cells scope.names []) N):=by subst IM IP;obtain⟨kc,hz⟩:=FN ok;unfold wY at ok;simp only[Bool.and_eq_true,z17,Bool.not_eq_true',List.all_eq_true,Bool.or_eq_true]at ok;obtain⟨⟨⟨⟨⟨kd,co⟩,ge⟩,IL⟩,zs⟩,hl⟩:=ok;refine Fv ⟨tN,kd,co,ge,λp hp=>(IL p hp).1,λp hp e=>.inl (kc p hp e),Uq,λx hx=>?_⟩ gu hC hB;obtain⟨j,e⟩:=List.mem_iff_getElem?.mp hx;obtain⟨_,_,_,z⟩:=hz j x e;exact z
theorem FP{p pos:Pos}(scope:Scope)(F:FnOk X.prog X.w X.K X.mg X.base CX0 k f fd [y] sp)(hr:Room k X.A)(hg:Gl X x)(hm:X.mg x=some (.ref f))(hk:PySem.W.keepIn X.K (.ref f)=true)(hb:Binds X.K fd [y] [])(hx:X.ex=[])(nE:∀x,X.fn x=true)(IM:X.env.scope=sc)(IP:X.N=NX)(ok:wY scope sc NX N ix=true)(ha:PE X arg te)(fE:Qad x:=by decide)(he:starEach [arg] X.env=(false,eval arg X.env)::starEach [] X.env:=by rfl)(fx:(backTo pos (starEach [] X.env)).any (·.1)=false:=by rfl):PE X (.Call (.Name x p) [arg] [] pos) (Kq sp N ix (cj X.env.cells scope.names []) te):=by subst IM IP;obtain⟨kc,hz⟩:=FN ok;exact Ji F hr hg hm hk hb hx (λp hp e=>⟨kc p hp e,nE _⟩) hz ha fE he fx
open PySem PySem.Spec PyProof.Rows PySem.SeqAt
theorem Mj(hu:X.A.units+64<cLine):OpR X (compareOp .NotEq) (λx y H Q=>∃d,IsTh S H x d/\IsTh S H y d/\shaped d=true/\noMix d d=true/\Q (.bl false) H):=by intro z06 s σ H x y v u Q I rx ry h;obtain⟨d,t1,t2,sh,nm,q⟩:=h;obtain⟨as,r1,_⟩:=t1.reads I rx;obtain⟨bs,r2,_⟩:=t2.reads I ry;refine ne_dataH_same r1 r2 sh sh hu nm ⟨.bl false,H,I,?_,q⟩;rw[Spec.same_self];rfl
end L2
namespace K24
open PySem L2
def top(i:Nat):Stmt:=PySem.Challenge.pw_woolyears_k24_what_is_refused_of_years.main.body.getD i (.Pass ⟨0,0,0,0⟩)
def bA(d:PyData):Bool:=nH d&&!lQ d
def items:PyData->Qa3|.tuple ds=>ds|_=>[]
def intOf:PyData->Int|.int i=>i|_=>0
def bZ(d:PyData)(f m:Int):Bool:=cu d&&(decide (f<=(items d).length)&&decide (((items d).length:Int)<=m))
def bT(d:PyData)(n:Int):Bool:=bZ d n n&&(items d).all bA
def jk(d:PyData):Bool:=bT d 3&&(items d).all λx=>decide (0<=intOf x)&&decide (intOf x<=999)
def gR(d:PyData):Bool:=bZ d 1 20&&(items d).all jk
def at_(d:PyData)(i:Nat):Int:=intOf ((items d).getD i .none)
def qy(a b c d e f:Int):Bool:=(decide (0<=a)&&decide (a<8))&&((decide (0<=b)&&decide (b<3))&&((decide (0<=c)&&(decide (c<=d)&&decide (d<=19)))&&((decide (1<=e)&&decide (e<=99))&&(decide (0<=f)&&decide (f<=1000000)))))
def jl(d:PyData):Bool:=bT d 6&&qy (at_ d 0) (at_ d 1) (at_ d 2) (at_ d 3) (at_ d 4) (at_ d 5)
def fW(d:PyData):Bool:=bZ d 0 10&&(items d).all jl
theorem nd1(x:Str):([x]:Qa7).Nodup:=by simp
theorem FQ(d:PyData):1<=sz d:=by cases d<;>simp[sz]
theorem je:∀ds,ds.length<=szs ds|[]=>zAp _|d::ds=>by have:=je ds;have:=FQ d;simp only[List.length_cons,szs];lia
theorem pI:∀{ds:Qa3}{d:PyData},d∈ds->sz d<=szs ds
 |x::ds,d,h=>by
  simp only[szs];rcases zAo.mp h with e|e;.rw[e];lia
  .have:=pI e;lia
theorem fQ(h:d∈ds)(hz:sz (.tuple ds)<=4000):sz d<=4000:=by have:=pI h;simp only[sz]at hz;lia
theorem dq(r:IsThs S H xs ds)(hz:sz (.tuple ds)<=4000):xs.length<sizeLine:=by have:=je ds;have:=r.length;simp only[sz]at hz;rw[sizeLine_eq];lia
def spT(f:PyData->Bool):Sp:=λvs H Q _=>∃S v d,vs=[v]/\IsTh S H v d/\sz d<=4000/\∀H',Same H H'->Q (.bl (f d)) H'
inductive SpT1I(f:PyData->Int->Bool)(vs:List V)(H:Hp)(Q:VK):Prop|mk:∀S v d n,(vs=[v,.int n])->(IsTh S H v d)->(sz d<=4000)->(∀H',Same H H'->Q (.bl (f d n)) H')->SpT1I f vs H Q
def FT(f:PyData->Int->Bool):Sp:=λvs H Q _=>SpT1I f vs H Q
def jC(f:PyData->Int->Int->Bool):Sp:=λvs H Q _=>∃S v d n m,vs=[v,.int n,.int m]/\IsTh S H v d/\sz d<=4000/\∀H',Same H H'->Q (.bl (f d n m)) H'
structure Mg(mg:Qa0):Prop where
 isinstance:mg "isinstance"=none
 int:mg "int"=none
 bool:mg "bool"=none
 tuple:mg "tuple"=none
 len:mg "len"=none
 all:mg "all"=none
theorem boot_int:bootBuiltins "int"=some (.type "int"):=by decide+kernel
theorem boot_bool:bootBuiltins "bool"=some (.type "bool"):=by decide+kernel
theorem boot_tuple:bootBuiltins "tuple"=some (.type "tuple"):=by decide+kernel
theorem boot_isinstance:bootBuiltins "isinstance"=some (.builtin "isinstance"):=by decide+kernel
theorem boot_all:bootBuiltins "all"=some (.builtin "all"):=by decide+kernel
theorem cD(f:PyData->Bool)(gE:σ[i]?=some (some (.ref a)))(ea:H a=some (.tup xs))(r:IsThs S H xs ds)(hl:xs.length<sizeLine)(md:∀v d H1 Q1,d∈ds->Same H H1->IsTh S H1 v d->(∀H',Same H1 H'->Q1 (.bl (f d)) H')->te ((capσ σ src).set j (some v)) H1 Q1)(q:∀H',Same H H'->Q (.bl (ds.all f)) H'):tCB (λxs H Q=>∃(p:Addr)(bs:List Bool),xs=[.ref p]/\SqL K H p (bs.map V.bl)/\Q (.bl (bs.all id)) H) (dU (zJ (Nz K (oX i)) src (bR j) vP te) nA) σ H Q:=by
 refine⟨_,gE,a,rfl,⟨xs,SqT.of ea⟩,wz (j:=j) f ea r hl md λH2 s2 D hD=>⟨D,ds.map f,rfl,?_,?_⟩⟩;.rw[<-Eg];exact SqL.of ao
 .rw[Ls];exact q _ (s2.updR hD)
structure Nums(mg:Qa0):Prop where sorts:∃t,mg "SORTS"=some (.int 3 t)holders:∃t,mg "HOLDERS"=some (.int 8 t)year:∃t,mg "LAST_YEAR"=some (.int 19 t)clips:∃t,mg "MOST_CLIPS"=some (.int 20 t)proms:∃t,mg "MOST_PROMISES"=some (.int 10 t)wool:∃t,mg "MOST_WOOL"=some (.int 999 t)sacks:∃t,mg "MOST_SACKS"=some (.int 99 t)price:∃t,mg "MOST_PRICE"=some (.int 1000000 t)
theorem nQ(h:bT d n=true):bZ d n n=true/\∀x∈items d,bA x=true:=by unfold bT at h;rw[zAc]at h;exact⟨h.1,Zae.mp h.2⟩
theorem iT(h:IsTh S H v d)(e:bA d=true):∃i,v=.int i/\d=.int i:=by cases h with|int i=>exact⟨i,rfl,rfl⟩;|_=>cases e
theorem mK{α:Type}{l:List α}(h:l.length=n+1):∃a t,l=a::t/\t.length=n:=by cases l with|nil=>cases h;|cons a t=>exact⟨a,t,rfl,Nat.succ.inj h⟩
theorem OJ{α:Type}{l:List α}(h:l.length=5):∃a b c d e,l=[a,b,c,d,e]:=by obtain⟨a,l1,e1,h1⟩:=mK h;obtain⟨b,l2,e2,h2⟩:=mK h1;obtain⟨c,l3,e3,h3⟩:=mK h2;obtain⟨d,l4,e4,h4⟩:=mK h3;obtain⟨e,l5,e5,h5⟩:=mK h4;exact⟨a,b,c,d,e,by rw[e1,e2,e3,e4,e5,List.length_eq_zero_iff.mp h5]⟩
theorem Ml{α:Type}{l:List α}(h:l.length=6):∃a b c d e f,l=[a,b,c,d,e,f]:=by obtain⟨a,l1,e1,h1⟩:=mK h;obtain⟨b,c,d,e,f,e2⟩:=OJ h1;exact⟨a,b,c,d,e,f,by rw[e1,e2]⟩
theorem iU(r:IsThs S H xs (d::ds))(e:bA d=true):∃i t,xs=.int i::t/\d=.int i/\IsThs S H t ds:=by cases r with|cons h1 r=>obtain⟨i,rfl,rfl⟩:=iT h1 e;exact⟨i,_,rfl,rfl,r⟩
theorem qz(r:IsThs S H xs (d::ds)):∃v t,xs=v::t/\IsTh S H v d/\IsThs S H t ds:=by cases r with|cons h1 r=>exact⟨_,_,rfl,h1,r⟩
theorem nR(r:IsThs S H xs ds)(hl:ds.length=3):∃v0 v1 v2 d0 d1 d2,xs=[v0,v1,v2]/\ds=[d0,d1,d2]/\IsTh S H v0 d0/\IsTh S H v1 d1/\IsTh S H v2 d2:=by
 obtain⟨d0,l1,e1,h1⟩:=mK hl;obtain⟨d1,l2,e2,h2⟩:=mK h1;obtain⟨d2,l3,e3,h3⟩:=mK h2;have e:ds=[d0,d1,d2]:=by rw[e1,e2,e3,List.length_eq_zero_iff.mp h3]
 subst e;obtain⟨v0,t0,f0,i0,r0⟩:=qz r;obtain⟨v1,t1,f1,i1,r1⟩:=qz r0;obtain⟨v2,t2,f2,i2,r2⟩:=qz r1;cases r2;exact⟨v0,v1,v2,d0,d1,d2,by rw[f0,f1,f2],rfl,i0,i1,i2⟩
theorem wZ(r:IsThs S H xs ds)(hl:ds.length=6)(hw:∀x∈ds,bA x=true):∃i1 i2 i3 i4 i5 i6,xs=[.int i1,.int i2,.int i3,.int i4,.int i5,.int i6]/\ds=[.int i1,.int i2,.int i3,.int i4,.int i5,.int i6]:=by obtain⟨d1,d2,d3,d4,d5,d6,rfl⟩:=Ml hl;obtain⟨i1,t1,e1,rfl,r1⟩:=iU r (hw _ z01);obtain⟨i2,t2,e2,rfl,r2⟩:=iU r1 (hw _ z01);obtain⟨i3,t3,e3,rfl,r3⟩:=iU r2 (hw _ z01);obtain⟨i4,t4,e4,rfl,r4⟩:=iU r3 (hw _ z01);obtain⟨i5,t5,e5,rfl,r5⟩:=iU r4 (hw _ z01);obtain⟨i6,t6,e6,rfl,r6⟩:=iU r5 (hw _ z01);cases r6;exact⟨i1,i2,i3,i4,i5,i6,by rw[e1,e2,e3,e4,e5,e6],rfl⟩
theorem CV(h:bZ (.tuple ds) n m=true):n<=(ds.length:Int)/\(ds.length:Int)<=m:=by have h:(true&&(decide (n<=(ds.length:Int))&&decide ((ds.length:Int)<=m)))=true:=h;rw[Bool.true_and,zAc]at h;exact⟨zBd h.1,zBd h.2⟩
def Cal(P:Program)(w:World)(K:Frag)(mg:Qa0)(base:Heap)(k:Nat)(x:Str)(ps:Qa7)(sp:Sp):Prop:=∃f fd,FnOk P w K mg base CX0 k f fd ps sp/\mg x=some (.ref f)/\PySem.W.keepIn K (.ref f)=true/\Binds K fd ps []
theorem aJ{p pos:Pos}(c:Cal X.prog X.w X.K X.mg X.base j x ps sp)(hr:Room k X.A)(ha:PA X (e::es) t)(hjk:j<=k:=by decide)(hg:Gl X x:=by exact rfl)(fE:Qad x:=by decide)(he:Qab X e es:=by rfl)(fx:Qac X pos es:=by rfl):PE X (.Call (.Name x p) (e::es) [] pos) (vM sp [] E0 t):=by obtain⟨f,fd,F,hm,hk,hb⟩:=c;exact zr F (hr.mono hjk) hg hm hk hb .nil O7 ha fE he fx
theorem sc1:FnScope ["thing"] ["thing"] (aC (top 20)):=fQS
theorem xf(F:Fun K "is_whole" "is_whole" (top 20) f fd)(T:Mg mg):FnOk P w K mg base CX0 1 f fd ["thing"] (spT bA):=by refine F.oq sc1 λaf A outer s H vs Q E hr h=>?_;obtain⟨S,v,d,rfl,th,hz,q⟩:=h;refine⟨_,aF (aN (cC (aM bJ rfl T.isinstance boot_isinstance (aP (pv 0) (aP (dB rfl T.int boot_int (v:=.ty "int") rfl) aj))) (dW (Dw (aM bJ rfl T.isinstance boot_isinstance (aP (pv 0) (aP (dB rfl T.bool boot_bool (v:=.ty "bool") rfl) aj))))))),?_⟩;refine⟨_,rfl,v,_,"int",nH d,rfl,th.ty,zM d,_,rfl,?_⟩;have fin:=q H (Same.refl H);unfold bA at fin;cases e:nH d with|false=>rw[e]at fin;exact bx fin;|true=>rw[e]at fin;exact bw ⟨_,rfl,v,_,"bool",lQ d,rfl,th.ty,wu d,_,rfl,fin⟩
theorem sc2:FnScope ["thing","fewest","most"] ["thing","fewest","most"] (aC (top 22)):=fQS
theorem qC(F:Fun K "is_tuple_of" "is_tuple_of" (top 22) f fd)(T:Mg mg):FnOk P w K mg base CX0 1 f fd ["thing","fewest","most"] (jC bZ):=by refine F.oq sc2 λaf A outer s H vs Q E hr h=>?_;obtain⟨S,v,d,n,m,rfl,th,hz,q⟩:=h;refine⟨_,aF (aN (cC (aM bJ rfl T.isinstance boot_isinstance (aP (pv 0) (aP (dB rfl T.tuple boot_tuple (v:=.ty "tuple") rfl) aj))) (dW (dC bW bW (pv 1) (aM aW rfl T.len PySem.boot_len (aP (pv 0) aj)) (pv 2))))),?_⟩;refine⟨_,rfl,v,_,"tuple",cu d,rfl,th.ty,fZ d,_,rfl,?_⟩;have fin:=q H (Same.refl H);unfold bZ at fin;cases e:cu d with|false=>rw[e]at fin;exact bx fin;|true=>rw[e]at fin;refine bw ?_;cases th with
 |@tup a xs ds ea r=>have hl:=r.length;refine⟨_,rfl,_,rfl,a,xs,rfl,.inr (SqT.of ea),_,_,rfl,rfl,_,rfl,?_⟩;rw[hl];have fin:Q (.bl (true&&(decide (n<=(ds.length:Int))&&decide ((ds.length:Int)<=m)))) H:=fin;cases e1:decide (n<=(ds.length:Int))with|false=>rw[e1]at fin;exact bx fin;|true=>rw[e1]at fin;exact bw ⟨_,rfl,_,_,rfl,rfl,fin⟩
  |_=>cases e
theorem sc3:FnScope ["thing","many"] ["thing","many"] (aC (top 23)):=fQS
theorem rP(F:Fun K "are_wholes" "are_wholes" (top 23) f fd)(T:Mg mg)(c1:Cal P w K mg base 1 "is_whole" ["thing"] (spT bA))(c2:Cal P w K mg base 1 "is_tuple_of" ["thing","fewest","most"] (jC bZ)):FnOk P w K mg base CX0 2 f fd ["thing","many"] (FT bT):=by
 refine F.oq sc3 λaf A outer s H vs Q E hr h=>?_;obtain⟨S,v,d,n,rfl,th,hz,q⟩:=h;refine⟨_,aF (aN (cC (aJ c2 hr (aP (pv 0) (aP (pv 1) (aP (pv 1) aj)))) (dW (aM (dh rfl) rfl T.all boot_all (aP (bN ["part"] [none] rfl (fJ (pv 0)) (λC fp z06 s₂ H₂=>⟨bC (i:=0) (nd1 _) rfl (Or.inl rfl),bB,aJ c1 hr (aP (pv 0) aj)⟩) (λC=>trivial) ⟨rfl,rfl,rfl,rfl⟩) aj))))),?_⟩;refine⟨_,rfl,_,rfl,_,rfl,S,v,d,n,n,rfl,th,hz,λH1 s1=>⟨_,rfl,?_⟩⟩;have fA:=th.same s1
 cases e:bZ d n n with|false=>refine bx ?_;have fin:=q H1 s1;unfold bT at fin;rw[e]at fin;exact fin;|true=>refine bw ?_;cases fA with|@tup a xs ds ea r=>
   have ew:bT (.tuple ds) n=ds.all bA:=by unfold bT;rw[e];rfl
   refine cD bA rfl ea r (dq r hz) (λv d H2 Q2 hm s2 t2 q2=>⟨_,rfl,S,v,d,rfl,t2,fQ hm hz,q2⟩) λH2 s2=>?_;rw[<-ew];exact q _ (s1.trans s2);|_=>cases e
theorem sc13:FnScope ["thing"] ["thing"] (aC (top 34)):=fQS
theorem yN(F:Fun K "is_clip" "is_clip" (top 34) f fd)(T:Mg mg)(N:Nums mg)(c1:Cal P w K mg base 2 "are_wholes" ["thing","many"] (FT bT)):FnOk P w K mg base CX0 3 f fd ["thing"] (spT jk):=by refine F.oq sc13 λaf A outer s H vs Q E hr h=>?_;obtain⟨S,v,d,rfl,th,hz,q⟩:=h;obtain⟨t3,e3⟩:=N.sorts;obtain⟨t9,e9⟩:=N.wool;refine⟨_,aF (aN (cC (aJ c1 hr (aP (pv 0) (aP (bM (v:=.int 3) rfl e3 ⟨_,rfl⟩) aj))) (dW (aM (dh rfl) rfl T.all boot_all (aP (bN ["sacks"] [none] rfl (fJ (pv 0)) (λC fp z06 s₂ H₂=>⟨bC (i:=0) (nd1 _) rfl (Or.inl rfl),bB,dC bW bW aB (pv 0) (bM (v:=.int 999) rfl e9 ⟨_,rfl⟩)⟩) (λC=>trivial) ⟨rfl,rfl,rfl,rfl⟩) aj))))),?_⟩;refine⟨_,rfl,S,v,d,3,rfl,th,hz,λH1 s1=>⟨_,rfl,?_⟩⟩;have fA:=th.same s1;have fin:=λH'(s:Same H H')=>q H' s;unfold jk at fin;cases e:bT d 3 with|false=>rw[e]at fin;exact bx (fin _ s1);|true=>rw[e]at fin;refine bw ?_;obtain⟨e1,e2⟩:=nQ e;cases fA with
 |@tup a xs ds ea r=>refine cD (λx=>decide (0<=intOf x)&&decide (intOf x<=999)) rfl ea r (dq r hz) (λv d H2 Q2 hm s2 t2 q2=>?_) λH2 s2=>fin _ (s1.trans s2);obtain⟨i,rfl,rfl⟩:=iT t2 (e2 d hm);refine⟨_,rfl,_,_,rfl,rfl,_,rfl,?_⟩;have q3:=q2 H2 (Same.refl _);show if decide ((0:Int)<=i)=true then _ else _;cases e5:decide ((0:Int)<=i)with|false=>refine bx ?_;have q3:Q2 (.bl (decide ((0:Int)<=i)&&decide (i<=999))) H2:=q3;rw[e5]at q3;exact q3;|true=>refine bw ⟨_,_,rfl,rfl,?_⟩;have q3:Q2 (.bl (decide ((0:Int)<=i)&&decide (i<=999))) H2:=q3;rw[e5]at q3;exact q3
  |_=>cases e1
theorem sc14:FnScope ["thing"] ["thing"] (aC (top 35)):=fQS
theorem uU(F:Fun K "are_clips" "are_clips" (top 35) f fd)(T:Mg mg)(N:Nums mg)(c1:Cal P w K mg base 3 "is_clip" ["thing"] (spT jk))(c2:Cal P w K mg base 1 "is_tuple_of" ["thing","fewest","most"] (jC bZ)):FnOk P w K mg base CX0 4 f fd ["thing"] (spT gR):=by refine F.oq sc14 λaf A outer s H vs Q E hr h=>?_;obtain⟨S,v,d,rfl,th,hz,q⟩:=h;obtain⟨t3,e3⟩:=N.clips;refine⟨_,aF (aN (cC (aJ c2 hr (aP (pv 0) (aP aB (aP (bM (v:=.int 20) rfl e3 ⟨_,rfl⟩) aj)))) (dW (aM (dh rfl) rfl T.all boot_all (aP (bN ["part"] [none] rfl (fJ (pv 0)) (λC fp z06 s₂ H₂=>⟨bC (i:=0) (nd1 _) rfl (Or.inl rfl),bB,aJ c1 hr (aP (pv 0) aj)⟩) (λC=>trivial) ⟨rfl,rfl,rfl,rfl⟩) aj))))),?_⟩;refine⟨_,rfl,S,v,d,1,20,rfl,th,hz,λH1 s1=>⟨_,rfl,?_⟩⟩;have fA:=th.same s1;have fin:=λH'(s:Same H H')=>q H' s;unfold gR at fin;cases e:bZ d 1 20 with|false=>rw[e]at fin;exact bx (fin _ s1);|true=>rw[e]at fin;refine bw ?_;cases fA with|@tup a xs ds ea r=>exact cD jk rfl ea r (dq r hz) (λv d H2 Q2 hm s2 t2 q2=>⟨_,rfl,S,v,d,rfl,t2,fQ hm hz,q2⟩) λH2 s2=>fin _ (s1.trans s2);|_=>cases e
theorem sc15:FnScope ["thing","holder","sort","first","last","sacks","price"] ["thing"] (aC (top 36)):=fQS
theorem rQ(F:Fun K "is_promise" "is_promise" (top 36) f fd)(T:Mg mg)(N:Nums mg)(c1:Cal P w K mg base 2 "are_wholes" ["thing","many"] (FT bT)):FnOk P w K mg base CX0 3 f fd ["thing"] (spT jl):=by
 refine F.oq sc15 λaf A outer s H vs Q E hr h=>?_;obtain⟨S,v,d,rfl,th,hz,q⟩:=h;obtain⟨t1,e1⟩:=N.holders;obtain⟨t2,e2⟩:=N.sorts;obtain⟨t3,e3⟩:=N.year;obtain⟨t4,e4⟩:=N.sacks;obtain⟨t5,e5⟩:=N.price;refine⟨_,aA (bV (bH (bY (aJ c1 hr (aP (pv 0) (aP aB aj))))) (aF (aN gj)) bh) (aA (cO (pv 0) (bU rfl (az (pgn 1 sc15.nd) (az (pgn 2 sc15.nd) (az (pgn 3 sc15.nd) (az (pgn 4 sc15.nd) (az (pgn 5 sc15.nd) (az (pgn 6 sc15.nd) aX)))))))) (aF (aN (cC (dC bW pO aB (pv 1) (bM (v:=.int 8) rfl e1 ⟨_,rfl⟩)) (cC (dC bW pO aB (pv 2) (bM (v:=.int 3) rfl e2 ⟨_,rfl⟩)) (cC (Ce bW bW bW aB (pv 3) (pv 4) (bM (v:=.int 19) rfl e3 ⟨_,rfl⟩)) (cC (dC bW bW aB (pv 5) (bM (v:=.int 99) rfl e4 ⟨_,rfl⟩)) (dW (dC bW bW aB (pv 6) (bM (v:=.int 1000000) rfl e5 ⟨_,rfl⟩)))))))))),?_⟩
 refine⟨_,rfl,S,v,d,6,rfl,th,hz,λH1 s1=>⟨_,rfl,?_⟩⟩;have fA:=th.same s1;have fin:=λH'(s:Same H H')=>q H' s;unfold jl at fin;cases e:bT d 6 with|false=>rw[e]at fin;exact bw (fin _ s1);|true=>rw[e]at fin;refine bx ?_;obtain⟨z1,z2⟩:=nQ e;cases fA with|@tup a xs ds ea r=>
   have hl:ds.length=6:=by have:=CV z1;lia
   obtain⟨i1,i2,i3,i4,i5,i6,rfl,rfl⟩:=wZ r hl z2;refine⟨_,rfl,a,_,rfl,SqT.of ea,rfl,_,_,rfl,_,_,rfl,_,_,rfl,_,_,rfl,_,_,rfl,_,_,rfl,rfl,?_⟩;refine jc (cg fD (dZ rfl) fD) (λ_=>jc (cg fD (dZ rfl) fD) λ_=>jc (Cg fD (dZ rfl) (dZ rfl) fD) λ_=>jc (cg fD (dZ rfl) fD) λ_=>cg fD (dZ rfl) fD) _ ?_;exact fin H1 s1;|_=>cases z1
theorem Qy:FnScope ["thing"] ["thing"] (aC (top 37)):=fQS
theorem ph(F:Fun K "are_promises" "are_promises" (top 37) f fd)(T:Mg mg)(N:Nums mg)(c1:Cal P w K mg base 3 "is_promise" ["thing"] (spT jl))(c2:Cal P w K mg base 1 "is_tuple_of" ["thing","fewest","most"] (jC bZ)):FnOk P w K mg base CX0 4 f fd ["thing"] (spT fW):=by refine F.oq Qy λaf A outer s H vs Q E hr h=>?_;obtain⟨S,v,d,rfl,th,hz,q⟩:=h;obtain⟨t3,e3⟩:=N.proms;refine⟨_,aF (aN (cC (aJ c2 hr (aP (pv 0) (aP aB (aP (bM (v:=.int 10) rfl e3 ⟨_,rfl⟩) aj)))) (dW (aM (dh rfl) rfl T.all boot_all (aP (bN ["part"] [none] rfl (fJ (pv 0)) (λC fp z06 s₂ H₂=>⟨bC (i:=0) (nd1 _) rfl (Or.inl rfl),bB,aJ c1 hr (aP (pv 0) aj)⟩) (λC=>trivial) ⟨rfl,rfl,rfl,rfl⟩) aj))))),?_⟩;refine⟨_,rfl,S,v,d,0,10,rfl,th,hz,λH1 s1=>⟨_,rfl,?_⟩⟩;have fA:=th.same s1;have fin:=λH'(s:Same H H')=>q H' s;unfold fW at fin;cases e:bZ d 0 10 with|false=>rw[e]at fin;exact bx (fin _ s1);|true=>rw[e]at fin;refine bw ?_;cases fA with|@tup a xs ds ea r=>exact cD jl rfl ea r (dq r hz) (λv d H2 Q2 hm s2 t2 q2=>⟨_,rfl,S,v,d,rfl,t2,fQ hm hz,q2⟩) λH2 s2=>fin _ (s1.trans s2);|_=>cases e
def dR(d:PyData)(lo hi:Int):Bool:=bA d&&(decide (lo<=intOf d)&&decide (intOf d<=hi))
def iG(d:PyData):Bool:=cu d&&(decide ((items d).length=3)&&(items d).all λx=>dR x 0 999)
def ie(d:PyData):Bool:=cu d&&((decide (1<=(items d).length)&&decide ((items d).length<=20))&&(items d).all iG)
def bounds:Qa3:=[.tuple [.int 0,.int 7],.tuple [.int 0,.int 2],.tuple [.int 0,.int 19],.tuple [.int 0,.int 19],.tuple [.int 1,.int 99],.tuple [.int 0,.int 1000000]]
def uV(d e:PyData):Bool:=dR d (at_ e 0) (at_ e 1)
def iH(d:PyData):Bool:=cu d&&(decide ((items d).length=6)&&((List.zipWith uV (items d) bounds).all id&&decide (at_ d 2<=at_ d 3)))
def ig(d:PyData):Bool:=cu d&&(decide ((items d).length<=10)&&(items d).all iH)
theorem Mm(h:IsTh S H z (.tuple [.int lo,.int hi])):∃t,z=.ref t/\H t=some (.tup [.int lo,.int hi]):=by cases h with|@tup a xs ds e r=>cases r with|cons h1 r=>cases r with|cons h2 r=>cases r;cases h1;cases h2;exact⟨a,rfl,e⟩
theorem CW(h:e∈bounds):∃lo hi,e=.tuple [.int lo,.int hi]:=by simp only[bounds,List.mem_cons,List.not_mem_nil,or_false]at h;rcases h with z|z|z|z|z|z<;>exact⟨_,_,z⟩
theorem Qz:FnScope [AAb] [AAb] (aC (top 97)):=fQS
theorem CZ(F:Fun K AAy AAy (top 97) f fd)(T:Mg mg):FnOk P w K mg base CX0 1 f fd [AAb] (spT bA):=by refine F.oq Qz λaf A outer s H vs Q E hr h=>?_;obtain⟨S,v,d,rfl,th,hz,q⟩:=h;refine⟨_,aF (aN (cC (aM bJ rfl T.isinstance boot_isinstance (aP (pv 0) (aP (dB rfl T.int boot_int (v:=.ty "int") rfl) aj))) (dW (Dw (aM bJ rfl T.isinstance boot_isinstance (aP (pv 0) (aP (dB rfl T.bool boot_bool (v:=.ty "bool") rfl) aj))))))),?_⟩;exact jc (b:=nH d) (c:=!lQ d) (λQ h=>⟨_,rfl,v,_,"int",nH d,rfl,th.ty,zM d,h⟩) (λ_ Q h=>⟨_,rfl,v,_,"bool",lQ d,rfl,th.ty,wu d,_,rfl,h⟩) _ (q H (Same.refl H))
theorem QB:FnScope [AAb,AAr,AAp] [AAb,AAr,AAp] (aC (top 98)):=fQS
theorem xj(F:Fun K AAt AAt (top 98) f fd)(c1:Cal P w K mg base 1 AAy [AAb] (spT bA)):FnOk P w K mg base CX0 2 f fd [AAb,AAr,AAp] (jC dR):=by refine F.oq QB λaf A outer s H vs Q E hr h=>?_;obtain⟨S,v,d,n,m,rfl,th,hz,q⟩:=h;refine⟨_,aF (aN (cC (aJ c1 hr (aP (pv 0) aj)) (dW (dC bW bW (pv 1) (pv 0) (pv 2))))),?_⟩;refine⟨_,rfl,S,v,d,rfl,th,hz,λH1 s1=>⟨_,rfl,?_⟩⟩;have fin:=q H1 s1;unfold dR at fin;cases e:bA d with|false=>rw[e]at fin;exact bx fin;|true=>rw[e]at fin;obtain⟨i,rfl,rfl⟩:=iT th e;exact bw (cg (dZ rfl) (dZ rfl) (dZ rfl) _ fin)
theorem QC:FnScope [AAb] [AAb] (aC (top 99)):=fQS
theorem xm(F:Fun K "_law_is_clip" "_law_is_clip" (top 99) f fd)(T:Mg mg)(c1:Cal P w K mg base 2 AAt [AAb,AAr,AAp] (jC dR)):FnOk P w K mg base CX0 3 f fd [AAb] (spT iG):=by refine F.oq QC λaf A outer s H vs Q E hr h=>?_;obtain⟨S,v,d,rfl,th,hz,q⟩:=h;refine⟨_,aA (bV (PW.pt (gG (bH (bY (aM bJ rfl T.isinstance boot_isinstance (aP (pv 0) (aP (dB rfl T.tuple boot_tuple (v:=.ty "tuple") rfl) aj))))) (gC (bz sI (aM aW rfl T.len PySem.boot_len (aP (pv 0) aj)) aB (bu _))))) (aF (aN gj)) bh) (aF (aN (aM (dh rfl) rfl T.all boot_all (aP (bN [AAo] [none] rfl (fJ (pv 0)) (λC fp z06 s₂ H₂=>⟨bC (i:=0) (nd1 _) rfl (Or.inl rfl),bB,aJ c1 hr (aP (pv 0) (aP aB (aP aB aj)))⟩) (λC=>trivial) ⟨rfl,rfl,rfl,rfl⟩) aj)))),?_⟩;have fin:=λH'(s:Same H H')=>q H' s;unfold iG at fin;refine⟨_,rfl,v,_,"tuple",cu d,rfl,th.ty,fZ d,_,rfl,?_⟩;cases e:cu d with
 |false=>rw[e]at fin;exact bw (bw (fin H (Same.refl H)))
 |true=>rw[e]at fin;refine bx ?_;cases th with|@tup a xs ds ea r=>
   have hl:=r.length;refine⟨_,rfl,a,xs,rfl,.inr (SqT.of ea),rfl,_,rfl,?_⟩;have fin:∀H',Same H H'->Q (.bl (true&&(decide (ds.length=3)&&ds.all λx=>dR x 0 999))) H':=fin;by_cases e3:ds.length=3;.refine DY (by rw[hl,e3]<;>rfl) ?_;rw[zAw e3]at fin;exact cD (λx=>dR x 0 999) rfl ea r (dq r hz) (λv d H2 Q2 hm s2 t2 q2=>⟨_,rfl,S,v,d,0,999,rfl,t2,fQ hm hz,q2⟩) fin
   .rw[zB6 e3]at fin;have ne:¬(V.int (xs.length:Int)=V.int 3):=λz=>by injection z with z;lia
    rw[zB6 ne];exact bw (fin H (Same.refl H));|_=>cases e
theorem QD:FnScope [AAb] [AAb] (aC (top 100)):=fQS
theorem rR(F:Fun K ABc ABc (top 100) f fd)(T:Mg mg)(c1:Cal P w K mg base 3 "_law_is_clip" [AAb] (spT iG)):FnOk P w K mg base CX0 4 f fd [AAb] (spT ie):=by refine F.oq QD λaf A outer s H vs Q E hr h=>?_;obtain⟨S,v,d,rfl,th,hz,q⟩:=h;refine⟨_,aA (bV (PW.pt (gG (bH (bY (aM bJ rfl T.isinstance boot_isinstance (aP (pv 0) (aP (dB rfl T.tuple boot_tuple (v:=.ty "tuple") rfl) aj))))) (gC (bH (gm bW bW aB (aM aW rfl T.len PySem.boot_len (aP (pv 0) aj)) aB))))) (aF (aN gj)) bh) (aF (aN (aM (dh rfl) rfl T.all boot_all (aP (bN [AAo] [none] rfl (fJ (pv 0)) (λC fp z06 s₂ H₂=>⟨bC (i:=0) (nd1 _) rfl (Or.inl rfl),bB,aJ c1 hr (aP (pv 0) aj)⟩) (λC=>trivial) ⟨rfl,rfl,rfl,rfl⟩) aj)))),?_⟩;have fin:=λH'(s:Same H H')=>q H' s;unfold ie at fin;refine⟨_,rfl,v,_,"tuple",cu d,rfl,th.ty,fZ d,_,rfl,?_⟩;cases e:cu d with|false=>rw[e]at fin;exact bw (bw (fin H (Same.refl H)));|true=>rw[e]at fin;refine bx ?_;cases th with
 |@tup a xs ds ea r=>
   have hl:=r.length;have fin:∀H',Same H H'->Q (.bl (true&&((decide (1<=ds.length)&&decide (ds.length<=20))&&ds.all iG))) H':=fin;refine cg (p:=λi j=>decide (i<=j)) (q:=λi j=>decide (i<=j)) (j:=(xs.length:Int)) fD (λQ h=>⟨_,rfl,a,xs,rfl,.inr (SqT.of ea),h⟩) fD _ ⟨_,rfl,?_⟩;have ee:(decide ((1:Int)<=(xs.length:Int))&&decide ((xs.length:Int)<=20))=(decide (1<=ds.length)&&decide (ds.length<=20)):=by
    rw[hl];congr 1;.exact decide_eq_decide.mpr z00
    .exact decide_eq_decide.mpr z00
   rw[ee];cases e2:(decide (1<=ds.length)&&decide (ds.length<=20))with|false=>rw[e2]at fin;exact bw (fin H (Same.refl H));|true=>rw[e2]at fin;refine bx ?_;exact cD iG rfl ea r (dq r hz) (λv d H2 Q2 hm s2 t2 q2=>⟨_,rfl,S,v,d,rfl,t2,fQ hm hz,q2⟩) fin
  |_=>cases e
theorem sc27:FnScope [AAb,"_law_tops"] [AAb] (aC (top 101)):=fQS
theorem nd3:([AAo,AAr,AAp]:Qa7).Nodup:=by decide+kernel
theorem qD(F:Fun K AAz AAz (top 101) f fd)(T:Mg mg)(Tz:mg "zip"=none)(c1:Cal P w K mg base 2 AAt [AAb,AAr,AAp] (jC dR)):FnOk P w K mg base CX0 3 f fd [AAb] (spT iH):=by refine F.oq sc27 λaf A outer s H vs Q E hr h=>?_;obtain⟨S,v,d,rfl,th,hz,q⟩:=h;refine⟨_,tQ (aR ⟨bV (PW.pt (gG (bH (bY (aM bJ rfl T.isinstance boot_isinstance (aq (pv 0) (aq (dB rfl T.tuple boot_tuple (v:=.ty "tuple") rfl) aj))))) (gC (bz sI (aM aW rfl T.len PySem.boot_len (aq (pv 0) aj)) aB (bu _))))) (aF (aN gj)) bh⟩ (aR (gW 1 sc27.nd (eF (aZ qi (aZ qi (aZ qi (aZ qi (aZ qi (aZ J1 bG)))))))) (aR ⟨bV (bH (bY (aM (dh rfl) rfl T.all boot_all (aq (bN (g:=lE K 2 (cG (bR 0) (cG (lE K 2 (cG (bR 1) (cG (bR 2) mZ))) mZ))) [AAo,AAr,AAp] [none,none,none] rfl (ZT.pi_zip true false rfl Tz (aq (pv 0) (aq (pv 1) aj))) (λC fp z06 s₂ H₂=>⟨eQ rfl rfl (az (pgn 0 nd3) (az (eQ rfl rfl (az (pgn 1 nd3) (az (pgn 2 nd3) aX))) aX)),bB,aJ c1 hr (aq (pv 0) (aq (pv 1) (aq (pv 2) aj)))⟩) (λC=>trivial) ⟨rfl,rfl,rfl,rfl⟩) aj)))) (aF (aN gj)) bh⟩ (dN ⟨aN (fY bW (pX bQ (pv 0) aB) (pX bQ (pv 0) aB) (bu _))⟩)))),?_⟩;have fin:=λH'(s:Same H H')=>q H' s;unfold iH at fin;refine⟨_,rfl,v,_,"tuple",cu d,rfl,th.ty,fZ d,_,rfl,?_⟩;cases e:cu d with
 |false=>rw[e]at fin;exact bw (bw (fin H (Same.refl H)))
 |true=>rw[e]at fin;refine bx ?_;cases th with|@tup a xs ds ea r=>
   have hl:=r.length;refine⟨_,rfl,a,xs,rfl,.inr (SqT.of ea),rfl,_,rfl,?_⟩;have fin:∀H',Same H H'->Q (.bl (true&&(decide (ds.length=6)&&((List.zipWith uV ds bounds).all id&&decide (at_ (.tuple ds) 2<=at_ (.tuple ds) 3))))) H':=fin;by_cases e3:ds.length=6
   .refine DY (by rw[hl,e3]<;>rfl) ?_;rw[zAw e3]at fin;have two:∀{i j:Int}{σ:St},ThE (λ_=>False) σ H (qY (wA [i,j])) (.tuple [.int i,.int j]):=λ{i j σ}=>jA (J7 [i,j]) (by show 2<=4000;decide);have IQ:∀{σ:St},ThE (λ_=>False) σ H (qY (dU (tC (.int 0)) (dU (tOp (rI DN λi j=>.int (i^j.toNat)) (tC (.int 10)) (tC (.int 6))) nA))) (.tuple [.int 0,.int 1000000]):=λ{σ}=>jA (bj jz (bj (Er (i:=1000000) λH'=>Ek (g:=λi j=>V.int (i^j.toNat)) fD fD ⟨by decide,by decide,by decide⟩) gD)) (by show 2<=4000;decide);refine cB ?_;dsimp only;refine aG (aU ?_);refine jB ?_;refine bj two (bj two (bj two (bj two (bj two (bj IQ gD))))) H (Same.refl H) _ λzs H1 s1 t1=>?_;have t1:IsThs (λ_=>False) H1 zs bounds:=t1;refine⟨by rw[t1.length];show 6<=sizeLine;decide,λl fq=>?_⟩;have s2:Same H (upd H1 l (.lst zs)):=s1.updR fq;have oQ:=s2 _ _ ea;refine⟨_,rfl,_,rfl,a,l,xs,zs,rfl,SqT.of oQ,SqL.of ao,Et uV (λσ=>∃x y z,σ=[x,y,z]) ⟨_,_,_,rfl⟩ oQ ao (r.same s2) (t1.same (Same.upd fq)) e3 (dq r hz) ?_ λH3 s3 D hD=>⟨D,List.zipWith uV ds bounds,rfl,SqL.of ao,_,rfl,?_⟩⟩;.rintro T x z dx dz σ H3 R hd he⟨y1,y2,y3,rfl⟩s3 eT tx tz hR;obtain⟨lo,hi,rfl⟩:=CW he;obtain⟨t,rfl,et⟩:=Mm tz;refine⟨T,_,rfl,SqT.of eT,rfl,_,_,rfl,_,_,rfl,⟨t,_,rfl,SqT.of et,rfl,_,_,rfl,_,_,rfl,rfl,rfl,?_⟩⟩;exact⟨_,rfl,_,rfl,_,rfl,S,x,dx,lo,hi,rfl,tx,fQ hd hz,λH4 s4=>hR _ _ ⟨_,_,_,rfl⟩ s4⟩
    .have s4:Same H (upd H3 D (.lst ((List.zipWith uV ds bounds).map V.bl))):=(s2.trans s3).updR hD;cases e5:(List.zipWith uV ds bounds).all id with|false=>rw[e5]at fin;exact bw (fin _ s4);|true=>
      rw[e5]at fin;refine bx ?_;have hw:∀x∈ds,bA x=true:=λx hx=>by
       obtain⟨i,hi,rfl⟩:=Zaz hx;have hb:i<bounds.length:=by rw[e3]at hi;exact hi
       have:=Zae.mp e5 (uV ds[i] bounds[i]) (zB5 (i:=i) (by rw[List.getElem?_zipWith,zA0 hi,zA0 hb]));have this:(bA ds[i]&&_)=true:=this;rw[zAc]at this;exact this.1
      obtain⟨i1,i2,i3,i4,i5,i6,rfl,rfl⟩:=wZ r e3 hw;have y9:=s4 _ _ ea;refine⟨_,rfl,a,_,2,.int i3,rfl,rfl,SqT.of y9,rfl,_,rfl,a,_,3,.int i4,rfl,rfl,SqT.of y9,rfl,_,_,rfl,rfl,fin _ s4⟩
   .rw[zB6 e3]at fin;have ne:¬(V.int (xs.length:Int)=V.int 6):=λz=>by injection z with z;lia
    rw[zB6 ne];exact bw (fin H (Same.refl H));|_=>cases e
theorem QF:FnScope [AAb] [AAb] (aC (top 102)):=fQS
theorem nU(F:Fun K AAx AAx (top 102) f fd)(T:Mg mg)(c1:Cal P w K mg base 3 AAz [AAb] (spT iH)):FnOk P w K mg base CX0 4 f fd [AAb] (spT ig):=by refine F.oq QF λaf A outer s H vs Q E hr h=>?_;obtain⟨S,v,d,rfl,th,hz,q⟩:=h;refine⟨_,aA (bV (PW.pt (gG (bH (bY (aM bJ rfl T.isinstance boot_isinstance (aq (pv 0) (aq (dB rfl T.tuple boot_tuple (v:=.ty "tuple") rfl) aj))))) (gC (bz oE (aM aW rfl T.len PySem.boot_len (aq (pv 0) aj)) aB (bu _))))) (aF (aN gj)) bh) (aF (aN (aM (dh rfl) rfl T.all boot_all (aq (bN [AAo] [none] rfl (fJ (pv 0)) (λC fp z06 s₂ H₂=>⟨bC (i:=0) (nd1 _) rfl (Or.inl rfl),bB,aJ c1 hr (aq (pv 0) aj)⟩) (λC=>trivial) ⟨rfl,rfl,rfl,rfl⟩) aj)))),?_⟩;have fin:=λH'(s:Same H H')=>q H' s;unfold ig at fin;refine⟨_,rfl,v,_,"tuple",cu d,rfl,th.ty,fZ d,_,rfl,?_⟩;cases e:cu d with
 |false=>rw[e]at fin;exact bw (bw (fin H (Same.refl H)))
 |true=>rw[e]at fin;refine bx ?_;cases th with|@tup a xs ds ea r=>
   have hl:=r.length;refine⟨_,rfl,a,xs,rfl,.inr (SqT.of ea),_,_,rfl,rfl,_,rfl,?_⟩;have fin:∀H',Same H H'->Q (.bl (true&&(decide (ds.length<=10)&&ds.all iH))) H':=fin;by_cases e3:ds.length<=10;.rw[zAw e3]at fin;rw[zB6 z00];refine bx ?_;exact cD iH rfl ea r (dq r hz) (λv d H2 Q2 hm s2 t2 q2=>⟨_,rfl,S,v,d,rfl,t2,fQ hm hz,q2⟩) fin
   .rw[zB6 e3]at fin;rw[zAw z00];exact bw (fin H (Same.refl H));|_=>cases e
theorem Al{α:Type}(p q:α->Bool):∀l:List α,(l.all λx=>p x&&q x)=(l.all p&&l.all q)|[]=>rfl|x::l=>by rw[List.all_cons,List.all_cons,List.all_cons,Al p q l];cases p x<;>cases q x<;>cases l.all p<;>cases l.all q<;>rfl
theorem pC(d:PyData):jk d=iG d:=by
 cases d with|tuple ds=>
  have e1:jk (.tuple ds)=((((decide ((3:Int)<=(ds.length:Int))&&decide ((ds.length:Int)<=3)))&&ds.all bA)&&ds.all λx=>decide (0<=intOf x)&&decide (intOf x<=999)):=rfl;have e2:iG (.tuple ds)=(decide (ds.length=3)&&ds.all λx=>bA x&&(decide (0<=intOf x)&&decide (intOf x<=999))):=rfl;rw[e1,e2,Al bA];have e3:(decide ((3:Int)<=(ds.length:Int))&&decide ((ds.length:Int)<=3))=decide (ds.length=3):=by rw[<-Bool.decide_and];exact decide_eq_decide.mpr z03
  rw[e3,Bool.and_assoc];|_=>rfl
theorem FW(d:PyData):gR d=ie d:=by
 cases d with|tuple ds=>
  have e1:gR (.tuple ds)=((decide ((1:Int)<=(ds.length:Int))&&decide ((ds.length:Int)<=20))&&ds.all jk):=rfl;have e2:ie (.tuple ds)=((decide (1<=ds.length)&&decide (ds.length<=20))&&ds.all iG):=rfl;rw[e1,e2];have e3:(decide ((1:Int)<=(ds.length:Int))&&decide ((ds.length:Int)<=20))=(decide (1<=ds.length)&&decide (ds.length<=20)):=by rw[<-Bool.decide_and,<-Bool.decide_and];exact decide_eq_decide.mpr z03
  rw[e3,show jk=iG from funext pC];|_=>rfl
theorem fB(d:PyData):(∃i,d=.int i)\/bA d=false:=by cases d with|int i=>exact .inl ⟨i,rfl⟩;|_=>exact .inr rfl
theorem Jp(d:PyData):jl d=iH d:=by cases d with|tuple ds=>
  have e1:jl (.tuple ds)=(((decide ((6:Int)<=(ds.length:Int))&&decide ((ds.length:Int)<=6))&&ds.all bA)&&qy (at_ (.tuple ds) 0) (at_ (.tuple ds) 1) (at_ (.tuple ds) 2) (at_ (.tuple ds) 3) (at_ (.tuple ds) 4) (at_ (.tuple ds) 5)):=rfl;have e2:iH (.tuple ds)=(decide (ds.length=6)&&((List.zipWith uV ds bounds).all id&&decide (at_ (.tuple ds) 2<=at_ (.tuple ds) 3))):=rfl;rw[e1,e2];have e3:(decide ((6:Int)<=(ds.length:Int))&&decide ((ds.length:Int)<=6))=decide (ds.length=6):=by rw[<-Bool.decide_and];exact decide_eq_decide.mpr z03
  rw[e3];by_cases hl:ds.length=6
  .rw[zAw hl,Bool.true_and,Bool.true_and];obtain⟨d1,d2,d3,d4,d5,d6,rfl⟩:=Ml hl;have e4:(List.zipWith uV [d1,d2,d3,d4,d5,d6] bounds).all id=(dR d1 0 7&&(dR d2 0 2&&(dR d3 0 19&&(dR d4 0 19&&(dR d5 1 99&&(dR d6 0 1000000&&true)))))):=rfl;have e5:[d1,d2,d3,d4,d5,d6].all bA=(bA d1&&(bA d2&&(bA d3&&(bA d4&&(bA d5&&(bA d6&&true)))))):=rfl;rw[e4,e5];unfold dR;rcases fB d1 with⟨i1,rfl⟩|z
   .rcases fB d2 with⟨i2,rfl⟩|z
    .rcases fB d3 with⟨i3,rfl⟩|z
     .rcases fB d4 with⟨i4,rfl⟩|z
      .rcases fB d5 with⟨i5,rfl⟩|z
       .rcases fB d6 with⟨i6,rfl⟩|z;.show(true&&qy i1 i2 i3 i4 i5 i6)=((true&&(decide (0<=i1)&&decide (i1<=7)))&&((true&&(decide (0<=i2)&&decide (i2<=2)))&&((true&&(decide (0<=i3)&&decide (i3<=19)))&&((true&&(decide (0<=i4)&&decide (i4<=19)))&&((true&&(decide (1<=i5)&&decide (i5<=99)))&&((true&&(decide (0<=i6)&&decide (i6<=1000000)))&&true)))))&&decide (i3<=i4));unfold qy;simp only[Bool.true_and,Bool.and_true];apply Zaw.mpr;simp only[Bool.and_eq_true,z17];omega
        .rw[z];simp
       .rw[z];simp
      .rw[z];simp
     .rw[z];simp
    .rw[z];simp
   .rw[z];simp
  .rw[zB6 hl,Bool.false_and,Bool.false_and,Bool.false_and];|_=>rfl
theorem xn(d:PyData):fW d=ig d:=by
 cases d with|tuple ds=>
  have e1:fW (.tuple ds)=((decide ((0:Int)<=(ds.length:Int))&&decide ((ds.length:Int)<=10))&&ds.all jl):=rfl;have e2:ig (.tuple ds)=(decide (ds.length<=10)&&ds.all iH):=rfl;rw[e1,e2];have e3:(decide ((0:Int)<=(ds.length:Int))&&decide ((ds.length:Int)<=10))=decide (ds.length<=10):=by rw[<-Bool.decide_and];exact decide_eq_decide.mpr z03
  rw[e3,show jl=iH from funext Jp];|_=>rfl
def gY(H:Hp)(st:Addr):Prop:=∃a b,H st=some (.lst [.int a,.int b])/\0<=a/\0<=b/\b<4294967296
def But(st:Addr)(H H':Hp):Prop:=∀b o,H b=some o->b≠st->H' b=some o
inductive SpCellI(K:Frag)(vs:List V)(H:Hp)(Q:VK):Prop|mk:∀a(ns:WF)k,(vs=[.ref a,.int k])->(SqL K H a (ns.map V.int))->(0<=k)->(∀i,Q (.int i) H)->SpCellI K vs H Q
def FZ(K:Frag):Sp:=λvs H Q _=>SpCellI K vs H Q
inductive SpStateI(K:Frag)(vs:List V)(H:Hp)(Q:VK):Prop|mk:∀a(ns:WF)k,(vs=[.ref a,.int k])->(SqL K H a (ns.map V.int))->(0<=k)->(∀p x y,H p=none->0<=x->0<=y->y<4294967296->Q (.ref p) (upd H p (.lst [.int x,.int y])))->SpStateI K vs H Q
def Am(K:Frag):Sp:=λvs H Q _=>SpStateI K vs H Q
inductive SpTakeI(vs:List V)(H:Hp)(Q:VK):Prop|mk:∀st n,(vs=[.ref st,.int n])->(gY H st)->(1<=n)->(n<1073741824)->(∀r a' b',0<=r->r<n->0<=a'->0<=b'->b'<4294967296->Q (.int r) (upd H st (.lst [.int a',.int b'])))->SpTakeI  vs H Q
def jD:Sp:=λvs H Q _=>SpTakeI  vs H Q
theorem QG:FnScope [AAd,AAs] [AAd,AAs] (aC (top 83)):=fQS
theorem Jq(F:Fun K "_law_cell_at" "_law_cell_at" (top 83) f fd)(T:Mg mg):FnOk P w K mg base CX0 1 f fd [AAd,AAs] (FZ K):=by
 refine F.oq QG λaf A outer s H vs Q E hr h=>?_;obtain⟨a,ns,k,rfl,hS,h0,q⟩:=h;refine⟨_,aA (bV (bz pO (pv 1) (aM aW rfl T.len PySem.boot_len (aP (pv 0) aj)) (bu _)) (aF (aN (pX bF (pv 0) (pv 1)))) bh) (aF (aN aB)),?_⟩;refine⟨_,rfl,_,rfl,a,_,rfl,.inl hS,_,_,rfl,rfl,_,rfl,?_⟩;refine rm (λc=>?_) (λ_=>q 0);have c:=zBd c;rw[zA1]at c;have hk:k.toNat<ns.length:=z00;refine⟨_,rfl,_,rfl,a,_,k,.int ns[k.toNat],rfl,rfl,hS,?_,q _⟩;have e:(ns.map V.int)[k.toNat]?=some (.int ns[k.toNat]):=by rw[zAb,zA0 hk];rfl
 have:=d7 e;rw[show((k.toNat:Nat):Int)=k by lia]at this;exact this
theorem sc19:FnScope [AAd,AAs,"_law_cell"] [AAd,AAs] (aC (top 84)):=fQS
theorem G3(F:Fun K "_law_state" "_law_state" (top 84) f fd)(c1:Cal P w K mg base 1 "_law_cell_at" [AAd,AAs] (FZ K)):FnOk P w K mg base CX0 2 f fd [AAd,AAs] (Am K):=by
 refine F.oq sc19 λaf A outer s H vs Q E hr h=>?_;obtain⟨a,ns,k,rfl,hS,h0,q⟩:=h;refine⟨_,aA (pss 2 sc19.nd (aJ c1 hr (aP (pv 0) (aP (pv 1) aj)))) (aA (bV (bz DQ (pv 2) (aV nj aB aB) (bu _)) (aF (aN (cY (aq (aV fU (pv 2) (aV nj aB aB)) (aq (aV bI (aV j7 (pv 2) aB) aB) aj))))) bh) (aF (aN (cY (aq aB (aq (aV bI (aV j7 (pv 2) aB) aB) aj)))))),?_⟩;refine⟨_,rfl,_,rfl,a,ns,k,rfl,hS,h0,λc=>?_⟩;refine⟨_,rfl,_,_,rfl,rfl,⟨by decide,by decide,by decide⟩,_,_,rfl,rfl,_,rfl,?_⟩;refine rm (λhc=>?_) (λ_=>?_)
 .have hc:=zBd hc;refine⟨_,rfl,_,_,rfl,rfl,⟨by decide,by decide,by decide⟩,_,_,rfl,rfl,_,rfl,_,_,rfl,rfl,(by show(0:Int)<2147483629;decide),_,_,rfl,rfl,zL,λp hp=>?_⟩;refine q p _ _ hp ?_ ?_ ?_;.show 0<=c-(10:Int)^18;have hc:(10:Int)^18<=c:=hc;lia
  .show 0<=c%2147483629+1;lia
  .show c%2147483629+1<4294967296;lia
 .refine⟨_,rfl,_,_,rfl,rfl,(by show(0:Int)<2147483647;decide),_,_,rfl,rfl,zL,λp hp=>?_⟩;refine q p _ _ hp (Za6 0) ?_ ?_;.show 0<=c%2147483647+1;lia
  .show c%2147483647+1<4294967296;lia
theorem sc20:FnScope [AAa,AAi,AAq,"_law_stirred"] [AAa,AAi] (aC (top 85)):=fQS
theorem Jr(F:Fun K AAn AAn (top 85) f fd):FnOk P w K mg base CX0 1 f fd [AAa,AAi] jD:=by
 refine F.oq sc20 λaf A outer s H vs Q E hr h=>?_;obtain⟨st,n,rfl,⟨a,b,es,ha,hb,nv⟩,h1,h2,q⟩:=h;refine⟨_,aA (bV (bz oE (pX bF (pv 0) aB) aB (bu _)) (aA (pss 2 sc20.nd (aV j7 (pX bF (pv 0) aB) (pv 1))) (aA (cO (aV uq (pX bF (pv 0) aB) (pv 1)) (um (pv 0) aB set_list)) (aF (aN (pv 2))))) bh) (aA (cO (aV j7 (aV bI (aV j6 (pX bF (pv 0) aB) aB) aB) aB) (um (pv 0) aB set_list)) (aA (pss 3 sc20.nd (aV j7 (aV bI (aV bI (aV j6 (pX bF (pv 0) aB) (pX bF (pv 0) aB)) (aV j6 aB (pX bF (pv 0) aB))) aB) aB)) (aA (pss 3 sc20.nd (aV j7 (aV bI (aV bI (aV j6 (pv 3) (pv 3)) (aV j6 aB (pv 3))) aB) aB)) (aF (aN (aV j7 (aV uq (pv 3) aB) (pv 1))))))),?_⟩;refine⟨_,rfl,st,_,0,.int a,rfl,rfl,SqL.of es,rfl,_,_,rfl,rfl,_,rfl,?_⟩;refine rm (λhc=>?_) (λ_=>?_);.refine⟨_,rfl,st,_,0,.int a,rfl,rfl,SqL.of es,rfl,_,rfl,_,_,rfl,rfl,(by show 0<n;lia),?_⟩;refine⟨_,rfl,st,_,0,.int a,rfl,rfl,SqL.of es,rfl,_,rfl,_,_,rfl,rfl,⟨z00,h2⟩,_,rfl,st,_,0,0,rfl,rfl,es,rfl,_,rfl,?_⟩;exact q (a%n) (a/n) b (Zbh a z00) (Za5 a z00) (Int.ediv_nonneg ha z00) hb nv
 .refine⟨_,rfl,st,_,1,.int b,rfl,rfl,SqL.of es,rfl,_,_,rfl,rfl,.inl ⟨z00,z00⟩,_,_,rfl,rfl,_,_,rfl,rfl,(by show(0:Int)<2147483647;decide),_,rfl,st,_,1,1,rfl,rfl,es,rfl,?_⟩;have N4:0<=(b*48271+29)%2147483647:=Zbh _ z02;have Ur:(b*48271+29)%2147483647<2147483647:=Za5 _ z02;obtain⟨m,hm⟩:∃m,m=(b*48271+29)%2147483647:=⟨_,rfl⟩;rw[<-hm]at N4 Ur;have eL:([V.int a,V.int b].set 1 ((λi j:Int=>V.int (i%j)) (b*48271+29) 2147483647))=[V.int a,V.int m]:=by rw[hm];rfl
  rw[eL];have iA:upd H st (.lst [.int a,.int m]) st=some (.lst [.int a,.int m]):=ao;refine⟨_,rfl,st,_,1,.int m,rfl,rfl,SqL.of iA,rfl,_,rfl,st,_,1,.int m,rfl,rfl,SqL.of iA,rfl,_,_,rfl,rfl,.inl ⟨z00,z00⟩,_,rfl,st,_,1,.int m,rfl,rfl,SqL.of iA,rfl,_,_,rfl,rfl,.inl ⟨by decide,by decide⟩,_,_,rfl,rfl,_,_,rfl,rfl,_,_,rfl,rfl,(by show(0:Int)<2147483629;decide),?_⟩;have IS:0<=(m*m+39373*m+7)%2147483629:=Zbh _ z02;have qS:(m*m+39373*m+7)%2147483629<2147483629:=Za5 _ z02;refine⟨_,rfl,_,rfl,_,_,rfl,rfl,.inl ⟨Int.lt_of_lt_of_le z02 IS,Int.lt_trans qS z02⟩,_,rfl,_,_,rfl,rfl,.inl ⟨by decide,by decide⟩,_,_,rfl,rfl,_,_,rfl,rfl,_,_,rfl,rfl,(by show(0:Int)<2147483587;decide),?_⟩;refine⟨_,rfl,_,_,rfl,rfl,⟨by decide,by decide⟩,_,rfl,_,_,rfl,rfl,(by show 0<n;lia),?_⟩;exact q _ a m (Zbh _ z00) (Za5 _ z00) ha N4 z00
theorem qF:bootBuiltins "repr"=some (.builtin "repr"):=by decide+kernel
theorem An(hr:Room k A)(hk:60<=k)(h:sz d<=1000):A.units+(sz d+1)<cLine:=by have:=hr.un;lia
mutual
def tm(B:Nat):PyData->Bool|.none=>true|.bool _=>true|.int i=>decide (i.natAbs<B)|.str x=>decide (x.length<=10)&&x.cps.toList.all λc=>decide (c<16^8)|.list xs=>tms B xs|.tuple xs=>tms B xs|.dict z07=>eO B z07
def tms(B:Nat):Qa3->Bool|[]=>true|x::xs=>tm B x&&tms B xs
def eO(B:Nat):List (PyData×PyData)->Bool|[]=>true|(.int i,.int j)::r=>decide (i.natAbs<B)&&decide (j.natAbs<B)&&eO B r|_::_=>false
end
theorem Ao(h:B<=C):∀z07,eO B z07=true->eO C z07=true|[],_=>rfl|(.int i,.int j)::r,e=>by have e:(decide (i.natAbs<B)&&decide (j.natAbs<B)&&eO B r)=true:=e;simp only[Bool.and_eq_true,z17]at e;show(decide (i.natAbs<C)&&decide (j.natAbs<C)&&eO C r)=true;rw[Ao h r e.2,zAw (by lia:i.natAbs<C),zAw (by lia:j.natAbs<C)];rfl;|(.none,_)::_,h=>by simp[eO]at h;|(.bool _,_)::_,h=>by simp[eO]at h;|(.str _,_)::_,h=>by simp[eO]at h;|(.list _,_)::_,h=>by simp[eO]at h;|(.tuple _,_)::_,h=>by simp[eO]at h;|(.dict _,_)::_,h=>by simp[eO]at h;|(.int _,.none)::_,h=>by simp[eO]at h;|(.int _,.bool _)::_,h=>by simp[eO]at h;|(.int _,.str _)::_,h=>by simp[eO]at h;|(.int _,.list _)::_,h=>by simp[eO]at h;|(.int _,.tuple _)::_,h=>by simp[eO]at h;|(.int _,.dict _)::_,h=>by simp[eO]at h
mutual
theorem tm_up(h:B<=C):∀d,tm B d=true->tm C d=true|.none,_=>rfl|.bool _,_=>rfl|.int i,e=>by have e:decide (i.natAbs<B)=true:=e;rw[z17]at e;exact zAw (show i.natAbs<C by lia);|.str _,e=>e|.list xs,e=>uW h xs e|.tuple xs,e=>uW h xs e|.dict z07,e=>Ao h z07 e
theorem uW(h:B<=C):∀ds,tms B ds=true->tms C ds=true|[],_=>rfl|d::ds,e=>by have e:(tm B d&&tms B ds)=true:=e;rw[zAc]at e;show(tm C d&&tms C ds)=true;rw[tm_up h d e.1,uW h ds e.2];rfl
end
theorem tX:∀z07,eO (2^128) z07=true->gO z07=true|[],_=>rfl|(.int i,.int j)::r,e=>by have e:(decide (i.natAbs<2^128)&&decide (j.natAbs<2^128)&&eO (2^128) r)=true:=e;rw[zAc]at e;show(decide (i.natAbs<2^128)&&decide (j.natAbs<2^128)&&gO r)=true;rw[e.1,tX r e.2];rfl;|(.none,_)::_,h=>by simp[eO]at h;|(.bool _,_)::_,h=>by simp[eO]at h;|(.str _,_)::_,h=>by simp[eO]at h;|(.list _,_)::_,h=>by simp[eO]at h;|(.tuple _,_)::_,h=>by simp[eO]at h;|(.dict _,_)::_,h=>by simp[eO]at h;|(.int _,.none)::_,h=>by simp[eO]at h;|(.int _,.bool _)::_,h=>by simp[eO]at h;|(.int _,.str _)::_,h=>by simp[eO]at h;|(.int _,.list _)::_,h=>by simp[eO]at h;|(.int _,.tuple _)::_,h=>by simp[eO]at h;|(.int _,.dict _)::_,h=>by simp[eO]at h
mutual
theorem Aq:∀d,tm (2^128) d=true->tame d=true|.none,_=>rfl|.bool _,_=>rfl|.int i,e=>e|.str _,e=>e|.list xs,e=>qG xs e|.tuple xs,e=>qG xs e|.dict z07,e=>tX z07 e
theorem qG:∀ds,tms (2^128) ds=true->ju ds=true|[],_=>rfl|d::ds,e=>by have e:(tm (2^128) d&&tms (2^128) ds)=true:=e;rw[zAc]at e;show(tame d&&ju ds)=true;rw[Aq d e.1,qG ds e.2];rfl
end
theorem uX(h:tm B d=true)(hB:B<=2^128):tame d=true:=Aq d (tm_up hB d h)
theorem tms_all:∀{ds:Qa3},tms B ds=true↔∀d∈ds,tm B d=true|[]=>Iff.intro (λ_ _ h=>absurd h List.not_mem_nil) (λ_=>rfl)|x::ds=>by show(tm B x&&tms B ds)=true↔_;rw[zAc,tms_all (ds:=ds)];exact⟨λ⟨h1,h2⟩d hd=>(zAo.mp hd).elim (λe=>e▸h1) (h2 d),λh=>⟨h x Zan,λd hd=>h d (Zai _ hd)⟩⟩
theorem uY:∀ds es,szs (ds++es)=szs ds+szs es|[],es=>by show szs es=0+szs es;lia;|d::ds,es=>by show sz d+szs (ds++es)=sz d+szs ds+szs es;rw[uY ds es];lia
theorem Ar(ds:Qa3)(i:Nat)(e:PyData):szs (ds.take i++e::ds.drop i)=szs ds+sz e:=by
 have h:szs (ds.take i++ds.drop i)=szs ds:=by rw[zBe]
 rw[uY]at h⊢;show szs (ds.take i)+(sz e+szs (ds.drop i))=_;lia
theorem uZ:∀{ds:Qa3}{i:Nat}{d:PyData},ds[i]?=some d->szs (ds.eraseIdx i)+sz d=szs ds
 |x::ds,0,d,h=>by
  have:x=d:=by simpa using h
  subst this;show szs ds+sz x=sz x+szs ds;lia;|x::ds,i+1,d,h=>by have:=uZ (ds:=ds) (i:=i) (d:=d) (by simpa using h);show sz x+szs (ds.eraseIdx i)+sz d=sz x+szs ds;lia
theorem Av:∀{ds:Qa3}{i:Nat}{d e:PyData},ds[i]?=some d->szs (ds.set i e)+sz d=szs ds+sz e
 |x::ds,0,d,e,h=>by
  have:x=d:=by simpa using h
  subst this;show sz e+szs ds+sz x=sz x+szs ds+sz e;lia;|x::ds,i+1,d,e,h=>by have:=Av (ds:=ds) (i:=i) (d:=d) (e:=e) (by simpa using h);show sz x+szs (ds.set i e)+sz d=sz x+szs ds+sz e;lia
def Js:Qa3:=[.none,.bool true,.bool false,.int 0,.int 1,.int (-1),.int (10^29),.str "",.str "a",.str "0/0/0",.tuple [],.list [],.dict [],.tuple [.int 0],.list [.int 0],.tuple [.none],.tuple [.tuple []]]
def Jt:Qa3:=[.str "-",.dict [(.int 0,.int 1)],.tuple [.int 0,.int 0,.int 0]]
theorem G4:∀d∈Js++Jt,tm (2^100) d=true/\sz d<=6:=by
 have h:((Js++Jt).all λd=>tm (2^100) d&&decide (sz d<=6))=true:=by decide+kernel
 intro d hd;have:=Zae.mp h d hd;rw[zAc,z17]at this;exact this
def Made(st:Addr)(H:Hp)(n:Nat)(v:V)(H':Hp):Prop:=∃d,But st H H'/\gY H' st/\IsTh (λa=>H a=none/\a≠sysModules) H' v d/\tm (2^100) d=true/\sz d<=n
def P0(st:Addr)(H:Hp)(n:Nat)(v:V)(H':Hp):Prop:=∃ds,But st H H'/\gY H' st/\IsTh (λa=>H a=none/\a≠sysModules) H' v (.tuple ds)/\tms (2^100) ds=true/\1+szs ds<=n
inductive SpOddI(vs:List V)(H:Hp)(Q:VK):Prop|mk:∀st,(vs=[.ref st])->(gY H st)->(∀v H',Made st H 6 v H'->Q v H')->SpOddI  vs H Q
def G5:Sp:=λvs H Q _=>SpOddI  vs H Q
theorem sc29:FnScope [AAa,"_law_some"] [AAa] (aC (top 106)):=fQS
theorem Mp(F:Fun K "_law_odd" "_law_odd" (top 106) f fd)(c1:Cal P w K mg base 1 AAn [AAa,AAi] jD):FnOk P w K mg base CX0 2 f fd [AAa] G5:=by
 refine F.oq sc29 λaf A outer s H vs Q E hr h=>?_;obtain⟨st,rfl,dP,q⟩:=h;refine⟨_,tQ (aR (gW 1 sc29.nd (eF (aZ yD (aZ tM (aZ tM (aZ iC (aZ iC (aZ El (aZ Em (aZ cR (aZ cR (aZ cR (aZ (gP bG) (aZ (zT bG) (aZ En (aZ (gP (aZ iC bG)) (aZ (zT (aZ iC bG)) (aZ (gP (aZ yD bG)) (aZ (gP (aZ (gP bG) bG)) bG))))))))))))))))))) (dN (jy (qj bF (oN jX ⟨pv 1⟩ (eF (aZ cR (aZ Eo (aZ (gP (aZ iC (aZ iC (aZ iC bG)))) bG))))) ⟨aJ c1 hr (aq (pv 0) (aq aB aj))⟩ (λ_ _=>rfl))))),?_⟩;have hS:∀H0,Same H H0->∀p,H0 p=none->p≠sysModules->(H p=none/\p≠sysModules):=λH0 s0 p hp np=>⟨s0.free hp,np⟩;have z0:∀{n:Nat},n<=3->n<=4000:=λh=>by lia
 refine aG (aU ?_);refine jB ?_;refine(bj Ep (bj Ko (bj Ko (bj jz (bj jz (bj (Er (i:=-1) λH' Q h=>⟨1,rfl,h⟩) (bj (Er (i:=10^29) λH'=>Ek (g:=λi j=>V.int (i^j.toNat)) fD fD ⟨by decide,by decide,by decide⟩) (bj uO (bj uO (bj uO (bj (jA gD z02) (bj (zU gD z02 hS) (bj (J8 hS) (bj (jA (bj jz gD) z02) (bj (zU (bj jz gD) z02 hS) (bj (jA (bj Ep gD) z02) (bj (jA (bj (jA gD z02) gD) z02) gD))))))))))))))))) H (Same.refl H) _ λxs H1 s1 t1=>?_;have t1:IsThs (λa=>H a=none/\a≠sysModules) H1 xs Js:=t1;refine⟨by rw[t1.length];show 17<=sizeLine;decide,λp hp=>?_⟩;refine aK ?_;dsimp only;refine gQ ?_;have s2:Same H (upd H1 p (.lst xs)):=s1.updR hp;refine⟨_,rfl,?_⟩;refine(bj uO (bj (Es hS) (bj (jA (bj jz (bj jz (bj jz gD))) z02) gD))) (upd H1 p (.lst xs)) s2 _ λys H2 s3 t2=>?_;have t2:IsThs (λa=>H a=none/\a≠sysModules) H2 ys Jt:=t2;refine⟨by rw[t2.length];show 3<=sizeLine;decide,λp2 kg=>?_⟩;have s4:Same (upd H1 p (.lst xs)) (upd H2 p2 (.lst ys)):=s3.updR kg;refine⟨p,p2,xs,ys,rfl,rfl,s4 _ _ ao,ao,by rw[t1.length,t2.length];show 20<=sizeLine;decide,λl hl=>?_⟩;have s5:Same H (upd (upd H2 p2 (.lst ys)) l (.lst (xs++ys))):=(s2.trans s4).updR hl;obtain⟨a,b,es,h1,h2,h3⟩:=dP;refine⟨_,rfl,st,20,rfl,⟨a,b,s5 _ _ es,h1,h2,h3⟩,by decide,by decide,λr a' b' r0 r1 g1 g2 g3=>?_⟩;have nl:l≠st:=λz=>by have:=(s2.trans s4) _ _ es;rw[z,this]at hl;cases hl
 have t3:IsThs (λa=>H a=none/\a≠sysModules) (upd (upd H2 p2 (.lst ys)) l (.lst (xs++ys))) (xs++ys) (Js++Jt):=(((t1.same (Same.upd hp)).same s4).same (Same.upd hl)).append ((t2.same (Same.upd kg)).same (Same.upd hl));have hlen:(xs++ys).length=20:=by rw[t3.length];rfl
 have eW:r.toNat<(xs++ys).length:=z00;have e:(xs++ys)[r.toNat]?=some ((xs++ys)[r.toNat]):=zA0 eW;obtain⟨d,hd,td⟩:=t3.get e;have dv:atI (xs++ys) r=some ((xs++ys)[r.toNat]):=by have:=d7 e;rw[show((r.toNat:Nat):Int)=r by lia]at this;exact this
 refine⟨l,_,r,_,rfl,rfl,SqL.of (by rw[aD nl];exact ao),dv,q _ _ ⟨d,λb' o' e' ne=>?_,⟨a',b',ao,g1,g2,g3⟩,?_,(G4 d (zB5 hd)).1,(G4 d (zB5 hd)).2⟩⟩;.rw[aD ne];exact s5 _ _ e'
 .refine td.keep (λc l' e'=>?_) (λc o' hc e'=>?_) λ_ _ z _=>z
  .have:c≠st:=λz=>by rw[z,s5 _ _ es]at e';cases e'
   rw[aD this];exact e'
  .have:c≠st:=λz=>by rw[z,es]at hc;cases hc.1
   rw[aD this];exact e'
theorem gU(hK:X.K=K):IxR X (O2 K):=by subst hK;exact bF
theorem qH:∀{ds:Qa3}{d:PyData},tms (2^100) ds=true->tm (2^100) d=true->tms (2^100) (ds++[d])=true|[],d,_,h=>by show(tm (2^100) d&&true)=true;rw[h];rfl;|x::ds,d,h,h'=>by have h:(tm (2^100) x&&tms (2^100) ds)=true:=h;rw[zAc]at h;show(tm (2^100) x&&tms (2^100) (ds++[d]))=true;rw[h.1,qH h.2 h'];rfl
theorem qI:∀{is:WF},(∀v∈is,0<=v/\v<1000)->tms (2^100) (is.map PyData.int)=true|[],_=>rfl|i::is,h=>by have h1:=h i Zan;show(decide (i.natAbs<2^100)&&tms (2^100) (is.map PyData.int))=true;rw[qI λv hv=>h v (Zai _ hv),zAw (show i.natAbs<2^100 by lia)];rfl
theorem Dd{is:WF}(h:∀v∈is,0<=v/\v<1000):tm (2^100) (.tuple (is.map PyData.int))=true:=qI h
theorem xq:∀ds d,szs (ds++[d])=szs ds+sz d|[],d=>by show sz d+0=0+sz d;lia;|x::ds,d=>by show sz x+szs (ds++[d])=sz x+szs ds+sz d;rw[xq ds d];lia
theorem iV:∀(is:WF),szs (is.map PyData.int)=is.length|[]=>rfl|i::is=>by show 1+szs (is.map PyData.int)=is.length+1;rw[iV is];lia
theorem QH:(["_law_sort",AAa,"_law_wide"]:Qa7).Nodup:=by decide+kernel
theorem sc21:FnScope [AAa,AAf,"_law_wide",AAq,"_law_turn"] [AAa,AAf] (aC (top 86)):=fQS
inductive SpClipsI(vs:List V)(H:Hp)(Q:VK):Prop|mk:∀st n,(vs=[.ref st,.int n])->(gY H st)->(1<=n)->(n<=20)->(∀v H',P0 st H 81 v H'->Q v H')->SpClipsI  vs H Q
def Aw:Sp:=λvs H Q _=>SpClipsI  vs H Q
theorem G6(F:Fun K "_law_clips" "_law_clips" (top 86) f fd)(T:Mg mg)(Tr:mg "range"=none)(c1:Cal P w K mg base 1 AAn [AAa,AAi] jD):FnOk P w K mg base CX0 2 f fd [AAa,AAf] Aw:=by
 refine F.oq sc21 λaf A outer s H vs Q E hr h=>?_;obtain⟨st,n,rfl,dP,n1,n2,q⟩:=h;refine⟨_,aA (jo (i:=2) sc21.nd rfl (Or.inr rfl) (pX bF (cY (jP (by repeat constructor))) (aJ c1 hr (aq (pv 0) (aq aB aj))))) (aA (pss 3 sc21.nd (cY aj)) (aA (cP zB8 rfl (bK rfl Tr (aq (aV bI aB (aJ c1 hr (aq (pv 0) (aq (pv 1) aj)))) aj)) (pgn 4 sc21.nd) (aF (bf (eZ zB4 zBa zB9 cA (pv 3) (aq (dH cZ rfl T.tuple boot_tuple (aq (bN ["_law_sort",AAa,"_law_wide"] [none,some 0,some 2] rfl (bK rfl Tr (aq aB aj)) (λC fp z06 s₂ H₂=>⟨pgn 0 QH,bB,aJ c1 hr (aq (pv 1) (aq (pX (gU (K:=K) rfl) (cY (aq (pv 2) (aq aB (aq (pv 2) (aq aB aj))))) (aJ c1 hr (aq (pv 1) (aq aB aj)))) aj))⟩) (λC=>cI (cI trivial)) ⟨rfl,rfl,rfl,rfl⟩) aj)) aj))))) (aF (aN (dH cZ rfl T.tuple boot_tuple (aq (pv 3) aj)))))),?_⟩;obtain⟨a,b,es,h1,h2,h3⟩:=id dP;refine aG (aU ?_);refine⟨zL,λp hp=>?_⟩;have np:p≠st:=λz=>by rw[z,es]at hp;cases hp
 have oB:∀o,upd H p o st=some (.lst [.int a,.int b]):=λo=>by rw[aD np.symm];exact es
 refine⟨_,rfl,st,4,rfl,⟨a,b,oB _,h1,h2,h3⟩,by decide,by decide,λr a1 b1 r0 r1 g1 g2 g3=>?_⟩;obtain⟨wd,hw,w1,w2⟩:∃wd:Int,atI (([4,14,45,1000]:WF).map V.int) r=some (.int wd)/\1<=wd/\wd<=1000:=by
  have:r=0\/r=1\/r=2\/r=3:=z00;rcases this with rfl|rfl|rfl|rfl;.exact⟨4,rfl,by decide,by decide⟩
  .exact⟨14,rfl,by decide,by decide⟩
  .exact⟨45,rfl,by decide,by decide⟩
  .exact⟨1000,rfl,by decide,by decide⟩
 refine⟨p,_,r,.int wd,rfl,rfl,SqL.of (by rw[aD np];exact ao),hw,?_⟩;refine aK ?_;dsimp only;refine aG (aU ?_);refine⟨zL,λp3 ja=>?_⟩;refine aK ?_;dsimp only;refine aG ?_;have hV:p3≠st:=λz=>by rw[z,ao]at ja;cases ja
 refine⟨_,rfl,_,rfl,st,n,rfl,⟨a1,b1,by rw[aD hV.symm];exact ao,g1,g2,g3⟩,n1,z00,λr2 a2 b2 x0 x1 y1 y2 y3=>⟨_,_,rfl,rfl,1+r2,rfl,z00,z00,?_⟩⟩;have qV:∀b' o',H b'=some o'->b'≠st->b'≠p/\b'≠p3:=λb' o' e' ne=>by have z:b'≠p:=aH e' hp;refine⟨z,λz2=>?_⟩;rw[<-z2,aD ne,aD z,e']at ja;cases ja
 refine d9 (lo:=0) (n:=(1+r2).toNat) (λi σ H'=>∃xs ds x4,σ=[some (.ref st),some (.int n),some (.int wd),some (.ref p3),x4]/\But st H H'/\gY H' st/\H' p3=some (.lst xs)/\IsThs (λ_=>False) H' xs ds/\tms (2^100) ds=true/\szs ds=4*i/\xs.length=i) ?_ ?_ ?_
 .refine⟨[],[],none,rfl,λb' o' e' ne=>?_,⟨a2,b2,ao,y1,y2,y3⟩,?_,.nil,rfl,rfl,rfl⟩;.obtain⟨k1,k2⟩:=qV b' o' e' ne;rw[aD ne,aD k2,aD ne,aD k1];exact e'
  .rw[aD hV];exact ao
 .rintro i σ H' hi⟨xs,ds,x4,rfl,bt,sa,e3,ts,tm,hs,hl⟩;refine aK ?_;refine⟨_,rfl,.inl ⟨rfl,_,SqL.of e3⟩,3,rfl,by decide,by decide,?_⟩;refine⟨λj m ys N9 H2=>m=3-j/\j<=3/\∃is x0,ys=is.map V.int/\is.length=j/\(∀v∈is,0<=v/\v<1000)/\N9=[x0,some (.ref st),some (.int wd)]/\But st H' H2/\gY H2 st,⟨3,rfl,by decide,[],none,rfl,rfl,(λ_ h=>nomatch h),rfl,λ_ _ e _=>e,sa⟩,?_⟩;rintro j m ys N9 H2⟨rfl,hj,is,x0,rfl,BU,hv,rfl,EV,Of⟩;refine⟨by rw[zA1,BU,sizeLine_eq];lia,?_⟩;by_cases aI:j<3
  .refine .inr ⟨aI,λx H3 y=>?_⟩;obtain⟨e5,e6⟩:=y;subst e5;subst e6;refine aK ?_;obtain⟨a5,b5,e7,k1,k2,k3⟩:=Of;refine⟨_,rfl,_,rfl,_,rfl,zL,λp4 wa=>?_⟩;have Oy:p4≠st:=λz=>by rw[z,e7]at wa;cases wa
   refine⟨_,rfl,st,4,rfl,⟨a5,b5,by rw[aD Oy.symm];exact e7,k1,k2,k3⟩,by decide,by decide,λr3 a6 b6 z0 z1 l1 l2 l3=>?_⟩;obtain⟨wn,Us,u1,u2⟩:∃wn:Int,atI [V.int wd,V.int 1,V.int wd,V.int 3] r3=some (.int wn)/\1<=wn/\wn<=1000:=by
    have:r3=0\/r3=1\/r3=2\/r3=3:=z00;rcases this with rfl|rfl|rfl|rfl;.exact⟨wd,rfl,w1,w2⟩
    .exact⟨1,rfl,by decide,by decide⟩
    .exact⟨wd,rfl,w1,w2⟩
    .exact⟨3,rfl,by decide,by decide⟩
   refine⟨p4,_,r3,.int wn,rfl,rfl,SqL.of (by rw[aD Oy];exact ao),Us,st,wn,rfl,⟨a6,b6,ao,l1,l2,l3⟩,u1,z00,λr4 a7 b7 v0 v1 m1 m2 m3=>?_⟩;refine⟨3-(j+1),z00,rfl,aI,is++[r4],_,by rw[zA4];rfl,by rw[zA2,BU];rfl,λv Ut=>?_,rfl,λb' o' e' ne=>?_,⟨a7,b7,ao,m1,m2,m3⟩⟩
   .rcases zA6.mp Ut with z|z;.exact hv v z
    .rw[Zad.mp z];lia
   .have e8:=EV b' o' e' ne;rw[aD ne,aD ne,aD (aH e8 wa)];exact e8
  .have e5:j=3:=z00;subst e5;have e9:=EV _ _ e3 hV;refine .inl ⟨zA3 _,λD hD=>⟨D,_,rfl,.inl ⟨SqL.of ao,λl kF=>?_⟩⟩⟩;have sm:Same H2 (upd (upd H2 D (.lst (is.map V.int))) l (.tup (is.map V.int))):=(Same.upd hD).updR kF;refine⟨p3,xs,.ref l,rfl,rfl,sm _ _ e9,by rw[hl,sizeLine_eq];lia,?_⟩;have Ct:l≠p3:=λz=>by rw[z,Same.upd hD _ _ e9]at kF;cases kF
   have tk:∀c l',(upd (upd H2 D (.lst (is.map V.int))) l (.tup (is.map V.int))) c=some (.tup l')->(upd (upd (upd H2 D (.lst (is.map V.int))) l (.tup (is.map V.int))) p3 (.lst (xs++[.ref l]))) c=some (.tup l'):=λc l' e'=>by
    have:c≠p3:=λz=>by rw[z,sm _ _ e9]at e';cases e'
    rw[aD this];exact e'
   refine⟨xs++[.ref l],ds++[.tuple (is.map PyData.int)],_,rfl,λb' o' e' ne=>?_,?_,ao,?_,?_,?_,by rw[zA2,hl];rfl⟩;.have k4:=(qV b' o' e' ne).2;rw[aD k4];exact sm _ _ (EV _ _ (bt b' o' e' ne) ne)
   .obtain⟨a5,b5,e7,k1,k2,k3⟩:=Of;exact⟨a5,b5,by rw[aD hV.symm];exact sm _ _ e7,k1,k2,k3⟩
   .refine IsThs.append ?_ (.cons (.tup (by rw[aD Ct];exact ao) (IsThs.ints is)) .nil);have Uu:IsThs (λ_=>False) H2 xs ds:=ts.keep (λc l' e'=>EV c _ e' (λz=>by obtain⟨a5,b5,e7,_⟩:=sa;rw[z,e7]at e';cases e')) (λ_ _ z _=>z.elim) λ_ _ z _=>z.elim;exact(Uu.same sm).keep tk (λ_ _ z _=>z.elim) λ_ _ z _=>z.elim
   .exact qH tm (Dd hv)
   .rw[xq,hs];show 4*i+(1+szs (is.map PyData.int))=4*(i+1);rw[iV,BU];lia
 .rintro σ H'⟨xs,ds,x4,rfl,bt,sa,e3,ts,tm,hs,hl⟩;refine⟨_,rfl,p3,xs,rfl,.inl ⟨SqL.of e3,λl fq=>q _ _ ⟨ds,λb' o' e' ne=>?_,?_,.tup ao ?_,tm,?_⟩⟩⟩;.rw[aD (aH (bt b' o' e' ne) fq)];exact bt b' o' e' ne
  .obtain⟨a',b',e',j1,j2,j3⟩:=sa;exact⟨a',b',by rw[aD (aH e' fq)];exact e',j1,j2,j3⟩
  .exact(ts.same (Same.upd fq)).keep (λ_ _ e=>e) (λ_ _ z _=>z.elim) λ_ _ z _=>z.elim
  .show 1+szs ds<=81;rw[hs];lia
structure Mk3(st p3:Addr)(xs:List V)(ds:Qa3)(H H':Hp):Prop where
 bt:But st H H'
 sa:gY H' st
 e3:H' p3=some (.lst xs)ts:IsThs (λ_=>False) H' xs ds
theorem Mk3.take(g:Mk3 st p3 xs ds H H')(np:p3≠st)(h1:0<=a)(h2:0<=b)(h3:b<4294967296):Mk3 st p3 xs ds H (upd H' st (.lst [.int a,.int b])):=by
 refine⟨λb' o' e' ne=>?_,⟨a,b,ao,h1,h2,h3⟩,by rw[aD np];exact g.e3,g.ts.keep (λc l e=>?_) (λ_ _ z _=>z.elim) λ_ _ z _=>z.elim⟩;.rw[aD ne];exact g.bt b' o' e' ne
 .obtain⟨x,y,e7,_⟩:=g.sa;have:c≠st:=λz=>by rw[z,e7]at e;cases e
  rw[aD this];exact e
theorem Mk3.new(g:Mk3 st p3 xs ds H H')(hp:H' p=none):Mk3 st p3 xs ds H (upd H' p o):=by obtain⟨x,y,e7,k⟩:=g.sa;exact⟨λb' o' e' ne=>Same.upd hp _ _ (g.bt b' o' e' ne),⟨x,y,Same.upd hp _ _ e7,k⟩,Same.upd hp _ _ g.e3,g.ts.same (Same.upd hp)⟩
theorem boot_min:bootBuiltins "min"=some (.builtin "min"):=by decide+kernel
theorem sc22:FnScope [AAa,AAf,AAl,AAq,"_law_wide","_law_turn","_law_first","_law_last","_law_price","_law_holder"] [AAa,AAf,AAl] (aC (top 87)):=fQS
structure Dr(st:Addr)(H H':Hp):Prop where
 bt:But st H H'
 sa:gY H' st
theorem But.refl:But st H H:=λ_ _ e _=>e
theorem Dr.same(g:Dr st H H1)(s:Same H1 H2):Dr st H H2:=by obtain⟨a,b,e,k⟩:=g.sa;exact⟨λb' o' e' ne=>s _ _ (g.bt b' o' e' ne),a,b,s _ _ e,k⟩
theorem Dr.trans(g:Dr st H H1)(g':Dr st H1 H2):Dr st H H2:=⟨λb' o' e' ne=>g'.bt _ _ (g.bt b' o' e' ne) ne,g'.sa⟩
theorem Dr.take(g:Dr st H H1)(h1:0<=a)(h2:0<=b)(h3:b<4294967296):Dr st H (upd H1 st (.lst [.int a,.int b])):=⟨λb' o' e' ne=>by rw[aD ne];exact g.bt b' o' e' ne,a,b,ao,h1,h2,h3⟩
theorem Dr.new(g:Dr st H H1)(hp:H1 p=none):Dr st H (upd H1 p o):=g.same (Same.upd hp)
theorem Dr.ne(g:Dr st H H1)(hp:H1 p=none):p≠st:=λz=>by obtain⟨a,b,e,_⟩:=g.sa;rw[z,e]at hp;cases hp
theorem Dr.free(g:Dr st H H1)(hp:H1 p=none):H p=none:=by cases e:H p with|none=>rfl;|some o=>rw[g.bt _ _ e (g.ne hp)]at hp;cases hp
theorem Dr.put(g:Dr st H H1)(hp:H p=none)(np:p≠st):Dr st H (upd H1 p o):=by obtain⟨a,b,e,k⟩:=g.sa;refine⟨λb' o' e' ne=>?_,a,b,by rw[aD np.symm];exact e,k⟩;rw[aD (aH e' hp)];exact g.bt b' o' e' ne
theorem Dr.th{F:Addr->Prop}(g:Dr st H H1)(h0:gY H st)(hF:F st)(t:IsTh (λa=>¬F a) H v d):IsTh (λa=>¬F a) H1 v d:=by obtain⟨a,b,e,_⟩:=h0;refine t.keep (λc l e'=>g.bt _ _ e' λz=>?_) (λc o hc e'=>g.bt _ _ e' λz=>hc (z▸hF)) λ_ _ z _=>z;rw[z,e]at e';cases e'
theorem Dr.ths{F:Addr->Prop}(g:Dr st H H1)(h0:gY H st)(hF:F st)(t:IsThs (λa=>¬F a) H v d):IsThs (λa=>¬F a) H1 v d:=by obtain⟨a,b,e,_⟩:=h0;refine t.keep (λc l e'=>g.bt _ _ e' λz=>?_) (λc o hc e'=>g.bt _ _ e' λz=>hc (z▸hF)) λ_ _ z _=>z;rw[z,e]at e';cases e'
structure Fb(F:Addr->Prop)(st:Addr)(H:Hp):Prop where
 st:F st
 sys:F sysModules
 new:∀a,F a->H a=none->a=sysModules
theorem Fb.dr{st:Addr}(f:Fb F st H)(g:Dr st H H1):Fb F st H1:=⟨f.st,f.sys,λa ha hn=>f.new a ha (g.free hn)⟩
theorem Fb.with{st p:Addr}(f:Fb F st H)(hp:H p=some o):Fb (λa=>F a\/a=p) st H:=⟨.inl f.st,.inl f.sys,λa ha hn=>ha.elim (λz=>f.new a z hn) λz=>by rw[z,hp]at hn;cases hn⟩
theorem Made.dr(m:Made st H n v H')(f:Fb F st H):∃d,Dr st H H'/\IsTh (λa=>¬F a) H' v d/\tm (2^100) d=true/\sz d<=n:=by obtain⟨d,bt,sa,t,m1,z⟩:=m;exact⟨d,⟨bt,sa⟩,t.keep (λ_ _ e=>e) (λ_ _ _ e=>e) λa o ha _ hF=>ha.2 (f.new a hF ha.1),m1,z⟩
inductive SpSpoiltI(k:Int)(vs:List V)(H:Hp)(Q:VK):Prop|mk:∀F st v d deep B,(vs=[.ref st,v,.int deep])->(gY H st)->(Fb F st H)->(0<=deep)->(deep<k)->(IsTh (λa=>¬F a) H v d)->(tm B d=true)->(2^100<=B)->(sz d<=1000)->(∀v' H' d',Dr st H H'->IsTh (λa=>¬F a) H' v' d'->tm (B+1000000) d'=true->sz d'<=2*sz d+10->Q v' H')->SpSpoiltI k vs H Q
def mL(k:Int):Sp:=λvs H Q _=>SpSpoiltI k vs H Q
theorem Ju(hr:Room k A):A.units<cLine:=by have:=hr.un;lia
theorem qJ:bootBuiltins "list"=some (.type "list"):=by decide+kernel
theorem sc30:FnScope [AAa,AAb,AAv,"_law_at","_law_kind_here","_law_row"] [AAa,AAb,AAv] (aC (top 107)):=fQS
theorem iW(F:Fun K ABa ABa (top 107) f fd)(T:Mg mg)(Tl:mg "list"=none)(c1:Cal P w K mg base 1 AAn [AAa,AAi] jD)(c2:Cal P w K mg base 1 AAy [AAb] (spT bA))(c3:Cal P w K mg base 2 "_law_odd" [AAa] G5)(c4:Cal P w K mg base (3+k) ABa [AAa,AAb,AAv] (mL k)):FnOk P w K mg base CX0 (3+k+1) f fd [AAa,AAb,AAv] (mL (k+1:Nat)):=by
 refine F.oq sc30 λaf A outer s H vs Q E hr h=>?_;obtain⟨F,st,v,d,deep,B,rfl,dP,fb,d0,d1,th,wb,hB,hz,q⟩:=h;refine⟨_,aA (bV (PW.pt (yf (bY (aJ (hjk:=z00) c2 hr (aq (pv 1) aj))) (ul (bz oE (aJ (hjk:=z00) c1 hr (aq (pv 0) (aq aB aj))) aB (bu _))))) (aF (aN (aV bI (pv 1) (pX bF (uN (kW aB (kW (sG nq aB) (kW aB (kW (sG nq aB) (kW aB (kW (aV nj aB aB) bG))))))) (aJ (hjk:=z00) c1 hr (aq (pv 0) (aq aB aj))))))) bh) (aA (bV (PW.pt (gG (bH (bY (aM bJ rfl T.isinstance boot_isinstance (aq (pv 1) (aq (dB rfl T.tuple boot_tuple (v:=.ty "tuple") rfl) aj))))) (gG (bz (Cd (Ju hr)) (pv 1) (zR bG) (bu _)) (gC (bz iJ (pv 2) aB (bu _)))))) (aF (aN (aJ (hjk:=z00) c3 hr (aq (pv 0) aj)))) bh) (aA (J9 (i:=3) (j:=4) (k:=5) rfl sc30.nd rfl rfl rfl z02 z02 z02 rfl rfl rfl (aq (aJ (hjk:=z00) c1 hr (aq (pv 0) (aq (aM aW rfl T.len PySem.boot_len (aq (pv 1) aj)) aj))) (aq (aJ (hjk:=z00) c1 hr (aq (pv 0) (aq aB aj))) (aq (dH rK rfl Tl qJ (aq (pv 1) aj)) aj))) rfl) (aA (bV (bz iJ (pv 4) aB (bu _)) (aF (bf (eZ zB4 PySem.F.slot_list_insert PySem.F.type_list_insert tL (pv 5) (aq (pv 3) (aq (aJ (hjk:=z00) c3 hr (aq (pv 0) aj)) aj))))) (aF (bV (bz iJ (pv 4) aB (bu _)) (aF (bf (eZ zB4 PySem.F.slot_list_pop PySem.F.type_list_pop vO (pv 5) (aq (pv 3) aj)))) (aF (bV (bz iJ (pv 4) aB (bu _)) (aF (bf (eZ zB4 PySem.F.slot_list_insert PySem.F.type_list_insert tL (pv 5) (aq (pv 3) (aq (pX bF (pv 5) (pv 3)) aj))))) (aF (bV (bz iJ (pv 4) aB (bu _)) (aF (aN (pv 5))) (aF (bV (bz iJ (pv 4) aB (bu _)) (aF (bf (eZ zB4 zBa zB9 cA (pv 5) (aq (eZ zB4 PySem.F.slot_list_pop PySem.F.type_list_pop vO (pv 5) (aq (pv 3) aj)) aj)))) (aF (cO (aJ (hjk:=z00) c4 hr (aq (pv 0) (aq (pX bF (pv 5) (pv 3)) (aq (aV fU (pv 2) aB) aj)))) (um (pv 5) (pv 3) set_list)))))))))))) (aF (aN (dH cZ rfl T.tuple boot_tuple (aq (pv 5) aj))))))),?_⟩;have Uv:sz d<=4000:=z00;have g0:Dr st H H:=⟨But.refl,dP⟩;refine aG ?_;refine⟨_,rfl,_,v,d,rfl,th,Uv,λH1 s1=>⟨_,rfl,?_⟩⟩;have g1:Dr st H H1:=g0.same s1;have odd:∀H2 v' H',Dr st H H2->Made st H2 6 v' H'->Q v' H':=λH2 v' H' g2 m=>by obtain⟨d',g3,t3,m3,z3⟩:=m.dr (fb.dr g2);exact q v' H' d' (g2.trans g3) t3 (tm_up z00 _ m3) z00
 cases ew:bA d with|true=>
  obtain⟨i,rfl,rfl⟩:=iT th ew;refine bw ?_;refine⟨_,rfl,st,4,rfl,g1.sa,by decide,by decide,λr a1 b1 r0 r1 k1 k2 k3=>⟨_,_,rfl,rfl,_,rfl,?_⟩⟩;have g2:=g1.take k1 k2 k3;refine rm (λ_=>?_) (λ_=>?_)
  .refine⟨_,rfl,1,rfl,5,rfl,_,_,rfl,rfl,⟨by decide,by decide,by decide⟩,zL,λp hp=>?_⟩;have g3:=g2.new (o:=.lst [V.int 1,V.int (-1),V.int 5,V.int (-5),V.int 1000,V.int (10^(6:Int).toNat)]) hp;refine⟨_,rfl,st,6,rfl,g3.sa,by decide,by decide,λr2 a2 b2 x0 x1 y1 y2 y3=>?_⟩;obtain⟨wd,hw,w1,w2⟩:∃wd:Int,atI [V.int 1,V.int (-1),V.int 5,V.int (-5),V.int 1000,V.int (10^(6:Int).toNat)] r2=some (.int wd)/\-5<=wd/\wd<=1000000:=by
    have:r2=0\/r2=1\/r2=2\/r2=3\/r2=4\/r2=5:=z00;rcases this with rfl|rfl|rfl|rfl|rfl|rfl;.exact⟨1,rfl,by decide,by decide⟩
    .exact⟨-1,rfl,by decide,by decide⟩
    .exact⟨5,rfl,by decide,by decide⟩
    .exact⟨-5,rfl,by decide,by decide⟩
    .exact⟨1000,rfl,by decide,by decide⟩
    .exact⟨_,rfl,by decide,by decide⟩
   refine⟨p,_,r2,.int wd,rfl,rfl,SqL.of (by rw[aD (g2.ne hp)];exact ao),hw,i,wd,rfl,rfl,?_⟩;have wb:decide (i.natAbs<B)=true:=wb;rw[z17]at wb;exact q _ _ (.int (i+wd)) (g3.take y1 y2 y3) (.int _) (zAw (show(i+wd).natAbs<B+1000000 by lia)) (by show 1<=2*1+10;decide)
  .refine⟨_,rfl,.int i,_,"tuple",false,rfl,(IsTh.int (S:=λ_=>False) i).ty,fZ (.int i),_,rfl,?_⟩;exact bw (bw ⟨_,rfl,st,rfl,g2.sa,λv' H' m=>odd _ _ _ g2 m⟩);|false=>refine bx (cB ?_);dsimp only;refine aG ?_;refine⟨_,rfl,v,_,"tuple",cu d,rfl,(g1.th dP fb.st th).ty,fZ d,_,rfl,?_⟩;cases et:cu d with|false=>exact bw (bw ⟨_,rfl,st,rfl,g1.sa,λv' H' m=>odd _ _ _ g1 m⟩);|true=>refine bx ?_;cases th with
 |@tup a xs ds ea r=>
    have hl:=r.length;have IT:=je ds;have vn:1+szs ds<=1000:=hz;have na:a≠st:=λz=>by obtain⟨x,y,e,_⟩:=dP;rw[z,e]at ea;cases ea
    refine⟨_,rfl,zL,λp0 EW=>⟨a,p0,xs,rfl,rfl,SqT.of (Same.upd EW _ _ (s1 _ _ ea)),SqT.of ao,_,rfl,?_⟩⟩;have g2:=g1.new (o:=.tup []) EW;cases hx:xs.isEmpty with|true=>exact bw (bw ⟨_,rfl,st,rfl,g2.sa,λv' H' m=>odd _ _ _ g2 m⟩);|false=>
     refine bx ?_;refine⟨_,rfl,rfl,_,rfl,?_⟩;by_cases OA:deep=0;.subst OA;exact bw ⟨_,rfl,st,rfl,g2.sa,λv' H' m=>odd _ _ _ g2 m⟩
     .rw[zB6 (λz:V.int deep=V.int 0=>OA (by injection z))];refine bx (cB ?_);dsimp only;refine aG ?_;have qS:1<=xs.length:=by cases xs with|nil=>cases hx;|cons _ _=>exact Nat.le_add_left 1 _
      have oQ:=g2.bt _ _ ea na;refine⟨_,rfl,_,rfl,a,xs,rfl,.inr (SqT.of oQ),st,_,rfl,g2.sa,z00,z00,λr1 a1 b1 r0 rn k1 k2 k3=>?_⟩;have g3:=g2.take k1 k2 k3;refine⟨_,rfl,st,10,rfl,g3.sa,by decide,by decide,λkd a2 b2 _ _ k4 k5 k6=>?_⟩;have g4:=g3.take k4 k5 k6;refine⟨_,rfl,a,xs,rfl,SqT.of (g4.bt _ _ ea na),λp hp np=>⟨_,_,_,rfl,?_⟩⟩;have p0:=g4.free hp;have rf:=g4.ne hp;have g5:=g4.new (o:=.lst xs) hp;generalize OB:upd (upd (upd (upd H1 _ _) st _) st _) p (.lst xs)=H5 at g5⊢;have e5:H5 p=some (.lst xs):=by rw[<-OB];exact ao
      clear OB;have EZ:Fb (λa=>F a\/a=p) st H5:=(fb.dr g5).with e5;have r5:IsThs (λa=>¬(F a\/a=p)) H5 xs ds:=r.keep (λc l e'=>g5.bt _ _ e' λz=>by obtain⟨x,y,e,_⟩:=dP;rw[z,e]at e';cases e') (λc o hc e'=>g5.bt _ _ e' λz=>hc (z▸fb.st)) λc o hc e'=>λz=>z.elim hc λz=>by rw[z,p0]at e';cases e'
      have put:∀{Hc:Hp}{ys zs ws:List V}{es:Qa3},Hc p=some (.lst ys)->IsThs (λa=>¬(F a\/a=p)) Hc ws es->IsThs (λa=>¬(F a\/a=p)) (upd Hc p (.lst zs)) ws es:=λ{Hc ys zs ws es}e t=>t.keep (λc l e'=>by
        have:c≠p:=λz=>by rw[z,e]at e';cases e'
        rw[aD this];exact e') (λc o hc e'=>by have:c≠p:=λz=>hc (.inr z);rw[aD this];exact e') λ_ _ z _=>z;have IU:∀{Hc:Hp}{ys zs:List V}{w:V}{e1:PyData},Hc p=some (.lst ys)->IsTh (λa=>¬(F a\/a=p)) Hc w e1->IsTh (λa=>¬(F a\/a=p)) (upd Hc p (.lst zs)) w e1:=λ{Hc ys zs w e1}e t=>by have:=put (zs:=zs) e (.cons t .nil);cases this with|cons h _=>exact h
      have fin:∀{Hc:Hp}{ys:List V}{es:Qa3}{l:Addr},Dr st H Hc->Hc p=some (.lst ys)->IsThs (λa=>¬(F a\/a=p)) Hc ys es->tms (B+1000000) es=true->1+szs es<=2*(1+szs ds)+10->Hc l=none->Q (.ref l) (upd Hc l (.tup ys)):=λ{Hc ys es l}g e t h1 h2 hn=>q _ _ (.tuple es) (g.new hn) (.tup ao ((t.same (Same.upd hn)).keep (λ_ _ e=>e) (λ_ _ _ e=>e) λ_ _ z _ zF=>z (.inl zF))) h1 h2;have Uw:r1.toNat<xs.length:=z00;have er:xs[r1.toNat]?=some xs[r1.toNat]:=zA0 Uw;obtain⟨di,CA,ti⟩:=r5.get er;have dv:atI xs r1=some xs[r1.toNat]:=by have:=d7 er;rw[show((r1.toNat:Nat):Int)=r1 by lia]at this;exact this
      have E1:ixN xs.length r1=some r1.toNat:=by unfold ixN;rw[zAz r0,zAz z00]
      have OC:=uz E1;have wb:tms B ds=true:=wb;have rg:tms (B+1000000) ds=true:=uW z00 _ wb;have OE:tm B di=true:=tms_all.mp wb di (zB5 CA);have CB:tm (B+1000000) di=true:=tm_up z00 _ OE;have zi:=pI (zB5 CA);have E2:xs.length<sizeLine:=by rw[sizeLine_eq];lia
      refine aG ?_;refine⟨_,rfl,rfl,_,rfl,rm (λ_=>?_) λ_=>⟨_,rfl,rfl,_,rfl,rm (λ_=>?_) λ_=>⟨_,rfl,rfl,_,rfl,rm (λ_=>?_) λ_=>⟨_,rfl,rfl,_,rfl,rm (λ_=>?_) λ_=>⟨_,rfl,rfl,_,rfl,rm (λ_=>?_) λ_=>?_⟩⟩⟩⟩⟩
      .refine⟨_,rfl,.inl ⟨rfl,_,SqL.of e5⟩,_,rfl,_,rfl,st,rfl,g5.sa,λv' H6 m=>?_⟩;obtain⟨d',g6,t6,m6,z6⟩:=m.dr EZ;have e6:=g6.bt _ _ e5 rf;refine⟨p,xs,r1,v',rfl,rfl,e6,r0,z00,E2,?_⟩;refine⟨_,rfl,p,_,rfl,.inl ⟨SqL.of ao,λl fq=>fin (es:=ds.take r1.toNat++d'::ds.drop r1.toNat) ((g5.trans g6).put p0 rf) ao ?_ ?_ ?_ fq⟩⟩;.have r6:=g6.ths g5.sa EZ.st r5;exact put e6 ((r6.take _).append (.cons t6 (r6.drop _)))
       .refine tms_all.mpr λx hx=>?_;rcases zA6.mp hx with z|z;.exact tms_all.mp rg x (Zbc z)
        .rcases zAo.mp z with z|z;.rw[z];exact tm_up z00 _ m6
         .exact tms_all.mp rg x (Zbd z)
       .rw[Ar];lia
      .refine⟨_,rfl,.inl ⟨rfl,_,SqL.of e5⟩,_,rfl,?_⟩;refine⟨p,xs,r1,r1.toNat,_,rfl,rfl,e5,z00,z00,OC.1,er,?_⟩;refine⟨_,rfl,p,_,rfl,.inl ⟨SqL.of ao,λl fq=>fin (es:=ds.eraseIdx r1.toNat) (g5.put p0 rf) ao (put e5 (r5.erase _)) ?_ ?_ fq⟩⟩;.exact tms_all.mpr λx hx=>tms_all.mp rg x (List.mem_of_mem_eraseIdx hx)
       .have:=uZ CA;lia
      .refine⟨_,rfl,.inl ⟨rfl,_,SqL.of e5⟩,_,rfl,_,rfl,_,rfl,p,xs,r1,_,rfl,rfl,SqL.of e5,dv,?_⟩;refine⟨p,xs,r1,_,rfl,rfl,e5,r0,z00,E2,?_⟩;refine⟨_,rfl,p,_,rfl,.inl ⟨SqL.of ao,λl fq=>fin (es:=ds.take r1.toNat++di::ds.drop r1.toNat) (g5.put p0 rf) ao (put e5 ((r5.take _).append (.cons ti (r5.drop _)))) ?_ ?_ fq⟩⟩
       .refine tms_all.mpr λx hx=>?_;rcases zA6.mp hx with z|z;.exact tms_all.mp rg x (Zbc z)
        .rcases zAo.mp z with z|z;.rw[z];exact CB
         .exact tms_all.mp rg x (Zbd z)
       .rw[Ar];lia
      .refine⟨_,rfl,?_⟩;refine q _ _ (.list ds) g5 (.lst (λz=>np (fb.new p z p0)) e5 (r5.keep (λ_ _ e=>e) (λ_ _ _ e=>e) λ_ _ z _ zF=>z (.inl zF))) rg ?_;show 1+szs ds<=2*(1+szs ds)+10;lia
      .refine⟨_,rfl,.inl ⟨rfl,_,SqL.of e5⟩,_,rfl,.inl ⟨rfl,_,SqL.of e5⟩,_,rfl,?_⟩;refine⟨p,xs,r1,r1.toNat,_,rfl,rfl,e5,z00,z00,OC.1,er,?_⟩;have hle:=nC xs r1.toNat;refine⟨p,_,_,rfl,rfl,ao,z00,?_⟩;refine⟨_,rfl,p,_,rfl,.inl ⟨SqL.of ao,λl fq=>fin (es:=ds.eraseIdx r1.toNat++[di]) ((g5.put p0 rf).put p0 rf) ao (put ao ((put e5 (r5.erase _)).append (.cons (IU e5 ti) .nil))) ?_ ?_ fq⟩⟩
       .refine tms_all.mpr λx hx=>?_;rcases zA6.mp hx with z|z;.exact tms_all.mp rg x (List.mem_of_mem_eraseIdx z)
        .rw[Zad.mp z];exact CB
       .have:=uZ CA;rw[uY];show 1+(szs (ds.eraseIdx r1.toNat)+(sz di+0))<=_;lia
      .refine⟨_,rfl,_,rfl,_,rfl,p,xs,r1,_,rfl,rfl,SqL.of e5,dv,_,rfl,_,_,rfl,rfl,?_⟩;refine⟨_,st,_,di,deep-1,B,rfl,g5.sa,EZ,z00,z00,ti,OE,hB,z00,λv' H6 d' g6 t6 m6 z6=>?_⟩;have e6:=g6.bt _ _ e5 rf;refine⟨_,rfl,_,rfl,p,xs,r1,r1.toNat,rfl,rfl,e6,E1,?_⟩;refine⟨_,rfl,p,_,rfl,.inl ⟨SqL.of ao,λl fq=>fin (es:=ds.set r1.toNat d') ((g5.trans g6).put p0 rf) ao (put e6 ((g6.ths g5.sa EZ.st r5).set t6 _)) ?_ ?_ fq⟩⟩
       .refine tms_all.mpr λx hx=>?_;rcases List.mem_or_eq_of_mem_set hx with z|z;.exact tms_all.mp rg x z
        .rw[z];exact m6
       .have:=Av (e:=d') CA;lia
   |_=>cases et
theorem yO:FnOk P w K mg base CX0 3 f fd [AAa,AAb,AAv] (mL (0:Nat)):=by
 refine⟨λvs H Q E h=>?_,λA outer s H args us vs Q E hr he hb hv h=>?_⟩;.obtain⟨F,st,v,d,deep,B,rfl,_⟩:=h;rfl
 .obtain⟨F,st,v,d,deep,B,rfl,_,_,h0,h1,_⟩:=h;exact absurd h1 z00
def jn(r:WF):PyData:=.tuple (r.map .int)
def cN(rs:UV):PyData:=.tuple (rs.map jn)
def fl(r:WF)(i:Nat):Int:=r.getD i 0
def okP(r:WF):Prop:=r.length=6/\(0<=fl r 0/\fl r 0<8)/\(0<=fl r 1/\fl r 1<3)/\(0<=fl r 2/\fl r 2<=fl r 3/\fl r 3<=19)/\(1<=fl r 4/\fl r 4<=99)/\(0<=fl r 5/\fl r 5<=1000000)
def fX(d:PyData):Bool:=bZ d 0 12&&(items d).all λx=>bT x 5
def rowsOf(d:PyData):UV:=(items d).map λx=>(items x).map intOf
theorem G7:∀{ds:Qa3},(∀x∈ds,bA x=true)->ds=(ds.map intOf).map PyData.int|[],_=>rfl|d::ds,h=>by rw[zAk,zAk,<-G7 λx hx=>h x (Zai _ hx)];have:=h d Zan;cases d with|int i=>rfl;|_=>cases this
theorem jf{n:Nat}(h:bT x n=true):x=jn ((items x).map intOf)/\((items x).map intOf).length=n:=by obtain⟨h1,h2⟩:=nQ h;unfold bZ at h1;rw[zAc,zAc,z17,z17]at h1;obtain⟨ht,de,fF⟩:=h1;cases x with|tuple ds=>have de:(n:Int)<=ds.length:=de;have fF:(ds.length:Int)<=n:=fF;refine⟨?_,by show(ds.map intOf).length=n;rw[zA1];lia⟩;exact congrArg PyData.tuple (G7 h2);|_=>cases ht
theorem v5{ds:Qa3}{n:Nat}(h:∀x∈ds,bT x n=true):ds=(ds.map λx=>(items x).map intOf).map jn:=by induction ds with|nil=>rfl;|cons d ds ih=>rw[zAk,zAk,<-ih λx hx=>h x (Zai _ hx),<-(jf (h d Zan)).1]
theorem iY{f m:Int}(h:bZ d f m=true):∃ds,d=.tuple ds/\f<=ds.length/\(ds.length:Int)<=m:=by unfold bZ at h;rw[zAc,zAc,z17,z17]at h;cases d with|tuple ds=>exact⟨ds,rfl,h.2⟩;|_=>cases h.1
theorem tY(r:WF)(i:Nat)(h:i<r.length):at_ (jn r) i=fl r i:=by show intOf ((r.map PyData.int).getD i .none)=r.getD i 0;rw[zA7,zA7,zAb,zA0 h];rfl
theorem kZ(h:fW d=true):d=cN (rowsOf d)/\(rowsOf d).length<=10/\∀r∈rowsOf d,okP r:=by
 unfold fW at h;rw[zAc]at h;obtain⟨ds,rfl,_,hl⟩:=iY h.1;have h2:∀x∈ds,jl x=true:=Zae.mp h.2;have h3:∀x∈ds,bT x 6=true:=λx hx=>by have:=h2 x hx;unfold jl at this;rw[zAc]at this;exact this.1
 refine⟨congrArg PyData.tuple (v5 (n:=6) h3),by show(ds.map _).length<=10;rw[zA1];lia,λr hr=>?_⟩;obtain⟨x,hx,rfl⟩:=zA5.mp hr;have hx:x∈ds:=hx;obtain⟨e,E3⟩:=jf (n:=6) (h3 x hx);have:=h2 x hx;unfold jl at this;rw[zAc]at this;have p:=this.2;rw[e]at p;rw[tY _ 0 z00,tY _ 1 z00,tY _ 2 z00,tY _ 3 z00,tY _ 4 z00,tY _ 5 z00]at p;unfold qy at p;simp only[Bool.and_eq_true,z17]at p;obtain⟨⟨a1,a2⟩,⟨b1,b2⟩,⟨c1,c2,c3⟩,⟨d1,d2⟩,e1,e2⟩:=p;exact⟨E3,⟨a1,a2⟩,⟨b1,b2⟩,⟨c1,c2,c3⟩,⟨d1,d2⟩,e1,e2⟩
theorem lq(h:fX d=true):d=cN (rowsOf d)/\(rowsOf d).length<=12/\∀r∈rowsOf d,r.length=5:=by unfold fX at h;rw[zAc]at h;obtain⟨ds,rfl,_,hl⟩:=iY h.1;have h3:∀x∈ds,bT x 5=true:=Zae.mp h.2;refine⟨congrArg PyData.tuple (v5 (n:=5) h3),by show(ds.map _).length<=12;rw[zA1];lia,λr hr=>?_⟩;obtain⟨x,hx,rfl⟩:=zA5.mp hr;exact(jf (n:=5) (h3 x hx)).2
structure RowsAt(H:Hp)(a:Addr)(xs:List V)(rs:UV):Prop where
 e:H a=some (.tup xs)l:xs.length=rs.length
 g:∀(i:Nat)(r:WF),rs[i]?=some r->∃t,xs[i]?=some (V.ref t)/\H t=some (.tup (r.map V.int))
theorem RowsAt.keep(h:RowsAt H a xs rs)(k:∀b l,H b=some (.tup l)->H' b=some (.tup l)):RowsAt H' a xs rs:=⟨k _ _ h.e,h.l,λi r e=>by obtain⟨t,e1,e2⟩:=h.g i r e;exact⟨t,e1,k _ _ e2⟩⟩
theorem RowsAt.same(h:RowsAt H a xs rs)(s:Same H H'):RowsAt H' a xs rs:=h.keep λ_ _ e=>s _ _ e
theorem xu:∀{r:WF}{xs:List V},IsThs S H xs (r.map .int)->xs=r.map V.int|[],_,.nil=>rfl|i::r,_,.cons h t=>by cases h;rw[xu (r:=r) t];rfl
theorem Mq(h:IsTh S H v (jn r)):∃t,v=V.ref t/\H t=some (.tup (r.map V.int)):=by generalize hd:jn r=d at h;cases h with|@tup a xs ds e t=>injection hd with hd;subst hd;rw[xu t]at e;exact⟨a,rfl,e⟩;|_=>cases hd
theorem ik(h:IsTh S H v (cN rs)):∃a xs,v=.ref a/\RowsAt H a xs rs:=by generalize hd:cN rs=d at h;cases h with|@tup a xs ds e t=>injection hd with hd;subst hd;refine⟨a,xs,rfl,e,by rw[t.length,zA1],λi r hr=>?_⟩;have hi:i<rs.length:=(zAa.mp hr).1;have hx:xs[i]?=some (xs[i]'(by rw[t.length,zA1];exact hi)):=zA0 _;obtain⟨d,h1,h2⟩:=t.get hx;rw[zAb,hr]at h1;injection h1 with h1;subst h1;obtain⟨t',e1,e2⟩:=Mq h2;exact⟨t',by rw[hx,e1],e2⟩;|_=>cases hd
theorem RowsAt.th:∀{rs:UV}{xs:List V},RowsAt H a xs rs->IsTh (λ_=>False) H (.ref a) (cN rs):=by
 intro rs xs h;refine .tup h.e ?_;have gen:∀(rs:UV)(xs:List V),xs.length=rs.length->(∀(i:Nat)(r:WF),rs[i]?=some r->∃t,xs[i]?=some (V.ref t)/\H t=some (.tup (r.map V.int)))->IsThs (λ_=>False) H xs (rs.map jn):=by intro rs;induction rs with|nil=>intro xs hl _;have:xs=[]:=List.length_eq_zero_iff.mp hl;subst this;exact .nil;|cons r rs ih=>intro xs hl hg;cases xs with|nil=>simp at hl;|cons x xs=>
    obtain⟨t,e1,e2⟩:=hg 0 r rfl;have e1:x=.ref t:=by simpa using e1
    subst e1;exact .cons (.tup e2 (IsThs.ints r)) (ih xs (by simpa using hl) λi r' e=>hg (i+1) r' (by simpa using e))
 exact gen rs xs h.l h.g
def lu(L:WF)(i:Int)(v:Int):WF:=L.set i.toNat (L.getD i.toNat 0+v)
def hstep(n y:Int)(L:WF)(s:WF):WF:=if fl s 0=n/\fl s 4<=y then lu (lu L (fl s 1) (-(fl s 3))) (fl s 2) (fl s 3)else L
def base0(p:WF):WF:=(List.replicate 8 0).set (fl p 0).toNat (fl p 4)
def cz(p:WF)(ss:UV)(n y:Int):WF:=if fl p 2<=y/\y<=fl p 3 then ss.foldl (hstep n y) (base0 p)else List.replicate 8 0
def qK(ps:UV)(s:WF):WF:=ps.getD (fl s 0).toNat []
def rT(ps:UV)(s:WF):Bool:=(decide (0<=fl s 0)&&decide (fl s 0<ps.length))&&((decide (0<=fl s 1)&&decide (fl s 1<8))&&((decide (0<=fl s 2)&&decide (fl s 2<8))&&((!decide (fl s 1=fl s 2))&&((decide (1<=fl s 3)&&decide (fl s 3<=99))&&(decide (fl (qK ps s) 2<=fl s 4)&&decide (fl s 4<=fl (qK ps s) 3))))))
def years(a b:Int):WF:=(List.range (b+1-a).toNat).map λ(i:Nat)=>a+i
def eV(ps ss:UV)(s:WF):Bool:=rT ps s&&(years (fl s 4) (fl (qK ps s) 3)).all λy=>decide (fl s 3<=(cz (qK ps s) ss (fl s 0) y).getD (fl s 1).toNat 0)
def un(ps ss:UV):Option Nat:=(List.range ss.length).find? λi=>!eV ps (ss.take i) (ss.getD i [])
theorem jE(L:WF)(i v:Int):(lu L i v).length=L.length:=by unfold lu;rw[Zav]
theorem Df(n y:Int)(L s:WF):(hstep n y L s).length=L.length:=by
 unfold hstep;split;.rw[jE,jE]
 .rfl
theorem gK(p:WF)(ss:UV)(n y:Int):(cz p ss n y).length=8:=by
 unfold cz;split
 .have:∀(ss:UV)(L:WF),L.length=8->(ss.foldl (hstep n y) L).length=8:=by intro ss;induction ss with|nil=>exact λL h=>h;|cons s ss ih=>exact λL h=>ih _ (by rw[Df];exact h)
  exact this ss _ (by unfold base0;rw[Zav,Za9])
 .rw[Za9]
theorem gM:Ny X (λx y H Q=>∃p xs i v,x=.ref p/\y=.int i/\SqL X.K H p xs/\0<=i/\xs[i.toNat]?=some v/\Q v H):=by intro z06 s σ H x y v u Q I rx ry h;obtain⟨p,xs,i,z,rfl,rfl,hq,h0,he,q⟩:=h;cases rx;obtain⟨t,rfl⟩:=ry;obtain⟨z08,r,pl,hz⟩:=I.list hq;obtain⟨w,ew,fg⟩:=r.get he;have hn:=nu;have hl:=r.length;have hi:=(zAa.mp he).1;exact PySem.wpAny_getItem_list pl.isList h0 z00 (by simpa using ew) ⟨z,H,I,fg,q⟩
theorem fM(h:p.length=6):p=[fl p 0,fl p 1,fl p 2,fl p 3,fl p 4,fl p 5]:=by obtain⟨a,b,c,d,e,f,rfl⟩:=Ml h;rfl
theorem jF(h:p.length=5):p=[fl p 0,fl p 1,fl p 2,fl p 3,fl p 4]:=by obtain⟨a,b,c,d,e,rfl⟩:=OJ h;rfl
theorem mQ(L:WF)(i:Nat)(v:Int):(L.map V.int).set i (.int v)=(L.set i v).map V.int:=by rw[List.map_set]
theorem il{L:WF}(h:i<L.length):(L.map V.int)[i]?=some (.int (L.getD i 0)):=by rw[zAb,zA0 h,zA7,zA0 h];rfl
theorem tZ{n:Nat}{i:Int}(h0:0<=i)(h1:i<n):ixN n i=some i.toNat:=by unfold ixN;rw[zAz h0,zAz h1]
def okS(s:WF):Prop:=s.length=5/\(0<=fl s 1/\fl s 1<8)/\(0<=fl s 2/\fl s 2<8)
inductive SpHeldI(vs:List V)(H:Hp)(Q:VK):Prop|mk:∀ap xp ps ai xs ss n y,(vs=[.ref ap,.ref ai,.int n,.int y])->(RowsAt H ap xp ps)->(RowsAt H ai xs ss)->(0<=n)->(n<ps.length)->(okP (ps.getD n.toNat []))->(ss.length<=12)->((∀s∈ss,okS s))->(∀l H',Same H H'->H' l=some (.lst ((cz (ps.getD n.toNat []) ss n y).map V.int))->Q (.ref l) H')->SpHeldI  vs H Q
def yP:Sp:=λvs H Q _=>SpHeldI  vs H Q
structure MS(mg:Qa0):Prop where sales:∃t,mg "MOST_SALES"=some (.int 12 t)
theorem Pa:FnScope ["thing"] ["thing"] (aC (top 38)):=fQS
theorem v6(F:Fun K "are_sales" "are_sales" (top 38) f fd)(T:Mg mg)(N:MS mg)(c1:Cal P w K mg base 2 "are_wholes" ["thing","many"] (FT bT))(c2:Cal P w K mg base 1 "is_tuple_of" ["thing","fewest","most"] (jC bZ)):FnOk P w K mg base CX0 3 f fd ["thing"] (spT fX):=by refine F.oq Pa λaf A outer s H vs Q E hr h=>?_;obtain⟨S,v,d,rfl,th,hz,q⟩:=h;obtain⟨t3,e3⟩:=N.sales;refine⟨_,aF (aN (cC (aJ c2 hr (aq (pv 0) (aq aB (aq (bM (v:=.int 12) rfl e3 ⟨_,rfl⟩) aj)))) (dW (aM (dh rfl) rfl T.all boot_all (aq (bN ["part"] [none] rfl (fJ (pv 0)) (λC fp z06 s₂ H₂=>⟨bC (i:=0) (nd1 _) rfl (Or.inl rfl),bB,aJ c1 hr (aq (pv 0) (aq aB aj))⟩) (λC=>trivial) ⟨rfl,rfl,rfl,rfl⟩) aj))))),?_⟩;refine⟨_,rfl,S,v,d,0,12,rfl,th,hz,λH1 s1=>⟨_,rfl,?_⟩⟩;have fA:=th.same s1;have fin:=λH'(s:Same H H')=>q H' s;unfold fX at fin;cases e:bZ d 0 12 with|false=>rw[e]at fin;exact bx (fin _ s1);|true=>rw[e]at fin;refine bw ?_;cases fA with|@tup a xs ds ea r=>exact cD (λx=>bT x 5) rfl ea r (dq r hz) (λv d H2 Q2 hm s2 t2 q2=>⟨_,rfl,S,v,d,5,rfl,t2,fQ hm hz,q2⟩) λH2 s2=>fin _ (s1.trans s2);|_=>cases e
theorem sc23s:FnScope ["promises","sales","number","year","holder","sort","first","last","sacks","price","held","promise","seller","buyer","sold","since"] ["promises","sales","number","year"] (aC (top 39)):=fQS
theorem Jv(F:Fun K "held_in" "held_in" (top 39) f fd)(N:Nums mg):FnOk P w K mg base CX0 1 f fd ["promises","sales","number","year"] yP:=by
 refine F.oq sc23s λaf A outer s H vs Q E hr h=>?_;obtain⟨ap,xp,ps,ai,xs,ss,n,y,rfl,rp,rs,n0,n1,okp,hl,cx,q⟩:=h;obtain⟨t1,e1⟩:=N.holders;refine⟨_,aA (cO (pX bQ (pv 0) (pv 2)) (bU rfl (az (pgn 4 sc23s.nd) (az (pgn 5 sc23s.nd) (az (pgn 6 sc23s.nd) (az (pgn 7 sc23s.nd) (az (pgn 8 sc23s.nd) (az (pgn 9 sc23s.nd) aX)))))))) (aA (pss 10 sc23s.nd (aV Lh (cY (aq aB aj)) (bM (v:=.int 8) rfl e1 ⟨_,rfl⟩))) (aA (bV (bH (gm bW bW (pv 6) (pv 3) (pv 7))) (aF (aN (pv 10))) bh) (aA (cO (pv 8) (um (pv 10) (pv 4) set_list)) (aA (cP zB8 rfl (fJ (pv 1)) (bU rfl (az (pgn 11 sc23s.nd) (az (pgn 12 sc23s.nd) (az (pgn 13 sc23s.nd) (az (pgn 14 sc23s.nd) (az (pgn 15 sc23s.nd) aX)))))) (aF (bV (PW.pt (yf (bz iJ (pv 11) (pv 2) (bu _)) (ul (bz bW (pv 15) (pv 3) (bu _))))) (aA (lF (pv 10) (pv 12) gM (pv 14) DK set_list) (aF (lF (pv 10) (pv 13) gM (pv 14) uo set_list))) bh))) (aF (aN (pv 10))))))),?_⟩;obtain⟨p,hp⟩:∃p,ps[n.toNat]?=some p:=⟨_,zA0 z00⟩;have ep:ps.getD n.toNat []=p:=by rw[zA7,hp];rfl
 rw[ep]at okp q;obtain⟨t,ex,et⟩:=rp.g _ _ hp;have p6:=fM okp.1;obtain⟨l6,⟨a1,a2⟩,b,⟨c1,c2,c3⟩,⟨d1,d2⟩,ee⟩:=id okp;have dv:atI xp n=some (.ref t):=by have:=d7 ex;rw[show((n.toNat:Nat):Int)=n by lia]at this;exact this
 rw[p6]at et;refine aG ?_;refine⟨_,rfl,_,rfl,ap,xp,n,.ref t,rfl,rfl,SqT.of rp.e,dv,?_⟩;refine⟨t,_,rfl,SqT.of et,rfl,_,_,rfl,_,_,rfl,_,_,rfl,_,_,rfl,_,_,rfl,_,_,rfl,rfl,?_⟩;dsimp only;refine aG (aU ?_);refine⟨zL,λl0 rh=>⟨l0,8,_,rfl,rfl,ao,by decide,by decide,zL,λl1 de=>?_⟩⟩;have s1:Same H (upd (upd H l0 (.lst [V.int 0])) l1 (.lst (List.replicate (8:Int).toNat [V.int 0]).flatten)):=(Same.upd rh).updR de;have el1:upd (upd H l0 (.lst [V.int 0])) l1 (.lst (List.replicate (8:Int).toNat [V.int 0]).flatten) l1=some (.lst ((List.replicate 8 (0:Int)).map V.int)):=ao;have wc:H l1=none:=(Same.upd rh).free de;generalize upd (upd H l0 (.lst [V.int 0])) l1 (.lst (List.replicate (8:Int).toNat [V.int 0]).flatten)=H1 at s1 el1⊢;refine aK ?_;dsimp only;refine aG ?_;refine cg (p:=λi j=>decide (i<=j)) (q:=λi j=>decide (i<=j)) (i:=fl p 2) (j:=y) (k:=fl p 3) (dZ rfl) (dZ rfl) (dZ rfl) _ ⟨_,rfl,?_⟩;by_cases kC:fl p 2<=y/\y<=fl p 3
 .rw[zAw kC.1,zAw kC.2];refine bx (cB ?_);dsimp only;refine aG ?_;refine⟨_,rfl,_,rfl,_,rfl,l1,_,fl p 0,(fl p 0).toNat,rfl,rfl,el1,tZ a1 (by show fl p 0<8;exact a2),?_⟩;rw[mQ];dsimp only;refine aG ?_;have Ux:ai≠l1:=aH rs.e wc;refine⟨_,rfl,ai,rfl,⟨xs,SqT.of (by rw[aD Ux];exact s1 _ _ rs.e)⟩,?_⟩;have IX:∀{Hc:Hp}{o:HO},Same H Hc->Same H (upd Hc l1 o):=λ{Hc o}sm b u e=>by rw[aD (aH e wc)];exact sm _ _ e
  refine Ih (xs:=xs) (λi σ Hc=>∃rj rl rq rL rS,σ=[some (.ref ap),some (.ref ai),some (.int n),some (.int y),some (.int (fl p 0)),some (.int (fl p 1)),some (.int (fl p 2)),some (.int (fl p 3)),some (.int (fl p 4)),some (.int (fl p 5)),some (.ref l1),rj,rl,rq,rL,rS]/\Same H Hc/\Hc l1=some (.lst (((ss.take i).foldl (hstep n y) (base0 p)).map V.int))) ?_ ?_ ?_ ?_;.exact⟨none,none,none,none,none,rfl,IX s1,ao⟩
  .rintro i σ Hc hi⟨rj,rl,rq,rL,rS,rfl,sm,el⟩;exact SqT.of (sm _ _ rs.e)
  .rintro i x σ Hc hx⟨rj,rl,rq,rL,rS,rfl,sm,el⟩;have hi:i<ss.length:=by have:=(zAa.mp hx).1;rw[rs.l]at this;exact this
   obtain⟨tr,gx,eB⟩:=rs.g i ss[i] (zA0 hi);have:x=.ref tr:=by rw[hx]at gx;exact zAl gx
   subst this;obtain⟨o1,⟨o2,o3⟩,o4,o5⟩:=cx ss[i] (zAh hi);have s5:=jF o1;have hZ:ss.take (i+1)=ss.take i++[ss[i]]:=by rw[zAj,zA0 hi];rfl
   have CC:(ss.take (i+1)).foldl (hstep n y) (base0 p)=hstep n y ((ss.take i).foldl (hstep n y) (base0 p)) ss[i]:=by rw[hZ,List.foldl_append];rfl
   rw[CC];generalize hL:(ss.take i).foldl (hstep n y) (base0 p)=L at el⊢;have lL:L.length=8:=by have:=gK p (ss.take i) n y;unfold cz at this;rw[zAz kC,hL]at this;exact this
   generalize ss[i]=r at eB s5 o2 o3 o4 o5⊢;rw[s5]at eB;refine⟨tr,_,rfl,SqT.of (sm _ _ eB),rfl,_,_,rfl,_,_,rfl,_,_,rfl,_,_,rfl,_,_,rfl,rfl,?_⟩;refine⟨_,rfl,_,rfl,rfl,_,rfl,?_⟩;by_cases hn:fl r 0=n
   .rw[zAw (show V.int (fl r 0)=V.int n by rw[hn])];refine bw ?_;refine⟨_,rfl,_,rfl,_,_,rfl,rfl,_,rfl,?_⟩;by_cases hy:fl r 4<=y
    .rw[zAw hy];refine bw ?_;have e1:hstep n y L r=lu (lu L (fl r 1) (-(fl r 3))) (fl r 2) (fl r 3):=zAz ⟨hn,hy⟩;rw[e1];refine aG ?_;refine⟨_,rfl,_,rfl,l1,_,fl r 1,_,rfl,rfl,SqL.of el,o2,il z00,_,rfl,_,_,rfl,rfl,l1,_,fl r 1,(fl r 1).toNat,rfl,rfl,el,tZ o2 (by rw[zA1];lia),?_⟩;rw[mQ];have e2:L.set (fl r 1).toNat (L.getD (fl r 1).toNat 0-fl r 3)=lu L (fl r 1) (-(fl r 3)):=by unfold lu;rw[Int.sub_eq_add_neg]
     rw[e2];generalize IJ:lu L (fl r 1) (-(fl r 3))=L1;have Z4:L1.length=8:=by rw[<-IJ,jE];exact lL
     refine⟨_,rfl,_,rfl,l1,_,fl r 2,_,rfl,rfl,SqL.of ao,o4,il z00,_,rfl,_,_,rfl,rfl,l1,_,fl r 2,(fl r 2).toNat,rfl,rfl,ao,tZ o4 (by rw[zA1];lia),?_⟩;rw[mQ];exact⟨_,_,_,_,_,rfl,IX (IX sm),ao⟩
    .rw[zB6 hy];refine bx ?_;have e1:hstep n y L r=L:=zAy λz=>hy z.2;rw[e1];exact⟨_,_,_,_,_,rfl,sm,el⟩
   .rw[zB6 (λz:V.int (fl r 0)=V.int n=>hn (by injection z))];refine bx (bx ?_);have e1:hstep n y L r=L:=zAy λz=>hn z.1;rw[e1];exact⟨_,_,_,_,_,rfl,sm,el⟩
  .rintro σ Hc⟨rj,rl,rq,rL,rS,rfl,sm,el⟩;rw[rs.l,zAm]at el;refine⟨_,rfl,q _ _ sm ?_⟩;unfold cz;rw[zAz kC];exact el
 .have hb:(decide (fl p 2<=y)&&decide (y<=fl p 3))=false:=by cases e:(decide (fl p 2<=y)&&decide (y<=fl p 3))with|false=>rfl;|true=>rw[zAc,z17,z17]at e;exact absurd e kC
  rw[hb];refine bw ⟨_,rfl,q _ _ s1 ?_⟩;unfold cz;rw[zAy kC];exact el1
theorem xx{Fin:List V->Hp->Prop}(Pv:List V->Hp->Prop)(h0:Pv [] H0)(hz:n<sizeLine)(step:∀i ys H Q,i<n->ys.length=i->Pv ys H->(∀y H',Pv (ys++[y]) H'->Q y H')->te (eC.set j (some (.int (lo+i)))) H Q)(fin:∀ys H,ys.length=n->Pv ys H->Fin ys H):lK (Itr lo n) (bR j) vP te Fin eC H0:=by
 refine⟨λi m ys σ H=>m=n-i/\i<=n/\ys.length=i/\(∀o,σ.set j o=eC.set j o)/\Pv ys H,⟨_,rfl,zAp _,rfl,λ_=>rfl,h0⟩,?_⟩;rintro i m ys σ H⟨rfl,hi,hy,gE,p⟩;refine⟨z00,?_⟩;by_cases aI:i<n;.refine .inr ⟨aI,λx H' y=>?_⟩;obtain⟨e,e2⟩:=y;subst e;subst e2;show te (σ.set j (some (.int (lo+i)))) H' _;rw[gE];exact step i ys H' _ aI hy p λy H2 p2=>⟨n-(i+1),z00,rfl,aI,by rw[zA2,hy];rfl,λo=>by rw[List.set_set],p2⟩
 .have e:i=n:=z00;subst e;exact .inl ⟨zA3 _,fin ys H hy p⟩
theorem Pb(a:Ev σ H ta (.int i))(b:Ev σ H tb (.int j)):Ev σ H (tOp rNe ta tb) (.bl (!decide (i=j))):=λQ q=>a _ (b _ ⟨rfl,by have ed:decide (V.int i=V.int j)=decide (i=j):=decide_eq_decide.mpr ⟨λz=>by injection z,λz=>by rw[z]⟩;rw[ed];exact q⟩)
theorem nW(a b:Int):(years a b).length=(b+1-a).toNat:=by unfold years;rw[zA1,Zah]
theorem nY{i:Nat}(h:i<(b+1-a).toNat):(years a b)[i]?=some (a+i):=by unfold years;rw[zAb,Zat h];rfl
theorem u5{α β:Type}{l:List α}{f:α->β}{ys:List β}{x:α}(ey:ys=(l.take ys.length).map f)(hx:l[ys.length]?=some x):ys++[f x]=(l.take (ys++[f x]).length).map f:=by rw[zA2,List.length_singleton,zAj,hx,zA4,<-ey];rfl
inductive SpBetwI(vs:List V)(H:Hp)(Q:VK):Prop|mk:∀ap xp ps t s,(vs=[.ref ap,.ref t])->(RowsAt H ap xp ps)->((∀r∈ps,okP r))->(H t=some (.tup (s.map V.int)))->(s.length=5)->(Q (.bl (rT ps s)) H)->SpBetwI  vs H Q
def G8:Sp:=λvs H Q _=>SpBetwI  vs H Q
inductive SpHoldsI(vs:List V)(H:Hp)(Q:VK):Prop|mk:∀ap xp ps ai xs ss t s,(vs=[.ref ap,.ref ai,.ref t])->(RowsAt H ap xp ps)->((∀r∈ps,okP r))->(RowsAt H ai xs ss)->(ss.length<=12)->((∀s∈ss,okS s))->(H t=some (.tup (s.map V.int)))->(s.length=5)->(∀H',Same H H'->Q (.bl (eV ps ss s)) H')->SpHoldsI  vs H Q
def Ax:Sp:=λvs H Q _=>SpHoldsI  vs H Q
def unV:Option Nat->V|none=>.non|some i=>.int i
inductive SpFirstI(vs:List V)(H:Hp)(Q:VK):Prop|mk:∀S v d S' u e,(vs=[v,u])->(IsTh S H v d)->(IsTh S' H u e)->(fW d=true)->(fX e=true)->(sz d<=4000)->(sz e<=4000)->(∀H',Same H H'->Q (unV (un (rowsOf d) (rowsOf e))) H')->SpFirstI  vs H Q
def Ay:Sp:=λvs H Q _=>SpFirstI  vs H Q
theorem gJ{ps:UV}{n:Int}(h:∀r∈ps,okP r)(h0:0<=n)(h1:n<ps.length):∃p,ps[n.toNat]?=some p/\ps.getD n.toNat []=p/\okP p:=by have hn:n.toNat<ps.length:=z00;refine⟨ps[n.toNat],zA0 hn,?_,h _ (zAh hn)⟩;rw[zA7,zA0 hn];rfl
theorem ir{n:Int}{r:WF}(h:RowsAt H a xs rs)(h0:0<=n)(e:rs[n.toNat]?=some r):∃t,atI xs n=some (.ref t)/\H t=some (.tup (r.map V.int)):=by obtain⟨t,e1,e2⟩:=h.g _ _ e;refine⟨t,?_,e2⟩;have:=d7 e1;rw[show((n.toNat:Nat):Int)=n by lia]at this;exact this
theorem sc24s:FnScope ["promises","sale","number","seller","buyer","sacks","year","holder","sort","first","last","due","price"] ["promises","sale"] (aC (top 40)):=fQS
theorem Jw(F:Fun K "is_sale_between" "is_sale_between" (top 40) f fd)(T:Mg mg)(N:Nums mg):FnOk P w K mg base CX0 1 f fd ["promises","sale"] G8:=by refine F.oq sc24s λaf A outer s H vs Q E hr h=>?_;obtain⟨ap,xp,ps,t,r,rfl,rp,okp,et,h5,q⟩:=h;obtain⟨t1,e1⟩:=N.holders;obtain⟨t4,e4⟩:=N.sacks;refine⟨_,aA (cO (pv 1) (bU rfl (az (pgn 2 sc24s.nd) (az (pgn 3 sc24s.nd) (az (pgn 4 sc24s.nd) (az (pgn 5 sc24s.nd) (az (pgn 6 sc24s.nd) aX))))))) (aA (bV (bH (gm bW pO aB (pv 2) (aM aW rfl T.len PySem.boot_len (aq (pv 0) aj)))) (aF (aN gj)) bh) (aA (cO (pX bQ (pv 0) (pv 2)) (bU rfl (az (pgn 7 sc24s.nd) (az (pgn 8 sc24s.nd) (az (pgn 9 sc24s.nd) (az (pgn 10 sc24s.nd) (az (pgn 11 sc24s.nd) (az (pgn 12 sc24s.nd) aX)))))))) (aF (aN (cC (dC bW pO aB (pv 3) (bM (v:=.int 8) rfl e1 ⟨_,rfl⟩)) (cC (dC bW pO aB (pv 4) (bM (v:=.int 8) rfl e1 ⟨_,rfl⟩)) (cC (fY sI (pv 3) (pv 4) (bu _)) (cC (dC bW bW aB (pv 5) (bM (v:=.int 99) rfl e4 ⟨_,rfl⟩)) (dW (dC bW bW (pv 9) (pv 6) (pv 10))))))))))),?_⟩;rw[jF h5]at et;refine aG ?_;refine⟨_,rfl,t,_,rfl,SqT.of et,rfl,_,_,rfl,_,_,rfl,_,_,rfl,_,_,rfl,_,_,rfl,rfl,?_⟩;dsimp only;refine aG ?_;refine cg (p:=λi j=>decide (i<=j)) (q:=λi j=>decide (i<j)) (i:=0) (j:=fl r 0) (k:=(xp.length:Int)) fD (dZ rfl) (λQ h=>⟨_,rfl,ap,xp,rfl,.inr (SqT.of rp.e),h⟩) _ ⟨_,rfl,?_⟩;have fin:=q;unfold rT at fin;rw[rp.l];cases e:(decide (0<=fl r 0)&&decide (fl r 0<ps.length))with|false=>rw[e]at fin;exact bw fin;|true=>rw[e]at fin;rw[zAc,z17,z17]at e;obtain⟨p,hp,ep,op⟩:=gJ okp e.1 e.2;obtain⟨tp,dv,fI⟩:=ir rp e.1 hp;rw[fM op.1]at fI;refine bx (cB ?_);dsimp only;refine aG ?_;refine⟨_,rfl,_,rfl,ap,xp,_,.ref tp,rfl,rfl,SqT.of rp.e,dv,?_⟩;refine⟨tp,_,rfl,SqT.of fI,rfl,_,_,rfl,_,_,rfl,_,_,rfl,_,_,rfl,_,_,rfl,_,_,rfl,rfl,?_⟩;have we:qK ps r=p:=ep;rw[we]at fin;exact jc (cg fD (dZ rfl) fD) (λ_=>jc (cg fD (dZ rfl) fD) λ_=>jc (Pb (dZ rfl) (dZ rfl)) λ_=>jc (cg fD (dZ rfl) fD) λ_=>cg (dZ rfl) (dZ rfl) (dZ rfl)) _ fin
theorem sc25s:FnScope ["promises","ahead","sale","number","seller","buyer","sacks","year","last"] ["promises","ahead","sale"] (aC (top 41)):=fQS
theorem QJ:(["at","promises","ahead","number","seller","sacks"]:Qa7).Nodup:=by decide+kernel
theorem G9(F:Fun K "sale_holds" "sale_holds" (top 41) f fd)(T:Mg mg)(Tr:mg "range"=none)(c1:Cal P w K mg base 1 "is_sale_between" ["promises","sale"] G8)(c2:Cal P w K mg base 1 "held_in" ["promises","sales","number","year"] yP):FnOk P w K mg base CX0 2 f fd ["promises","ahead","sale"] Ax:=by refine F.oq sc25s λaf A outer s H vs Q E hr h=>?_;obtain⟨ap,xp,ps,ai,xs,ss,t,r,rfl,rp,okp,rs,hl,cx,et,h5,q⟩:=h;refine⟨_,aA (bV (bH (bY (aJ c1 hr (aq (pv 0) (aq (pv 2) aj))))) (aF (aN gj)) bh) (aA (cO (pv 2) (bU rfl (az (bC (i:=3) sc25s.nd rfl (Or.inr rfl)) (az (bC (i:=4) sc25s.nd rfl (Or.inr rfl)) (az (pgn 5 sc25s.nd) (az (bC (i:=6) sc25s.nd rfl (Or.inr rfl)) (az (pgn 7 sc25s.nd) aX))))))) (aA (pss 8 sc25s.nd (pX bQ (pX bQ (pv 0) (pv 3)) aB)) (aF (aN (aM (dh rfl) rfl T.all boot_all (aq (bN ["at","promises","ahead","number","seller","sacks"] [none,some 0,some 1,some 3,some 4,some 6] rfl (jM rfl Tr (aq (pv 7) (aq (aV bI (pv 8) aB) aj))) (λC fp z06 s₂ H₂=>⟨pgn 0 QJ,bB,fY DQ (pX (gU (K:=K) rfl) (aJ c2 hr (aq (pv 1) (aq (pv 2) (aq (pv 3) (aq (pv 0) aj))))) (pv 4)) (pv 5) (bu _)⟩) (λC=>cI (cI (cI (cI (cI trivial))))) ⟨rfl,rfl,rfl,rfl⟩) aj)))))),?_⟩;have fin:=q;unfold eV at fin;refine aG ?_;refine⟨_,rfl,_,rfl,ap,xp,ps,t,r,rfl,rp,okp,et,h5,_,rfl,?_⟩;cases e:rT ps r with|false=>rw[e]at fin;exact bw (fin _ (Same.refl _));|true=>
  rw[e]at fin;refine bx (cB ?_);dsimp only;refine aG ?_;unfold rT at e;simp only[Bool.and_eq_true,z17]at e;obtain⟨⟨n0,n1⟩,⟨b0,b1⟩,_,_,⟨k0,k1⟩,y0,y1⟩:=e;obtain⟨p,hp,ep,op⟩:=gJ okp n0 n1;have we:qK ps r=p:=ep;rw[we]at fin y0 y1;obtain⟨tp,dv,fI⟩:=ir rp n0 hp;rw[jF h5]at et;rw[fM op.1]at fI;obtain⟨_,_,_,⟨g1,g2,g3⟩,_⟩:=id op;refine⟨_,rfl,t,_,rfl,SqT.of et,rfl,_,_,rfl,_,_,rfl,_,_,rfl,_,_,rfl,_,_,rfl,rfl,?_⟩;dsimp only;refine aG (aU ?_);refine⟨_,rfl,_,rfl,ap,xp,_,.ref tp,rfl,rfl,SqT.of rp.e,dv,tp,_,3,.int (fl p 3),rfl,rfl,SqT.of fI,rfl,?_⟩;refine aK ?_;dsimp only;refine⟨_,rfl,_,rfl,_,_,rfl,rfl,fl r 4,fl p 3+1,rfl,⟨z00,z00,z00,z00⟩,?_⟩;refine xx (λys Hc=>Same H Hc/\ys=((years (fl r 4) (fl p 3)).take ys.length).map λy=>V.bl (decide (fl r 3<=(cz p ss (fl r 0) y).getD (fl r 1).toNat 0))) ⟨Same.refl _,rfl⟩ z05 ?_ ?_
  .rintro i ys Hc Qc hi hy⟨sc,ey⟩qc;refine⟨_,rfl,_,rfl,_,rfl,_,rfl,ap,xp,ps,ai,xs,ss,fl r 0,fl r 4+i,rfl,rp.same sc,rs.same sc,n0,n1,by rw[ep];exact op,hl,cx,λl H' s' el=>?_⟩;rw[ep]at el;refine⟨_,rfl,l,_,fl r 1,.int ((cz p ss (fl r 0) (fl r 4+i)).getD (fl r 1).toNat 0),rfl,rfl,SqL.of el,?_,_,rfl,_,_,rfl,rfl,qc _ _ ⟨sc.trans s',?_⟩⟩;.unfold atI;rw[tZ b0 (by rw[zA1,gK];lia)];exact il (by rw[gK];lia)
   .have hx:(years (fl r 4) (fl p 3))[ys.length]?=some (fl r 4+(i:Int)):=by rw[hy];exact nY hi
    exact u5 ey hx
  .rintro ys Hc hy⟨sc,ey⟩D hD;rw[Zal (by rw[nW,hy];exact zA3 _)]at ey;refine⟨D,(years (fl r 4) (fl p 3)).map λy=>decide (fl r 3<=(cz p ss (fl r 0) y).getD (fl r 1).toNat 0),rfl,SqL.of (by rw[zAr];rw[ey];exact ao),?_⟩;rw[List.all_map];exact fin _ (sc.updR hD)
theorem iQ{xs:List V}(h:i<=xs.length):lG xs none (some (i:Int))=xs.take i:=by unfold lG;rw[HT.sIx_none,HT.sIx_nat,List.drop_zero,Nat.min_eq_left h,Nat.sub_zero]
theorem RowsAt.cut(h:RowsAt H a xs rs)(i:Nat)(hp:H p=none):RowsAt (upd H p (.tup (xs.take i))) p (xs.take i) (rs.take i):=by
 refine⟨ao,by rw[zAd,zAd,h.l],λj r e=>?_⟩;have hj:j<i:=by
  rw[List.getElem?_take]at e;split at e;.assumption
  .cases e
 rw[List.getElem?_take_of_lt hj]at e;obtain⟨t,e1,e2⟩:=h.g j r e;exact⟨t,by rw[List.getElem?_take_of_lt hj];exact e1,Same.upd hp _ _ e2⟩
theorem v7(h:∀j,j<i->eV ps (ss.take j) (ss.getD j [])=true)(hi:i<ss.length)(hn:eV ps (ss.take i) (ss.getD i [])=false):un ps ss=some i:=by unfold un;rw[List.find?_range_eq_some];exact⟨by rw[hn];rfl,Za3.mpr hi,λj hj=>by rw[h j hj];rfl⟩
theorem Az(h:∀j,j<ss.length->eV ps (ss.take j) (ss.getD j [])=true):un ps ss=none:=by unfold un;rw[List.find?_range_eq_none];exact λj hj=>by rw[h j hj];rfl
theorem mR(h5:s.length=5)(h:eV ps ss s=true):okS s:=by unfold eV rT at h;simp only[Bool.and_eq_true,z17]at h;exact⟨h5,h.1.2.1,h.1.2.2.1⟩
theorem getD_get{ss:UV}(h:i<ss.length):ss.getD i []=ss[i]:=by rw[zA7,zA0 h];rfl
def part(d:PyData)(i:Nat):PyData:=(items d).getD i .none
def gw(d:PyData):Bool:=bZ d 3 3&&(gR (part d 0)&&(fW (part d 1)&&(fX (part d 2)&&(un (rowsOf (part d 1)) (rowsOf (part d 2))).isNone)))
theorem sc26s:FnScope ["promises","sales","at","sale"] ["promises","sales"] (aC (top 42)):=fQS
theorem Ga(F:Fun K "first_unheld" "first_unheld" (top 42) f fd)(Te:mg "enumerate"=none)(c1:Cal P w K mg base 4 "are_promises" ["thing"] (spT fW))(c2:Cal P w K mg base 3 "are_sales" ["thing"] (spT fX))(c3:Cal P w K mg base 2 "sale_holds" ["promises","ahead","sale"] Ax):FnOk P w K mg base CX0 5 f fd ["promises","sales"] Ay:=by
 refine F.oq sc26s λaf A outer s H vs Q E hr h=>?_;obtain⟨S,v,d,S',u,e,rfl,E4,ths,hp,hs,zp,zs,q⟩:=h;refine⟨_,aA (bV (bH (bY (aJ c1 hr (aq (pv 0) aj)))) dM bh) (aA (bV (bH (bY (aJ c2 hr (aq (pv 1) aj)))) dM bh) (aA (cP zB8 rfl (ZT.pi_enum true rfl Te (aq (pv 1) aj)) (bU rfl (az (pgn 2 sc26s.nd) (az (pgn 3 sc26s.nd) aX))) (aF (bV (bH (bY (aJ c3 hr (aq (pv 0) (aq (pQ zV (pv 1) uv (uw (pv 2))) (aq (pv 3) aj)))))) (aF (aN (pv 2))) bh))) (aF (aN iw)))),?_⟩;refine aG ?_;refine⟨_,rfl,S,v,d,rfl,E4,zp,λH1 s1=>⟨_,rfl,?_⟩⟩;rw[hp];refine bx (cB ?_);dsimp only;refine aG ?_;refine⟨_,rfl,S',u,e,rfl,ths.same s1,zs,λH2 s2=>⟨_,rfl,?_⟩⟩;rw[hs];refine bx (cB ?_);dsimp only;have E5:=s1.trans s2;obtain⟨ep,lp,okp⟩:=kZ hp;obtain⟨es,ls,cx⟩:=lq hs;have fA:=E4.same E5;have pb:=ths.same E5;rw[ep]at fA;rw[es]at pb;generalize rowsOf d=ps at q lp okp fA;generalize rowsOf e=ss at q ls cx pb;obtain⟨ap,xp,rfl,rp⟩:=ik fA;obtain⟨ai,xs,rfl,rs⟩:=ik pb;refine aG ?_;refine⟨_,rfl,ai,xs,rfl,SqT.of rs.e,?_⟩;refine ZT.for_enum true (xs:=xs) (λi σ Hc=>∃x2 x3,σ=[some (.ref ap),some (.ref ai),x2,x3]/\Same H2 Hc/\∀j,j<i->eV ps (ss.take j) (ss.getD j [])=true) ?_ ?_ ?_ ?_;.exact⟨none,none,rfl,Same.refl _,λj hj=>absurd hj (Nat.not_lt_zero _)⟩
 .rintro i σ Hc hi⟨x2,x3,rfl,sm,hh⟩;exact SqT.of (sm _ _ rs.e)
 .rintro i x σ Hc T0 hx⟨x2,x3,rfl,sm,hh⟩nT;have hi:i<ss.length:=by have:=(zAa.mp hx).1;rw[rs.l]at this;exact this
  have E1:i<xs.length:=by rw[rs.l];exact hi
  obtain⟨tr,gx,eB⟩:=rs.g i ss[i] (zA0 hi);have:x=.ref tr:=by rw[hx]at gx;exact zAl gx
  subst this;have h5:=cx ss[i] (zAh hi);have sT:=sm.updR (o:=.tup [V.int i,V.ref tr]) nT;refine⟨T0,_,rfl,SqT.of ao,rfl,_,_,rfl,_,_,rfl,rfl,?_⟩;refine⟨_,rfl,_,rfl,_,rfl,i,rfl,ai,xs,rfl,SqT.of (sT _ _ rs.e),λhw=>?_,λ_ p OF=>?_⟩;.have:=hw.2;rw[HT.sIx_nat]at this;exact absurd this z00
  rw[iQ (Za7 E1)];have sp:=sT.updR (o:=.tup (xs.take i)) OF;refine⟨_,rfl,ap,xp,ps,p,xs.take i,ss.take i,tr,ss[i],rfl,rp.same sp,okp,(rs.same sT).cut i OF,?_,?_,sp _ _ eB,h5,λH' s'=>⟨_,rfl,?_⟩⟩;.rw[zAd];lia
  .intro s Uy;obtain⟨j,hj,e'⟩:=Zaz Uy;rw[zAd]at hj;have Uz:j<i:=z00;have OG:j<ss.length:=z00;have e2:ss[j]=s:=by rw[<-e',List.getElem_take]
   rw[<-e2];have:=hh j Uz;rw[getD_get OG]at this;exact mR (cx _ (zAh OG)) this
  .cases eh:eV ps (ss.take i) ss[i]with|false=>refine bw ⟨_,rfl,?_⟩;have:=q H' (E5.trans (sp.trans s'));rw[v7 hh hi (by rw[getD_get hi];exact eh)]at this;exact this;|true=>
    refine bx ⟨_,_,rfl,sp.trans s',λj hj=>?_⟩;rcases Nat.lt_succ_iff_lt_or_eq.mp hj with z|z;.exact hh j z
    .rw[z,getD_get hi];exact eh
 .rintro σ Hc⟨x2,x3,rfl,sm,hh⟩;have:=q Hc (E5.trans sm);rw[Az λj hj=>hh j (by rw[rs.l];exact hj)]at this;exact this
theorem sc27s:FnScope ["thing","clips","promises","sales"] ["thing"] (aC (top 43)):=fQS
theorem Jx(F:Fun K "is_book" "is_book" (top 43) f fd)(c0:Cal P w K mg base 1 "is_tuple_of" ["thing","fewest","most"] (jC bZ))(c1:Cal P w K mg base 4 "are_clips" ["thing"] (spT gR))(c2:Cal P w K mg base 4 "are_promises" ["thing"] (spT fW))(c3:Cal P w K mg base 3 "are_sales" ["thing"] (spT fX))(c4:Cal P w K mg base 5 "first_unheld" ["promises","sales"] Ay):FnOk P w K mg base CX0 6 f fd ["thing"] (spT gw):=by refine F.oq sc27s λaf A outer s H vs Q E hr h=>?_;obtain⟨S,v,d,rfl,th,hz,q⟩:=h;refine⟨_,aA (bV (bH (bY (aJ c0 hr (aq (pv 0) (aq aB (aq aB aj)))))) (aF (aN gj)) bh) (aA (cO (pv 0) (bU rfl (az (pgn 1 sc27s.nd) (az (pgn 2 sc27s.nd) (az (pgn 3 sc27s.nd) aX))))) (aF (aN (cC (aJ c1 hr (aq (pv 1) aj)) (cC (aJ c2 hr (aq (pv 2) aj)) (cC (aJ c3 hr (aq (pv 3) aj)) (dW (fY ur (aJ c4 hr (aq (pv 2) (aq (pv 3) aj))) iw (bu _))))))))),?_⟩;have fin:=q;unfold gw at fin;refine aG ?_;refine⟨_,rfl,S,v,d,3,3,rfl,th,hz,λH1 s1=>⟨_,rfl,?_⟩⟩;cases e:bZ d 3 3 with|false=>rw[e]at fin;exact bw (fin _ s1);|true=>rw[e]at fin;refine bx (cB ?_);dsimp only;obtain⟨ds,rfl,l1,l2⟩:=iY e;have fA:=th.same s1;cases fA with|@tup a xs _ ea r=>obtain⟨v0,v1,v2,d0,d1,d2,rfl,rfl,h0,h1,h2⟩:=nR r (show ds.length=3 by lia);have z0:=fQ (d:=d0) z01 hz;have z1:=fQ (d:=d1) z01 hz;have z2:=fQ (d:=d2) z01 hz;refine aG ?_;refine⟨_,rfl,a,_,rfl,SqT.of ea,rfl,_,_,rfl,_,_,rfl,_,_,rfl,rfl,?_⟩;dsimp only;have fin:∀H',Same H H'->Q (.bl (true&&(gR d0&&(fW d1&&(fX d2&&(un (rowsOf d1) (rowsOf d2)).isNone))))) H':=fin;refine⟨_,rfl,S,_,d0,rfl,h0,z0,λH2 s2=>⟨_,rfl,?_⟩⟩;cases e0:gR d0 with|false=>rw[e0]at fin;exact bx (fin _ (s1.trans s2));|true=>rw[e0]at fin;refine bw ?_;refine⟨_,rfl,S,_,d1,rfl,h1.same s2,z1,λH3 s3=>⟨_,rfl,?_⟩⟩;cases e1:fW d1 with|false=>rw[e1]at fin;exact bx (fin _ ((s1.trans s2).trans s3));|true=>rw[e1]at fin;refine bw ?_;refine⟨_,rfl,S,_,d2,rfl,h2.same (s2.trans s3),z2,λH4 s4=>⟨_,rfl,?_⟩⟩;cases e2:fX d2 with|false=>rw[e2]at fin;exact bx (fin _ (((s1.trans s2).trans s3).trans s4));|true=>rw[e2]at fin;refine bw ?_;have pd:=(s2.trans s3).trans s4;refine⟨_,rfl,_,rfl,S,_,d1,S,_,d2,rfl,h1.same pd,h2.same pd,e1,e2,z1,z2,λH5 s5=>⟨rfl,?_⟩⟩;have:=fin H5 (s1.trans (pd.trans s5));cases eu:un (rowsOf d1) (rowsOf d2)with|none=>rw[eu]at this;exact this;|some i=>rw[eu]at this;exact this
def Els(H:Hp)(xs:List V)(rs:UV):Prop:=xs.length=rs.length/\∀(i:Nat)(r:WF),rs[i]?=some r->∃t,xs[i]?=some (V.ref t)/\H t=some (.tup (r.map V.int))
theorem Els.keep(h:Els H xs rs)(k:∀b l,H b=some (.tup l)->H' b=some (.tup l)):Els H' xs rs:=⟨h.1,λi r e=>by obtain⟨t,e1,e2⟩:=h.2 i r e;exact⟨t,e1,k _ _ e2⟩⟩
theorem Els.same(h:Els H xs rs)(s:Same H H'):Els H' xs rs:=h.keep λ_ _ e=>s _ _ e
theorem Els.nil:Els H [] []:=⟨rfl,λi r e=>by simp at e⟩
theorem Els.app(h:Els H xs rs)(g:Els H ys qs):Els H (xs++ys) (rs++qs):=by
 refine⟨by rw[zA2,zA2,h.1,g.1],λi r e=>?_⟩;by_cases hi:i<rs.length;.rw[zBb hi]at e;obtain⟨t,e1,e2⟩:=h.2 i r e;exact⟨t,by rw[zBb (by rw[h.1];exact hi)];exact e1,e2⟩
 .rw[zBc z00]at e;obtain⟨t,e1,e2⟩:=g.2 _ r e;exact⟨t,by rw[zBc (by rw[h.1];lia),h.1];exact e1,e2⟩
theorem Els.one{r:WF}(e:H t=some (.tup (r.map V.int))):Els H [.ref t] [r]:=⟨rfl,λi q e'=>by cases i with|zero=>rw[List.getElem?_cons_zero]at e';cases e';exact⟨t,rfl,e⟩;|succ i=>simp at e'⟩
theorem gA(h:r.length=4):r=[fl r 0,fl r 1,fl r 2,fl r 3]:=by match r,h with|[a,b,c,d],_=>rfl
theorem Pg{t:TS}{D:Ends}(h:∀D',(∀σ H,N σ H->D'.nx σ H)->t D' σ H):t {D with nx:=N,ct:=N,bk:=D.nx} σ H:=h _ λ_ _ z=>z
theorem dG{Fin:List V->Hp->Prop}(n:Nat)(Pv:Nat->List V->St->Hp->Prop)(h0:Pv 0 [] eC H0)(hz:n<sizeLine)(step:∀i ys σ H,i<n->ys.length=i->Pv i ys σ H->J.go i H/\∀x H',J.yld i H x H'->∀R:V->St->Hp->Prop,(∀y ay H4,Pv (i+1) (ys++[y]) ay H4->R y ay H4)->g x σ H' λay H2=>te ay H2 λy H4=>R y ay H4)(fin:∀ys σ H,ys.length=n->Pv n ys σ H->J.stop n H/\Fin ys H):lK J g vP te Fin eC H0:=by
 refine⟨λi m ys σ H=>m=n-i/\i<=n/\ys.length=i/\Pv i ys σ H,⟨_,rfl,zAp _,rfl,h0⟩,?_⟩;rintro i m ys σ H⟨rfl,hi,hy,p⟩;refine⟨z00,?_⟩;by_cases aI:i<n;.obtain⟨go,st⟩:=step i ys σ H aI hy p;exact .inr ⟨go,λx H' y=>st x H' y _ λy ay H4 p2=>⟨n-(i+1),z00,rfl,aI,by rw[zA2,hy];rfl,p2⟩⟩
 .have e:i=n:=z00;subst e;exact .inl (fin ys σ H hy p)
def wts(rs:UV):WF:=rs.map λr=>fl r 3
def aY(rs:UV):Int:=(wts rs).sum
inductive SpSacksI(vs:List V)(H:Hp)(Q:VK):Prop|mk:∀l xs rs,(vs=[.ref l])->(H l=some (.lst xs))->(Els H xs rs)->((∀r∈rs,r.length=4))->(rs.length<=8000000)->(∀H',Same H H'->Q (.int (aY rs)) H')->SpSacksI  vs H Q
def pJ:Sp:=λvs H Q _=>SpSacksI  vs H Q
theorem boot_sum:bootBuiltins "sum"=some (.builtin "sum"):=by decide+kernel
theorem nd4:(["due","number","holder","sacks"]:Qa7).Nodup:=by decide+kernel
theorem QK:FnScope ["rows"] ["rows"] (aC (top 54)):=fQS
theorem Gb(F:Fun K "sacks_of" "sacks_of" (top 54) f fd)(Ts:mg "sum"=none):FnOk P w K mg base CX0 1 f fd ["rows"] pJ:=by
 refine F.oq QK λaf A outer s H vs Q E hr h=>?_;obtain⟨l,xs,rs,rfl,el,cE,h4,hz,q⟩:=h;refine⟨_,aF (aN (aM (fj rfl) rfl Ts boot_sum (aq (bN (g:=lE K 4 (cG (bR 0) (cG (bR 1) (cG (bR 2) (cG (bR 3) mZ))))) ["due","number","holder","sacks"] [none,none,none,none] rfl (fG (pv 0)) (λC fp z06 s₂ H₂=>⟨eQ rfl rfl (az (pgn 0 nd4) (az (pgn 1 nd4) (az (pgn 2 nd4) (az (pgn 3 nd4) aX)))),bB,pv 3⟩) (λC=>trivial) ⟨rfl,rfl,rfl,rfl⟩) aj))),?_⟩;refine⟨_,rfl,l,rfl,⟨_,SqL.of el⟩,dG rs.length (λi ys σ Hc=>Same H Hc/\(∃o1 o2 o3 o4,σ=[o1,o2,o3,o4])/\ys=(wts (rs.take i)).map V.int) ⟨Same.refl H,⟨_,_,_,_,rfl⟩,rfl⟩ z05 ?_ ?_⟩;.rintro i ys σ Hc hi hy⟨s1,⟨o1,o2,o3,o4,rfl⟩,rfl⟩;obtain⟨t,ex,et⟩:=cE.2 i rs[i] (zA0 hi);rw[gA (h4 _ (zAh hi))]at et;refine⟨⟨_,_,SqL.of (s1 _ _ el),ex⟩,λv H' y R hR=>?_⟩;obtain⟨rfl,y⟩:=y;have hv:=y _ (SqL.of (s1 _ _ el));rw[ex]at hv;cases hv;refine⟨t,_,rfl,SqT.of (s1 _ _ et),rfl,_,_,rfl,_,_,rfl,_,_,rfl,_,_,rfl,rfl,_,rfl,hR _ _ _ ⟨s1,⟨_,_,_,_,rfl⟩,?_⟩⟩;unfold wts;rw[zAj,zA0 hi,zA4,zA4];rfl
 .rintro ys σ Hc hy⟨s1,_,rfl⟩;refine⟨⟨_,SqL.of (s1 _ _ el),by rw[cE.1];exact zA3 _⟩,λD hD=>?_⟩;rw[zAm];exact⟨D,wts rs,rfl,.inl (SqL.of ao),q _ (s1.updR hD)⟩
end K24
open K24 (top bA items intOf bZ nd1 FQ je pI fQ dq spT jC Mg boot_tuple boot_all cD Cal aJ dR boot_sum dG sc1 gM)
namespace K24P
open PySem L2
structure Nums(mg:Qa0):Prop where many:∃t,mg "MOST_WEIGHTS"=some (.int 80 t)most:∃t,mg "MOST_WEIGHT"=some (.int 99 t)
def jG(d:PyData):Bool:=bZ d 1 80&&(items d).all λx=>dR x 1 99
theorem boot_sorted:bootBuiltins "sorted"=some (.builtin "sorted"):=by decide+kernel
theorem nd2(x y:Str)(h:x≠y):([x,y]:Qa7).Nodup:=by simp[h]
section
theorem sc19:FnScope ["thing"] ["thing"] (aC (top 48)):=fQS
theorem ok_are_weights(F:Fun K "are_weights" "are_weights" (top 48) f fd)(T:Mg mg)(N:Nums mg)(c1:Cal P w K mg base 2 "is_whole_from" ["thing","least","most"] (jC dR))(c2:Cal P w K mg base 1 "is_tuple_of" ["thing","fewest","most"] (jC bZ)):FnOk P w K mg base CX0 4 f fd ["thing"] (spT jG):=by refine F.oq sc19 λaf A outer s H vs Q E hr h=>?_;obtain⟨S,v,d,rfl,th,hz,q⟩:=h;obtain⟨t3,e3⟩:=N.many;obtain⟨t4,e4⟩:=N.most;refine⟨_,aF (aN (cC (aJ c2 hr (aP (pv 0) (aP aB (aP (bM (v:=.int 80) rfl e3 ⟨_,rfl⟩) aj)))) (dW (aM (dh rfl) rfl T.all boot_all (aP (bN ["part"] [none] rfl (fJ (pv 0)) (λC fp z06 s₂ H₂=>⟨bC (i:=0) (nd1 _) rfl (Or.inl rfl),bB,aJ c1 hr (aP (pv 0) (aP aB (aP (bM (v:=.int 99) rfl e4 ⟨_,rfl⟩) aj)))⟩) (λC=>trivial) ⟨rfl,rfl,rfl,rfl⟩) aj))))),?_⟩;refine⟨_,rfl,S,v,d,1,80,rfl,th,hz,λH1 s1=>⟨_,rfl,?_⟩⟩;have fA:=th.same s1;have fin:=λH'(s:Same H H')=>q H' s;unfold jG at fin;cases e:bZ d 1 80 with|false=>rw[e]at fin;exact bx (fin _ s1);|true=>rw[e]at fin;refine bw ?_;cases fA with|@tup a xs ds ea r=>exact cD (λx=>dR x 1 99) rfl ea r (dq r hz) (λv d H2 Q2 hm s2 t2 q2=>⟨_,rfl,S,v,d,1,99,rfl,t2,fQ hm hz,q2⟩) λH2 s2=>fin _ (s1.trans s2);|_=>cases e
end
section
theorem pi_listK(hK:X.K=K)(hl:PE X l tl):PI X tg l (Kg K tl):=by subst hK;exact fG hl
theorem ix_tupK(hK:X.K=K):IxR X (O4 K):=by subst hK;exact bQ
end
section
end
theorem ok_b{R:TS->Prop}(h:BSs X body t)(q:R t):∃t,PSs X body t/\R t:=⟨t,h.run,q⟩
def rr(rs:WF)(i:Nat):Int:=rs.getD i 0
def gB(fs:WF)(pl:List Nat):WF:=pl.foldl (λl i=>l.set i (l.getD i 0+1)) fs
theorem yQ(fs:WF)(pl:List Nat)(i:Nat):gB fs (pl++[i])=(gB fs pl).set i ((gB fs pl).getD i 0+1):=by unfold gB;rw[List.foldl_append];rfl
theorem nZ:∀pl fs,(gB fs pl).length=fs.length|[],_=>rfl|i::pl,fs=>by show(gB (fs.set i _) pl).length=_;rw[nZ pl,Zav]
def fs(n:Int)(ws:WF):WF:=ws.map λw=>n*w/ws.sum
def rs(n:Int)(ws:WF):WF:=ws.map λw=>n*w%ws.sum
def lf(n:Int)(ws:WF):Int:=n-(fs n ws).sum
def OkW(ws:WF):Prop:=1<=ws.length/\ws.length<=80/\∀w∈ws,1<=w/\w<=99
theorem v9:∀{l:WF},(∀a∈l,a<=B)->l.sum<=B*l.length|[],_=>by simp;|a::l,h=>by have h1:=v9 (B:=B) (l:=l) λb hb=>h b (.tail _ hb);have h2:=h a (.head _);rw[Zag,zAe,show B*((l.length+1:Nat):Int)=B*l.length+B by rw[Int.natCast_add,Int.mul_add];simp];lia
theorem o7:∀{l:WF},(∀a∈l,0<=a)->0<=l.sum|[],_=>by simp;|a::l,h=>by have h1:=o7 (l:=l) λb hb=>h b (.tail _ hb);have h2:=h a (.head _);rw[Zag];lia
theorem OkW.pos(h:OkW ws):1<=ws.sum:=by obtain⟨h1,_,h3⟩:=h;match ws,h1,h3 with
 |w::ws,_,h3=>
  have:=o7 (l:=ws) λa ha=>by have:=h3 a (.tail _ ha);lia
  have:=h3 w (.head _);rw[Zag];lia
theorem OkW.top(h:OkW ws):ws.sum<=7920:=by have h1:=v9 (B:=99) λa ha=>(h.2.2 a ha).2;have:=h.2.1;lia
theorem divs(n T:Int):∀ws:WF,T*(ws.map λw=>n*w/T).sum+(ws.map λw=>n*w%T).sum=n*ws.sum|[]=>by simp;|w::ws=>by have h1:=divs n T ws;have h2:=Int.mul_ediv_add_emod (n*w) T;simp only[List.map_cons,List.sum_cons,Int.mul_add];lia
theorem Mr(n:Int)(ws:WF):ws.sum*lf n ws=(rs n ws).sum:=by have h:=divs n ws.sum ws;unfold lf fs rs;rw[Int.mul_sub,Int.mul_comm ws.sum n];lia
theorem Ph(h:OkW ws):∀r∈rs n ws,0<=r:=λr hr=>by obtain⟨w,_,rfl⟩:=zA5.mp hr;have:=h.pos;exact Zbh _ z00
theorem Pj(h:OkW ws):∀r∈rs n ws,r<=ws.sum:=λr hr=>by obtain⟨w,_,rfl⟩:=zA5.mp hr;have:=h.pos;exact Int.le_of_lt (Za5 _ z00)
theorem vd(n:Int)(ws:WF):(fs n ws).length=ws.length:=zA1 _
theorem yR(n:Int)(ws:WF):(rs n ws).length=ws.length:=zA1 _
theorem Ge(h:OkW ws):0<=lf n ws:=by have h1:=Mr n ws;have h2:=o7 (Ph (n:=n) h);have h3:=h.pos;refine Int.le_of_not_gt λc=>?_;have:=Int.mul_le_mul_of_nonneg_left (c:=ws.sum) (show lf n ws<=-1 by lia) z00;lia
theorem Pk(h:OkW ws):lf n ws<=ws.length:=by have h1:=Mr n ws;have h2:=v9 (Pj (n:=n) h);rw[yR]at h2;have h3:=h.pos;refine Int.le_of_not_gt λc=>?_;have:=Int.mul_le_mul_of_nonneg_left (c:=ws.sum) (show(ws.length:Int)+1<=lf n ws by lia) z00;rw[Int.mul_add]at this;lia
theorem Ms(h:OkW ws):lf ws.sum ws=0:=by
 have h1:=Mr ws.sum ws;have h2:(rs ws.sum ws).sum<=0:=by
  have:=v9 (B:=0) (l:=rs ws.sum ws) λr hr=>by obtain⟨w,_,rfl⟩:=zA5.mp hr;rw[Int.mul_emod_right];exact Za6 _
  lia
 have h3:=h.pos;have h4:=Ge (n:=ws.sum) h;refine Int.le_antisymm (Int.le_of_not_gt λc=>?_) h4;have:=Int.mul_le_mul_of_nonneg_left (c:=ws.sum) (show 1<=lf ws.sum ws by lia) z00;lia
theorem u6:∀pl l i,i<l.length->(gB l pl).getD i 0=l.getD i 0+pl.count i
 |[],l,i,_=>by simp[gB];|j::pl,l,i,h=>by
  show(gB (l.set j (l.getD j 0+1)) pl).getD i 0=_;rw[u6 pl _ i (by rw[Zav];exact h),List.count_cons];by_cases e:j=i;.subst e;rw[zA7,Za0 h,Option.getD_some,beq_self_eq_true,zAz rfl];lia
  .rw[zA7,List.getElem?_set_ne e,<-zA7,zAy (by simp[e])];lia
structure PtOk(n:Int)(ws ps:WF):Prop where
 len:ps.length=ws.length
 sum:ps.sum=n
 bd:∀{i:Nat}{r w:Int},ps[i]?=some r->ws[i]?=some w->0<=r/\r<=w
theorem sum_set:∀{l:WF}{i:Nat}{v:Int},i<l.length->(l.set i v).sum=l.sum-l.getD i 0+v|[],_,_,h=>absurd h (Nat.not_lt_zero _)|a::l,0,v,_=>by rw[List.set_cons_zero,Zag,Zag];show v+l.sum=a+l.sum-a+v;lia;|a::l,i+1,v,h=>by have:=sum_set (l:=l) (i:=i) (v:=v) (Nat.lt_of_succ_lt_succ h);rw[List.set_cons_succ,Zag,Zag,this];show a+(l.sum-l.getD i 0+v)=a+l.sum-l.getD i 0+v;lia
theorem u9:∀pl l,(∀i∈pl,i<l.length)->(gB l pl).sum=l.sum+pl.length
 |[],l,_=>by show l.sum=l.sum+((0:Nat):Int);lia;|i::pl,l,h=>by
  have:=u9 pl (l.set i (l.getD i 0+1)) λj hj=>by rw[Zav];exact h j (.tail _ hj)
  show(gB (l.set i (l.getD i 0+1)) pl).sum=_;rw[this,sum_set (h i (.head _)),zAe];lia
theorem Pn(ok:OkW ws)(n0:0<=n)(n1:n<=ws.sum)(nd:pk.Nodup)(lt:∀i∈pk,i<ws.length)(hl:pk.length=(lf n ws).toNat):PtOk n ws (gB (fs n ws) pk):=by
 have hp:=ok.pos;refine⟨by rw[nZ,vd],?_,λ{i r w}hr hw=>?_⟩
 .have:=u9 pk (fs n ws) λi hi=>by rw[vd];exact lt i hi
  have l0:=Ge (n:=n) ok;have e:lf n ws=n-(fs n ws).sum:=rfl;lia
 .have hi:i<ws.length:=(zAa.mp hw).1;have g:=u6 pk (fs n ws) i (by rw[vd];exact hi);rw[zA7,hr]at g;have ef:(fs n ws).getD i 0=n*w/ws.sum:=by unfold fs;rw[zA7,zAb,hw];rfl
  rw[ef]at g;have g:r=n*w/ws.sum+((pk.count i:Nat):Int):=g;have w1:=ok.2.2 w (zB5 hw);have c1:pk.count i<=1:=List.nodup_iff_count.mp nd i;have q0:0<=n*w/ws.sum:=Int.ediv_nonneg (Int.mul_nonneg n0 z00) z00;have q1:n*w/ws.sum<=w:=by refine Int.ediv_le_of_le_mul z00 ?_;rw[Int.mul_comm w];exact Int.mul_le_mul_of_nonneg_right n1 z00
  by_cases c0:pk.count i=0;.rw[c0]at g;lia
  .have pos:0<pk.length:=List.length_pos_of_mem (a:=i) (List.count_pos_iff.mp (Nat.pos_of_ne_zero c0));have ne:n≠ws.sum:=λz=>by rw[z,Ms ok]at hl;have:pk.length=0:=hl;lia
   have q2:n*w/ws.sum<w:=by refine Int.ediv_lt_of_lt_mul z00 ?_;rw[Int.mul_comm w];exact Int.mul_lt_mul_of_pos_right z00 z00
   lia
theorem uc{ws:WF}{Fin:List V->Hp->Prop}(f:Int->Int)(ep:H0 p=some (.tup (ws.map V.int)))(hl:ws.length<sizeLine)(md:∀z Q,z∈ws->Q (.int (f z)) H0->te (eC.set 0 (some (.int z))) H0 Q)(fin:Fin ((ws.map f).map V.int) H0):lK (Itt K p) (bR 0) vP te Fin eC H0:=by
 refine dG ws.length (λi ys σ H=>H=H0/\(∀o,σ.set 0 o=eC.set 0 o)/\ys=((ws.take i).map f).map V.int) ⟨rfl,λ_=>rfl,rfl⟩ hl ?_ ?_
 .rintro i ys σ H hi hy⟨rfl,gE,rfl⟩;have hz:(ws.map V.int)[i]?=some (.int ws[i]):=by rw[zAb,zA0 hi];rfl
  refine⟨⟨_,_,SqT.of ep,hz⟩,λv H' y' R hR=>?_⟩;obtain⟨rfl,y'⟩:=y';have hv:=y' _ (SqT.of ep);rw[hz]at hv;cases hv;show te (σ.set 0 (some (.int ws[i]))) _ _;rw[gE];refine md ws[i] _ (zAh hi) (hR _ _ _ ⟨rfl,λo=>by rw[List.set_set],?_⟩);rw[zAj,zA0 hi,zA4,zA4];rfl
 .rintro ys σ H hy⟨rfl,gE,rfl⟩;refine⟨⟨_,SqT.of ep,by rw[zA1];exact zA3 _⟩,?_⟩;rw[zAm];exact fin
def wD(ws:WF):PyData:=.tuple (ws.map PyData.int)
theorem iV:∀(r:WF),szs (r.map PyData.int)=r.length|[]=>rfl|_::r=>by show 1+szs (r.map PyData.int)=r.length+1;rw[iV r,Nat.add_comm]
theorem QL(ws:WF):sz (wD ws)=1+ws.length:=by show 1+szs (ws.map PyData.int)=_;rw[iV]
theorem QM(h:OkW ws):jG (wD ws)=true:=by
 unfold jG;rw[zAc];refine⟨?_,Zae.mpr λd hd=>?_⟩;.show(true&&(decide (1<=((ws.map PyData.int).length:Int))&&decide (((ws.map PyData.int).length:Int)<=80)))=true;have h1:=h.1;have h2:=h.2.1;rw[zA1,zAw z00,zAw z00];rfl
 .obtain⟨w,hw,rfl⟩:=zA5.mp hd;have:=h.2.2 w hw;show(true&&(decide (1<=w)&&decide (w<=99)))=true;rw[zAw this.1,zAw this.2];rfl
inductive SpRefuseI(vs:List V)(H:Hp)(Q:VK):Prop|mk:∀n p ws,(vs=[.int n,.ref p])->(H p=some (.tup (ws.map V.int)))->(OkW ws)->(0<=n)->(n<=ws.sum)->(∀H',Same H H'->Q .non H')->SpRefuseI  vs H Q
def xF:Sp:=λvs H Q _=>SpRefuseI  vs H Q
inductive SpPlacesI(vs:List V)(H:Hp)(Q:VK):Prop|mk:∀p rests,(vs=[.ref p])->(H p=some (.lst ((rests:WF).map V.int)))->(rests.length<sizeLine)->(∀H' q(pl:List Nat),pl.Perm (List.range rests.length)->Same H H'->H q=none->H' q=some (.lst (pl.map λj:Nat=>V.int (j:Int)))->Q (.ref q) H')->SpPlacesI  vs H Q
def xG:Sp:=λvs H Q _=>SpPlacesI  vs H Q
inductive SpPartsI(vs:List V)(H:Hp)(Q:VK):Prop|mk:∀n p ws,(vs=[.int n,.ref p])->(H p=some (.tup (ws.map V.int)))->(OkW ws)->(0<=n)->(n<=ws.sum)->(∀H' q ps,PtOk n ws ps->Same H H'->H' q=some (.tup (ps.map V.int))->Q (.ref q) H')->SpPartsI  vs H Q
def spParts:Sp:=λvs H Q _=>SpPartsI  vs H Q
def jm(H:Hp)(a:Addr):Nat:=match H a with|some (.tup [_,.int y])=>y.toNat|_=>0
def rowAt(H:Hp)(a:Addr):WF:=match H a with|some (.tup [.int x,.int y])=>[x,y]|_=>[]
theorem Pq(h:rests[i]?=some x):rr rests i=x:=by unfold rr;rw[zA7,h];rfl
section
theorem QQ:FnScope ["sacks","weights"] ["sacks","weights"] (aC (top 49)):=fQS
theorem ok_refuse(F:Fun K "refuse_unpartable" "refuse_unpartable" (top 49) f fd)(Ts:mg "sum"=none)(c1:Cal P w K mg base 4 "are_weights" ["thing"] (spT jG))(c2:Cal P w K mg base 2 "is_whole_from" ["thing","least","most"] (jC dR)):FnOk P w K mg base CX0 5 f fd ["sacks","weights"] xF:=by
 refine F.oq QQ λaf A outer s H vs Q E hr h=>?_;obtain⟨n,p,ws,rfl,ep,ok,n0,n1,q⟩:=h;refine⟨_,aA (bV (bH (bY (aJ c1 hr (aP (pv 1) aj)))) (aF lD) bh) (aF (bV (bH (bY (aJ c2 hr (aP (pv 0) (aP aB (aP (aM (fj rfl) rfl Ts boot_sum (aq (pv 1) aj)) aj)))))) (aF lD) bh)),?_⟩;refine aG ?_;refine⟨_,rfl,λ_=>False,_,wD ws,rfl,.tup ep (IsThs.ints ws),by rw[QL];have:=ok.2.1;lia,λH1 s1=>⟨_,rfl,?_⟩⟩;rw[QM ok];refine bx ?_;dsimp only;refine⟨_,rfl,_,rfl,p,ws,rfl,.inr (SqT.of (s1 _ _ ep)),λ_=>False,_,.int n,0,_,rfl,.int n,(by show 1<=4000;decide),λH2 s2=>⟨_,rfl,?_⟩⟩;have e:dR (.int n) 0 ws.sum=true:=by show(true&&(decide (0<=n)&&decide (n<=ws.sum)))=true;rw[zAw n0,zAw n1];rfl
 rw[e];exact bx (q H2 (s1.trans s2))
theorem sc13:FnScope ["rests","ranked"] ["rests"] (aC (top 50)):=fQS
theorem ok_places(F:Fun K "places_by_rest" "places_by_rest" (top 50) f fd)(Te:mg "enumerate"=none)(Ts:mg "sorted"=none):FnOk P w K mg base CX0 1 f fd ["rests"] xG:=by
 refine F.oq sc13 λaf A outer s H vs Q E hr h=>?_;obtain⟨p,rests,rfl,ep,hz,q⟩:=h;refine⟨_,aA (pss 1 sc13.nd (aM uR rfl Ts boot_sorted (aq (bN (g:=lE K 2 (cG (bR 0) (cG (bR 1) mZ))) ["at","rest"] [none,none] rfl (ZT.pi_enum false rfl Te (aq (pv 0) aj)) (λC fp z06 s₂ H₂=>⟨eQ rfl rfl (az (bC (i:=0) (nd2 _ _ z02) rfl (Or.inl rfl) (Or.inr rfl)) (az (bC (i:=1) (nd2 _ _ z02) rfl (Or.inl rfl) (Or.inr rfl)) aX)),bB,cJ (aq (sG nq (pv 1)) (aq (pv 0) aj))⟩) (λC=>trivial) ⟨rfl,rfl,rfl,rfl⟩) aj))) (aF (aN (bN (g:=lE K 2 (cG (bR 0) (cG (bR 1) mZ))) ["minus","at"] [none,none] rfl (fG (pv 1)) (λC fp z06 s₂ H₂=>⟨eQ rfl rfl (az (bC (i:=0) (nd2 _ _ z02) rfl (Or.inl rfl) (Or.inr rfl)) (az (bC (i:=1) (nd2 _ _ z02) rfl (Or.inl rfl) (Or.inr rfl)) aX)),bB,pv 1⟩) (λC=>trivial) ⟨rfl,rfl,rfl,rfl⟩))),?_⟩;refine aG ?_;refine⟨_,rfl,p,_,rfl,SqL.of ep,dG rests.length (λi ys σ Hc=>Same H Hc/\(∃o1 o2,σ=[o1,o2])/\∃ts:Qa9,ys=ts.map V.ref/\∀j,j<i->∃a,ts[j]?=some a/\Hc a=some (.tup [.int (-(rr rests j)),.int (j:Int)])) ⟨Same.refl H,⟨_,_,rfl⟩,[],rfl,λj hj=>absurd hj (Nat.not_lt_zero _)⟩ hz ?_ ?_⟩
 .rintro i ys σ Hc hi hy⟨s1,⟨o1,o2,rfl⟩,ts,rfl,qA⟩;rw[zA1]at hy;have mw:SqL K Hc p (rests.map V.int):=SqL.of (s1 _ _ ep);have hx:(rests.map V.int)[i]?=some (.int (rr rests i)):=by rw[zAb,zA0 hi,Pq (zA0 hi)];rfl
  refine⟨⟨_,_,mw,hx⟩,λv H' y R hR=>?_⟩;obtain⟨T,nT,rfl,y⟩:=y;obtain⟨x',dQ,rfl⟩:=y _ mw;rw[hx]at dQ;cases dQ;have s2:=s1.updR (o:=.tup [.int (i:Int),.int (rr rests i)]) nT;refine⟨T,_,rfl,SqT.of ao,rfl,_,_,rfl,_,_,rfl,rfl,_,rfl,rr rests i,rfl,_,rfl,zL,λt ht=>?_⟩;refine hR _ _ _ ⟨s2.updR ht,⟨_,_,rfl⟩,ts++[t],by rw[zA4];rfl,λj hj=>?_⟩;by_cases e:j<i;.obtain⟨a,h1,h2⟩:=qA j e;refine⟨a,by rw[zBb z00];exact h1,?_⟩;exact Same.upd ht _ _ (Same.upd nT _ _ h2)
  .have e:j=i:=z00;subst e;refine⟨t,by rw[zBc z00,hy,Nat.sub_self];rfl,ao⟩
 .rintro ys σ Hc hy⟨s1,_,ts,rfl,qA⟩;rw[zA1]at hy;refine⟨⟨_,SqL.of (s1 _ _ ep),by rw[zA1];exact zA3 _⟩,λD hD=>?_⟩;have s2:=s1.updR (o:=.lst (ts.map V.ref)) hD;have wm:∀j,j<rests.length->∃a,ts[j]?=some a/\upd Hc D (.lst (ts.map V.ref)) a=some (.tup [.int (-(rr rests j)),.int (j:Int)]):=λj hj=>by obtain⟨a,h1,h2⟩:=qA j hj;exact⟨a,h1,Same.upd hD _ _ h2⟩
  have eD:=ao (H:=Hc) (a:=D) (o:=.lst (ts.map V.ref));generalize upd Hc D (.lst (ts.map V.ref))=H2 at s2 wm eD⊢;clear qA hD s1;have rV:∀a∈ts,∃j,j<rests.length/\H2 a=some (.tup [.int (-(rr rests j)),.int (j:Int)]):=λa ha=>by obtain⟨j,hj,e⟩:=Zaz ha;obtain⟨b,h1,h2⟩:=wm j z00;rw[zA0 hj]at h1;injection h1 with h1;refine⟨j,z00,?_⟩;rw[<-e,h1];exact h2
  refine⟨D,ts,rowAt H2,rfl,SqL.of eD,λa ha=>?_,λq' l' hq pm=>?_⟩
  .obtain⟨j,hj,e⟩:=rV a ha;have er:rowAt H2 a=[-(rr rests j),(j:Int)]:=by unfold rowAt;rw[e]
   rw[er];exact⟨SqT.of e,by simp⟩
  have zd:∀a∈l',∃j,j<rests.length/\H2 a=some (.tup [.int (-(rr rests j)),.int (j:Int)]):=λa ha=>rV a (pm.mem_iff.mp ha);have sn:∀a∈l',H2 a=some (.tup [.int (-(rr rests (jm H2 a))),.int (jm H2 a:Int)])/\rowAt H2 a=[-(rr rests (jm H2 a)),(jm H2 a:Int)]:=λa ha=>by
   obtain⟨j,hj,e⟩:=zd a ha;have er:rowAt H2 a=[-(rr rests j),(j:Int)]:=by unfold rowAt;rw[e]
   have es:jm H2 a=j:=by unfold jm;rw[e];exact zAi j
   rw[er,es];exact⟨e,rfl⟩
  have ord:(l'.map (jm H2)).Perm (List.range rests.length):=by
   refine(pm.map _).trans (List.Perm.of_eq (List.ext_getElem? λj=>?_));by_cases hj:j<rests.length;.obtain⟨a,h1,h2⟩:=wm j hj;rw[zAb,h1,Zat hj];show some (jm H2 a)=some j;unfold jm;rw[h2];exact congrArg some (zAi j)
   .rw[Za1 (by rw[zA1];lia),Za1 (by rw[Zah];lia)]
  have s3:=s2.updR (o:=.lst (l'.map V.ref)) hq;have Z5:l'.length=rests.length:=by rw[pm.length_eq,hy]
  have CD:=ao (H:=H2) (a:=q') (o:=.lst (l'.map V.ref));have IY:∀a∈l',upd H2 q' (.lst (l'.map V.ref)) a=some (.tup [.int (-(rr rests (jm H2 a))),.int (jm H2 a:Int)]):=λa ha=>Same.upd hq _ _ (sn a ha).1;generalize jm H2=sd at ord IY;generalize upd H2 q' (.lst (l'.map V.ref))=H3 at s3 CD IY⊢;dsimp only;refine gQ ?_;refine⟨_,rfl,q',rfl,⟨_,SqL.of CD⟩,dG rests.length (λi ys σ Hc=>Same H3 Hc/\(∃o1 o2,σ=[o1,o2])/\ys=((l'.take i).map sd).map λj:Nat=>V.int (j:Int)) ⟨Same.refl H3,⟨_,_,rfl⟩,rfl⟩ hz ?_ ?_⟩
  .rintro i ys σ Hc hi hy⟨s4,⟨o1,o2,rfl⟩,rfl⟩;have lS:i<l'.length:=z00;have hu:(l'.map V.ref)[i]?=some (.ref l'[i]):=by rw[zAb,zA0 lS];rfl
   refine⟨⟨_,_,SqL.of (s4 _ _ CD),hu⟩,λv H' y R hR=>?_⟩;obtain⟨rfl,y⟩:=y;have hv:=y _ (SqL.of (s4 _ _ CD));rw[hu]at hv;cases hv;refine⟨l'[i],_,rfl,SqT.of (s4 _ _ (IY _ (zAh lS))),rfl,_,_,rfl,_,_,rfl,rfl,_,rfl,hR _ _ _ ⟨s4,⟨_,_,rfl⟩,?_⟩⟩;rw[zAj,zA0 lS,zA4,zA4];rfl
  .rintro ys σ Hc ze⟨s4,_,rfl⟩;refine⟨⟨_,SqL.of (s4 _ _ CD),by rw[zA1];lia⟩,λD' OH=>?_⟩;have s5:=s3.trans s4;have hn:H D'=none:=s5.free OH;refine q _ D' _ ord (s5.updR OH) hn ?_;rw[ao,Zal z00]
end
end K24P
open K24 (iQ)
namespace K24P
open PySem L2
theorem Jy(h:j<n):ixN n (j:Int)=some j:=by unfold ixN;rw[zAz z00,zAz z00,zAi]
theorem Mt(ok:OkW ws):ws.length<sizeLine:=by have:=ok.2.1;rw[sizeLine_eq];lia
section
theorem Pr:(["weight","sacks","together"]:Qa7).Nodup:=by decide+kernel
theorem sc14:FnScope ["sacks","weights","together","parts","rests","left","at"] ["sacks","weights"] (aC (top 51)):=fQS
theorem ok_parts(F:Fun K "parts_of" "parts_of" (top 51) f fd)(T:Mg mg)(Ts:mg "sum"=none)(c1:Cal P w K mg base 1 "places_by_rest" ["rests"] xG):FnOk P w K mg base CX0 2 f fd ["sacks","weights"] spParts:=by
 refine F.oq sc14 λaf A outer s H vs Q E hr h=>?_;obtain⟨n,p,ws,rfl,ep,ok,n0,n1,q⟩:=h;refine⟨_,aA (jo (i:=2) sc14.nd rfl (Or.inr rfl) (aM (fj rfl) rfl Ts boot_sum (aq (pv 1) aj))) (aA (lM (i:=3) ["weight","sacks","together"] [none,some 0,some 2] rfl sc14.nd rfl (Or.inl rfl) (fJ (pv 1)) (λC fp z06 s₂ H₂=>⟨pgn 0 Pr,bB,aV uq (aV j6 (pv 1) (pv 0)) (pv 2)⟩) (λC=>cI (cI trivial)) ⟨rfl,rfl,rfl,rfl⟩) (aA (lM (i:=4) ["weight","sacks","together"] [none,some 0,some 2] rfl sc14.nd rfl (Or.inl rfl) (fJ (pv 1)) (λC fp z06 s₂ H₂=>⟨pgn 0 Pr,bB,aV j7 (aV j6 (pv 1) (pv 0)) (pv 2)⟩) (λC=>cI (cI trivial)) ⟨rfl,rfl,rfl,rfl⟩) (aA (pss 5 sc14.nd (aV fU (pv 0) (aM (fj rfl) rfl Ts boot_sum (aq (pv 3) aj)))) (aA (cP zB8 rfl (fG (pQ Ir (aJ c1 hr (aq (pv 4) aj)) uv (uw (pv 5)))) (pgn 6 sc14.nd) (aF (lF (pv 3) (pv 6) gM aB uo set_list))) (aF (aN (dH cZ rfl T.tuple boot_tuple (aq (pv 3) aj)))))))),?_⟩;have hp:=ok.pos;have ht:=ok.top;have CF:=Mt ok;refine aG ?_;refine⟨_,rfl,p,ws,rfl,.inr (SqT.of ep),?_⟩;dsimp only;refine aG ?_;refine⟨_,rfl,p,rfl,⟨_,SqT.of ep⟩,uc (λz=>n*z/ws.sum) ep CF (λz Q hz h=>⟨_,rfl,_,rfl,_,_,rfl,rfl,.inl ⟨z00,z00⟩,_,rfl,_,_,rfl,rfl,⟨z00,z00⟩,h⟩) ?_⟩;rw[show ws.map (λz=>n*z/ws.sum)=fs n ws from rfl];intro l1 de;have s1:=Same.upd (o:=.lst ((fs n ws).map V.int)) de;have el1:=ao (H:=H) (a:=l1) (o:=.lst ((fs n ws).map V.int));generalize upd H l1 _=H1 at s1 el1⊢;dsimp only;refine aG ?_;refine⟨_,rfl,p,rfl,⟨_,SqT.of (s1 _ _ ep)⟩,uc (λz=>n*z%ws.sum) (s1 _ _ ep) CF (λz Q hz h=>⟨_,rfl,_,rfl,_,_,rfl,rfl,.inl ⟨z00,z00⟩,_,rfl,_,_,rfl,rfl,(by show 0<ws.sum;lia),h⟩) ?_⟩;rw[show ws.map (λz=>n*z%ws.sum)=rs n ws from rfl];intro l2 fF;have s2:=s1.updR (o:=.lst ((rs n ws).map V.int)) fF;have el2:=ao (H:=H1) (a:=l2) (o:=.lst ((rs n ws).map V.int));have mx:=Same.upd (o:=.lst ((rs n ws).map V.int)) fF _ _ el1;have wc:H l1=none:=de;clear de fF;generalize upd H1 l2 _=H2 at s2 el2 mx⊢;clear el1 s1;dsimp only;refine aG ?_;refine⟨_,rfl,_,rfl,l1,fs n ws,rfl,.inl (SqL.of mx),_,_,rfl,rfl,?_⟩;show _;dsimp only;rw[show n-(fs n ws).sum=lf n ws from rfl];refine aG ?_;refine⟨_,rfl,l2,rs n ws,rfl,el2,by rw[yR];exact CF,λH3 l3 pl ord s3 Ct el3=>⟨_,rfl,_,rfl,l3,_,rfl,SqL.of el3,λl4 kF=>⟨l4,rfl,⟨_,SqL.of ao⟩,?_⟩⟩⟩;have Z6:=Ge (n:=n) ok;have Z7:=Pk (n:=n) ok;rw[yR]at ord;have UA:=ord.length_eq;rw[Zah]at UA;have IZ:lG (pl.map λj:Nat=>V.int (j:Int)) none (some (lf n ws))=(pl.take (lf n ws).toNat).map λj:Nat=>V.int (j:Int):=by rw[List.map_take,<-iQ (i:=(lf n ws).toNat) (by rw[zA1];lia),show((lf n ws).toNat:Int)=lf n ws by lia]
 rw[IZ];have inr:∀j∈pl.take (lf n ws).toNat,j<ws.length:=λj hj=>Za3.mp (ord.mem_iff.mp (Zbc hj));have fin:=Pn ok n0 n1 ((ord.nodup_iff.mpr List.nodup_range).sublist (List.take_sublist _ _)) inr (by rw[zAd];lia);generalize pl.take (lf n ws).toNat=pk at fin inr kF⊢;have s4:=(s2.trans s3).updR (o:=.lst (pk.map λj:Nat=>V.int (j:Int))) kF;have el4:=ao (H:=H3) (a:=l4) (o:=.lst (pk.map λj:Nat=>V.int (j:Int)));have CH:=Same.upd (o:=.lst (pk.map λj:Nat=>V.int (j:Int))) kF _ _ (s3 _ _ mx);have n14:l4≠l1:=λz=>by rw[z,s3 _ _ mx]at kF;cases kF
 generalize upd H3 l4 (.lst (pk.map λj:Nat=>V.int (j:Int)))=H4 at s4 el4 CH⊢;clear kF el3 Ct s3 mx el2 s2;refine iI (xs:=pk.map λj:Nat=>V.int (j:Int)) (λi σ Hc=>∃o6,σ=[some (.int n),some (.ref p),some (.int ws.sum),some (.ref l1),some (.ref l2),some (.int (lf n ws)),o6]/\Same H Hc/\Hc l4=some (.lst (pk.map λj:Nat=>V.int (j:Int)))/\Hc l1=some (.lst ((gB (fs n ws) (pk.take i)).map V.int))) ?_ ?_ ?_ ?_;.exact⟨none,rfl,s4,el4,CH⟩
 .rintro i σ Hc hi⟨o6,rfl,s5,e4,e1⟩;exact SqL.of e4
 .rintro i v σ Hc hv⟨o6,rfl,s5,e4,e1⟩;rw[zAb]at hv;cases hj:pk[i]? with|none=>rw[hj]at hv;cases hv;|some j=>
   rw[hj]at hv;cases hv;refine aK ?_;have kp:∀o,Same H (upd Hc l1 o):=λo b u e=>by rw[aD (aH e wc)];exact s5 _ _ e
   have aI:j<(gB (fs n ws) (pk.take i)).length:=by rw[nZ,vd];exact inr j (zB5 hj)
   have hx:((gB (fs n ws) (pk.take i)).map V.int)[((j:Nat):Int).toNat]?=some (.int ((gB (fs n ws) (pk.take i)).getD j 0)):=by rw[zAi,zAb,zA0 aI,zA7,zA0 aI];rfl
   refine⟨_,rfl,_,rfl,l1,_,(j:Int),_,rfl,rfl,SqL.of e1,z00,hx,_,_,rfl,rfl,l1,_,(j:Int),j,rfl,rfl,e1,Jy (by rw[zA1];exact aI),?_⟩;refine⟨_,rfl,kp _,by rw[aD n14];exact e4,?_⟩;rw[ao,zAj,hj];show _=some (HO.lst ((gB (fs n ws) (pk.take i++[j])).map V.int));rw[yQ,List.map_set]
 .rintro σ Hc⟨o6,rfl,s5,e4,e1⟩;rw[zA1,zAm]at e1;dsimp only;refine gQ ?_;exact⟨_,rfl,l1,_,rfl,.inl ⟨SqL.of e1,λt ht=>q _ t _ fin (s5.updR ht) ao⟩⟩
theorem sc15:FnScope ["sacks","weights"] ["sacks","weights"] (aC (top 52)):=fQS
theorem ok_parted(F:Fun K "parted" "parted" (top 52) f fd)(c1:Cal P w K mg base 5 "refuse_unpartable" ["sacks","weights"] xF)(c2:Cal P w K mg base 2 "parts_of" ["sacks","weights"] spParts):FnOk P w K mg base CX0 6 f fd ["sacks","weights"] spParts:=by refine F.oq sc15 λaf A outer s H vs Q E hr h=>?_;obtain⟨n,p,ws,rfl,ep,ok,n0,n1,q⟩:=h;refine⟨_,aA (bf (aJ c1 hr (aq (pv 0) (aq (pv 1) aj)))) (aF (aN (aJ c2 hr (aq (pv 0) (aq (pv 1) aj))))),?_⟩;refine aG ?_;refine⟨_,rfl,_,rfl,n,p,ws,rfl,ep,ok,n0,n1,λH1 s1=>?_⟩;dsimp only;refine gQ ?_;exact⟨_,rfl,_,rfl,n,p,ws,rfl,s1 _ _ ep,ok,n0,n1,λH2 t ps pk s2 et=>q H2 t ps pk (s1.trans s2) et⟩
end
end K24P
namespace K24
open PySem L2
def fO:Int->UV->WF|_,[]=>[]|w,r::rs=>(if w<fl r 3 then w else fl r 3)::fO (w-(if w<fl r 3 then w else fl r 3)) rs
theorem lA:∀w rs r,fO w (rs++[r])=fO w rs++[if w-(fO w rs).sum<fl r 3 then w-(fO w rs).sum else fl r 3]|w,[],r=>by show[_]=[_];rw[show(fO w []).sum=0 from rfl,Int.sub_zero];|w,q::rs,r=>by rw[List.cons_append];unfold fO;rw[lA _ rs r,List.cons_append,Zag,show∀a b c:Int,a-b-c=a-(b+c)from λa b c=>by lia]
theorem o9:∀w rs,(fO w rs).length=rs.length|_,[]=>rfl|w,r::rs=>by unfold fO;rw[zAe,zAe,o9]
theorem mU:∀{rs:UV},(∀r∈rs,0<=fl r 3)->0<=aY rs|[],_=>Za6 _|r::rs,h=>Int.add_nonneg (h r (.head _)) (mU λq hq=>h q (.tail _ hq))
structure ShOk(w:Int)(rs:UV)(sh:WF):Prop where
 len:sh.length=rs.length
 sum:sh.sum=min w (aY rs)bd:∀p∈rs.zip sh,0<=p.2/\p.2<=fl p.1 3
theorem Kr:∀{w:Int}{rs:UV},0<=w->(∀r∈rs,0<=fl r 3)->ShOk w rs (fO w rs)
 |w,[],h,_=>⟨rfl,by show 0=min w 0;lia,λp hp=>nomatch hp⟩|w,r::rs,h,hr=>by
  have h3:=hr r (.head _);have hn:=mU λq hq=>hr q (.tail _ hq);obtain⟨x,hx⟩:∃x,x=if w<fl r 3 then w else fl r 3:=⟨_,rfl⟩;have hb:0<=x/\x<=fl r 3/\x<=w/\(x=w\/x=fl r 3):=by split at hx<;>lia
  obtain⟨a,b,c⟩:=Kr (w:=w-x) (rs:=rs) z00 λq hq=>hr q (.tail _ hq);have e:fO w (r::rs)=x::fO (w-x) rs:=by rw[hx];rfl
  have es:aY (r::rs)=fl r 3+aY rs:=rfl;rw[e];refine⟨by rw[zAe,zAe,a],by rw[Zag,b,es];lia,λp hp=>?_⟩;rcases zAo.mp hp with z|z;.rw[z];exact⟨hb.1,hb.2.1⟩
  .exact c p z
theorem Mu{rs:UV}(h:∀r∈rs,0<=fl r 3)(hs:(wts rs).sum<=w):ShOk w rs (wts rs):=by refine⟨zA1 _,by show(wts rs).sum=min w (wts rs).sum;lia,λp hp=>?_⟩;obtain⟨i,hi,rfl⟩:=Zaz hp;rw[List.getElem_zip];have:(wts rs)[i]'(by rw[zAs]at hi;lia)=fl (rs[i]'(by rw[zAs]at hi;lia)) 3:=List.getElem_map _;show 0<=(wts rs)[i]'_/\(wts rs)[i]'_<=_;rw[this];exact⟨h _ (zAh _),Za6 _⟩
theorem Pu(h:K24P.PtOk w (wts rs) ps)(hs:w<=(wts rs).sum):ShOk w rs ps:=by have hl:ps.length=rs.length:=h.len.trans (zA1 _);refine⟨hl,by rw[h.sum];show w=min w (wts rs).sum;lia,λp hp=>?_⟩;obtain⟨i,hi,rfl⟩:=Zaz hp;rw[zAs]at hi;rw[List.getElem_zip];exact h.bd (zA0 _) (by unfold wts;rw[zAb,zA0 z00];rfl)
inductive SpMadeI(vs:List V)(H:Hp)(Q:VK):Prop|mk:∀w l xs rs,(vs=[.int w,.ref l])->(H l=some (.lst xs))->(Els H xs rs)->((∀r∈rs,r.length=4))->(rs.length<=8000000)->(∀m H',Same H H'->H m=none->H' m=some (.lst ((fO w rs).map V.int))->Q (.ref m) H')->SpMadeI  vs H Q
def Gf:Sp:=λvs H Q _=>SpMadeI  vs H Q
inductive SpSharesI(vs:List V)(H:Hp)(Q:VK):Prop|mk:∀w l xs rs,(vs=[.int w,.ref l])->(H l=some (.lst xs))->(Els H xs rs)->((∀r∈rs,r.length=4/\1<=fl r 3/\fl r 3<=99))->(rs.length<=80)->(0<=w)->(∀t sh H',Same H H'->ShOk w rs sh->H' t=some (.tup (sh.map V.int))->Q (.ref t) H')->SpSharesI  vs H Q
def xH:Sp:=λvs H Q _=>SpSharesI  vs H Q
theorem scT1:FnScope ["wool","owed","shares","left","due","number","holder","sacks","share"] ["wool","owed"] (aC (top 57)):=fQS
theorem Jz(F:Fun K "made_good" "made_good" (top 57) f fd)(Tn:mg "min"=none):FnOk P w K mg base CX0 1 f fd ["wool","owed"] Gf:=by
 refine F.oq scT1 λaf A outer s H vs Q E hr h=>?_;obtain⟨w0,l,xs,rs,rfl,el,cE,h4,hz,q⟩:=h;refine⟨_,aA (pss 2 scT1.nd (cY aj)) (aA (pss 3 scT1.nd (pv 0)) (aA (cP zB8 rfl (fG (pv 1)) (bU rfl (az (pgn 4 scT1.nd) (az (pgn 5 scT1.nd) (az (pgn 6 scT1.nd) (az (pgn 7 scT1.nd) aX))))) (aA (pss 8 scT1.nd (aM (jN rfl) rfl Tn boot_min (aq (pv 7) (aq (pv 3) aj)))) (aA (bf (eZ zB4 zBa zB9 cA (pv 2) (aq (pv 8) aj))) (aF (jW (i:=3) scT1.nd rfl (Or.inl rfl) (pv 8) DK))))) (aF (aN (pv 2))))),?_⟩;refine aG (aU ?_);refine⟨zL,λm hm=>?_⟩;refine aK ?_;dsimp only;refine aG (aU ?_);refine⟨_,rfl,?_⟩;refine aK ?_;dsimp only;refine aG ?_;have s1:=Same.upd (o:=.lst []) hm;have nl:l≠m:=aH el hm;refine⟨_,rfl,l,rfl,⟨_,SqL.of (s1 _ _ el)⟩,?_⟩;refine iI (xs:=xs) (λi σ Hc=>∃x4 x5 x6 x7 x8,σ=[some (.int w0),some (.ref l),some (.ref m),some (.int (w0-(fO w0 (rs.take i)).sum)),x4,x5,x6,x7,x8]/\(∀b o,H b=some o->Hc b=some o)/\Hc m=some (.lst ((fO w0 (rs.take i)).map V.int))) ?_ ?_ ?_ ?_;.refine⟨none,none,none,none,none,?_,λb o e=>s1 _ _ e,ao⟩;rw[List.take_zero,show(fO w0 []).sum=0 from rfl,Int.sub_zero];rfl
 .rintro i σ Hc hi⟨x4,x5,x6,x7,x8,rfl,k,em⟩;exact SqL.of (k _ _ el)
 .rintro i x σ Hc hx⟨x4,x5,x6,x7,x8,rfl,k,em⟩;have hi:i<rs.length:=by have:=(zAa.mp hx).1;rw[cE.1]at this;exact this
  obtain⟨t,ex,et⟩:=cE.2 i rs[i] (zA0 hi);rw[ex]at hx;cases hx;rw[gA (h4 _ (zAh hi))]at et;refine⟨t,_,rfl,SqT.of (k _ _ et),rfl,_,_,rfl,_,_,rfl,_,_,rfl,_,_,rfl,rfl,?_⟩;refine aG (aU ?_);refine⟨_,rfl,_,rfl,_,_,rfl,?_⟩;refine aK ?_;dsimp only;refine aG ?_;refine⟨_,rfl,.inl ⟨rfl,_,SqL.of em⟩,_,rfl,m,_,_,rfl,rfl,em,?_,?_⟩;.rw[zA1,o9,zAd,sizeLine_eq];lia
  have hZ:rs.take (i+1)=rs.take i++[rs[i]]:=by rw[zAj,zA0 hi];rfl
  dsimp only;refine⟨_,rfl,_,rfl,_,_,rfl,rfl,some (.int (fl rs[i] 0)),some (.int (fl rs[i] 1)),some (.int (fl rs[i] 2)),some (.int (fl rs[i] 3)),some (.int (if w0-(fO w0 (rs.take i)).sum<fl rs[i] 3 then w0-(fO w0 (rs.take i)).sum else fl rs[i] 3)),?_,λb o e=>?_,?_⟩;.rw[hZ,lA,List.sum_append,Zag,List.sum_nil,Int.add_zero,show∀a b c:Int,a-(b+c)=a-b-c from λa b c=>by lia];rfl
  .rw[aD (aH e hm)];exact k _ _ e
  .rw[ao,hZ,lA,zA4];rfl
 .rintro σ Hc⟨x4,x5,x6,x7,x8,rfl,k,em⟩;rw[show xs.length=rs.length from cE.1,zAm]at em;exact⟨_,rfl,q m Hc (λb o e=>k b o e) hm em⟩
theorem scT2:FnScope ["wool","claims","weights"] ["wool","claims"] (aC (top 56)):=fQS
theorem Dg(F:Fun K "shares_of" "shares_of" (top 56) f fd)(T:Mg mg)(Ts:mg "sum"=none)(c1:Cal P w K mg base 6 "parted" ["sacks","weights"] K24P.spParts):FnOk P w K mg base CX0 7 f fd ["wool","claims"] xH:=by
 refine F.oq scT2 λaf A outer s H vs Q E hr h=>?_;obtain⟨w0,l,xs,rs,rfl,el,cE,h4,hz,hw,q⟩:=h;refine⟨_,aA (pss 2 scT2.nd (dH cZ rfl T.tuple boot_tuple (aq (bN (g:=lE K 4 (cG (bR 0) (cG (bR 1) (cG (bR 2) (cG (bR 3) mZ))))) ["due","number","holder","sacks"] [none,none,none,none] rfl (fG (pv 1)) (λC fp z06 s₂ H₂=>⟨eQ rfl rfl (az (pgn 0 nd4) (az (pgn 1 nd4) (az (pgn 2 nd4) (az (pgn 3 nd4) aX)))),bB,pv 3⟩) (λC=>trivial) ⟨rfl,rfl,rfl,rfl⟩) aj))) (aF (aN (pN (bz bW (aM (fj rfl) rfl Ts boot_sum (aq (pv 2) aj)) (pv 0) (bu _)) (pv 2) (aJ c1 hr (aq (pv 0) (aq (pv 2) aj)))))),?_⟩;refine aG (aU ?_);refine⟨_,rfl,l,rfl,⟨_,SqL.of el⟩,dG rs.length (λi ys σ Hc=>Same H Hc/\(∃o1 o2 o3 o4,σ=[o1,o2,o3,o4])/\ys=(wts (rs.take i)).map V.int) ⟨Same.refl H,⟨_,_,_,_,rfl⟩,rfl⟩ z05 ?_ ?_⟩;.rintro i ys σ Hc hi hy⟨s1,⟨o1,o2,o3,o4,rfl⟩,rfl⟩;obtain⟨t,ex,et⟩:=cE.2 i rs[i] (zA0 hi);rw[gA (h4 _ (zAh hi)).1]at et;refine⟨⟨_,_,SqL.of (s1 _ _ el),ex⟩,λv H' y R hR=>?_⟩;obtain⟨rfl,y⟩:=y;have hv:=y _ (SqL.of (s1 _ _ el));rw[ex]at hv;cases hv;refine⟨t,_,rfl,SqT.of (s1 _ _ et),rfl,_,_,rfl,_,_,rfl,_,_,rfl,_,_,rfl,rfl,_,rfl,hR _ _ _ ⟨s1,⟨_,_,_,_,rfl⟩,?_⟩⟩;unfold wts;rw[zAj,zA0 hi,zA4,zA4];rfl
 .rintro ys σ Hc hy⟨s1,_,rfl⟩;refine⟨⟨_,SqL.of (s1 _ _ el),by rw[cE.1];exact zA3 _⟩,λD hD=>?_⟩;rw[zAm];refine⟨D,_,rfl,.inl ⟨SqL.of ao,λt ht=>?_⟩⟩;have s2:=(s1.updR (o:=.lst ((wts rs).map V.int)) hD).updR (o:=.tup ((wts rs).map V.int)) ht;have et:=ao (H:=upd Hc D (.lst ((wts rs).map V.int))) (a:=t) (o:=.tup ((wts rs).map V.int));generalize upd (upd Hc D (.lst ((wts rs).map V.int))) t (.tup ((wts rs).map V.int))=H2 at s2 et⊢;refine aK ?_;dsimp only;refine⟨_,rfl,t,wts rs,rfl,.inr (SqT.of et),_,rfl,_,_,rfl,rfl,_,rfl,?_⟩;by_cases hs:(wts rs).sum<=w0;.rw[zAw hs];exact bw ⟨_,rfl,q t _ H2 s2 (Mu (λr hr=>by have:=(h4 r hr).2.1;lia) hs) et⟩
  .rw[zB6 hs];refine bx ⟨_,rfl,_,rfl,w0,t,wts rs,rfl,et,⟨?_,by unfold wts;rw[zA1];exact hz,λx hx=>?_⟩,hw,z00,λH3 t3 ps pk s3 e3=>q t3 ps H3 (s2.trans s3) (Pu pk z00) e3⟩;.cases eW:rs with|nil=>rw[eW]at hs;exact absurd hw hs;|cons r rs'=>unfold wts;rw[zA1,zAe];lia
   .obtain⟨r,eW,rfl⟩:=zA5.mp hx;exact(h4 r eW).2
theorem jH{Fin:List V->Hp->Prop}(n:Nat)(Pv:Nat->List V->St->Hp->Prop)(h0:Pv 0 [] eC H0)(hz:n<sizeLine)(step:∀i ys σ H,i<n->ys.length<=i->Pv i ys σ H->J.go i H/\∀x H',J.yld i H x H'->∀R:List V->St->Hp->Prop,(∀eI ay H4,eI.length<=i+1->Pv (i+1) eI ay H4->R eI ay H4)->g x σ H' λay H2=>tt ay H2 λb H3=>if b=true then te ay H3 λy H4=>R (ys++[y]) ay H4 else R ys ay H3)(fin:∀ys σ H,ys.length<=n->Pv n ys σ H->J.stop n H/\Fin ys H):lK J g tt te Fin eC H0:=by
 refine⟨λi m ys σ H=>m=n-i/\i<=n/\ys.length<=i/\Pv i ys σ H,⟨_,rfl,zAp _,zA3 _,h0⟩,?_⟩;rintro i m ys σ H⟨rfl,hi,hy,p⟩;refine⟨z00,?_⟩;by_cases aI:i<n;.obtain⟨go,st⟩:=step i ys σ H aI hy p;exact .inr ⟨go,λx H' y=>st x H' y (λeI ay H4=>∃m',m'<n-i/\m'=n-(i+1)/\i+1<=n/\eI.length<=i+1/\Pv (i+1) eI ay H4) λeI ay H4 l2 p2=>⟨n-(i+1),z00,rfl,aI,l2,p2⟩⟩
 .have e:i=n:=z00;subst e;exact .inl (fin ys σ H hy p)
def pq(f:WF×Int->Int)(P:List (WF×Int)):UV:=(P.filter λp=>decide (0<f p)).map λp=>[fl p.1 0,fl p.1 1,fl p.1 2,f p]
def qL(p:WF×Int):Int:=fl p.1 3-p.2
theorem mV(f:WF×Int->Int)(P:List (WF×Int))(p:WF×Int):pq f (P++[p])=pq f P++(if 0<f p then[[fl p.1 0,fl p.1 1,fl p.1 2,f p]]else[]):=by
 unfold pq;rw[List.filter_append,zA4];congr 1;by_cases h:0<f p;.rw[zAz h,zBg (p:=λp=>decide (0<f p)) (zAw h)];rfl
 .rw[zAy h,zBf (p:=λp=>decide (0<f p)) (by rw[z17];exact h)];rfl
theorem vf{f:WF×Int->Int}:∀{P:List (WF×Int)},(∀p∈P,0<=f p)->aY (pq f P)=(P.map f).sum
 |[],_=>rfl|p::P,h=>by
  have ih:=vf λq hq=>h q (.tail _ hq);have h0:=h p (.head _);rw[zAk,Zag,<-ih];unfold pq;by_cases hp:0<f p;.rw[zBg (p:=λp=>decide (0<f p)) (zAw hp)];rfl
  .rw[zBf (p:=λp=>decide (0<f p)) (by rw[z17];exact hp)];lia
theorem Ba:∀{rs:UV}{sh:WF},sh.length=rs.length->((rs.zip sh).map (·.2)).sum=sh.sum/\((rs.zip sh).map qL).sum=aY rs-sh.sum|[],[],_=>⟨rfl,rfl⟩|[],_::_,h=>nomatch h|_::_,[],h=>nomatch h|r::rs,x::sh,h=>by obtain⟨a,b⟩:=Ba (rs:=rs) (sh:=sh) (Nat.succ.inj h);have es:aY (r::rs)=fl r 3+aY rs:=rfl;rw[List.zip_cons_cons,zAk,zAk,Zag,Zag,Zag,a,b,es];refine⟨rfl,?_⟩;show fl r 3-x+_=_;lia
def vg(q r:WF):Prop:=r=[fl q 0,fl q 1,fl q 2,fl r 3]/\1<=fl r 3/\fl r 3<=fl q 3
structure GvOk(w:Int)(rs G K:UV):Prop where
 gp:∀r∈G,∃q∈rs,vg q r
 kp:∀r∈K,∃q∈rs,vg q r
 gs:aY G=min w (aY rs)ks:aY K=aY rs-min w (aY rs)gl:G.length<=rs.length
 kl:K.length<=rs.length
theorem xJ{f:WF×Int->Int}{rs:UV}{sh:WF}(h:∀p∈rs.zip sh,f p<=fl p.1 3):(∀r∈pq f (rs.zip sh),∃q∈rs,vg q r)/\(pq f (rs.zip sh)).length<=rs.length:=by
 refine⟨λr hr=>?_,?_⟩;.obtain⟨p,hp,rfl⟩:=zA5.mp hr;obtain⟨m,hm⟩:=zAq.mp hp;exact⟨p.1,(List.of_mem_zip (show(p.1,p.2)∈_ from m)).1,rfl,zBd hm,h p m⟩
 .have:=List.length_filter_le (λp=>decide (0<f p)) (rs.zip sh);unfold pq;rw[zA1];rw[zAs]at this;lia
theorem Px{w:Int}(h:ShOk w rs sh):GvOk w rs (pq (·.2) (rs.zip sh)) (pq qL (rs.zip sh)):=by
 obtain⟨a,b⟩:=Ba h.len;obtain⟨g1,g2⟩:=xJ (f:=(·.2)) (rs:=rs) (sh:=sh) λp hp=>(h.bd p hp).2;obtain⟨k1,k2⟩:=xJ (f:=qL) (rs:=rs) (sh:=sh) λp hp=>by have:=(h.bd p hp).1;show fl p.1 3-p.2<=_;lia
 exact⟨g1,k1,by rw[vf λp hp=>(h.bd p hp).1,a,h.sum],by rw[vf λp hp=>by have:=(h.bd p hp).2;show 0<=fl p.1 3-p.2;lia,b,h.sum],g2,k2⟩
theorem jU:∀a b,aY (a++b)=aY a+aY b:=λa b=>by unfold aY wts;rw[zA4,List.sum_append]
theorem Mv{w:Int}{cl ow:UV}{sh mg:WF}(hc:∀r∈cl,0<=fl r 3)(ho:∀r∈ow,0<=fl r 3)(a:ShOk w cl sh)(b:ShOk (w-sh.sum) ow mg):ShOk w (cl++ow) (sh++mg):=by have e:=a.sum;have h1:=mU hc;have h2:=mU ho;refine⟨by rw[zA2,zA2,a.len,b.len],by rw[List.sum_append,b.sum,jU];lia,λp hp=>?_⟩;rw[List.zip_append a.len.symm]at hp;exact(zA6.mp hp).elim (a.bd p) (b.bd p)
inductive SpSortI(vs:List V)(H:Hp)(Q:VK):Prop|mk:∀w lc xc cl lo xo ow,(vs=[.int w,.ref lc,.ref lo])->(H lc=some (.lst xc))->(Els H xc cl)->((∀r∈cl,r.length=4/\1<=fl r 3/\fl r 3<=99))->(cl.length<=80)->(0<=w)->(H lo=some (.lst xo))->(Els H xo ow)->((∀r∈ow,r.length=4/\0<=fl r 3))->(ow.length<=4000000)->(∀t g k xg xk G K H',Same H H'->GvOk w (cl++ow) G K->H' t=some (.tup [.ref g,.ref k])->H g=none->H k=none->H' g=some (.lst xg)->Els H' xg G->H' k=some (.lst xk)->Els H' xk K->Q (.ref t) H')->SpSortI  vs H Q
def Gg:Sp:=λvs H Q _=>SpSortI  vs H Q
theorem xK:bootBuiltins "list"=some (.type "list"):=by decide+kernel
theorem nd5:(["due","number","holder","sacks","share"]:Qa7).Nodup:=by decide+kernel
theorem scU1:FnScope ["wool","claims","owed","shares","rows","gifts","lacking"] ["wool","claims","owed"] (aC (top 58)):=fQS
theorem Gh(F:Fun K "sort_given" "sort_given" (top 58) f fd)(Ts:mg "sum"=none)(Tl:mg "list"=none)(Tz:mg "zip"=none)(c1:Cal P w K mg base 7 "shares_of" ["wool","claims"] xH)(c2:Cal P w K mg base 1 "made_good" ["wool","owed"] Gf):FnOk P w K mg base CX0 8 f fd ["wool","claims","owed"] Gg:=by
 refine F.oq scU1 λaf A outer s H vs Q E hr h=>?_;obtain⟨w0,lc,xc,cl,lo,xo,ow,rfl,ec,CI,Jn,UB,hw,eo,pe,E6,UC,q⟩:=h;refine⟨_,aA (pss 3 scU1.nd (dH uC rfl Tl xK (aq (aJ c1 hr (aq (pv 0) (aq (pv 1) aj))) aj))) (aA (pss 4 scU1.nd (aV jX (pv 1) (pv 2))) (aA (jW (i:=3) scU1.nd rfl (Or.inl rfl) (aJ c2 hr (aq (aV fU (pv 0) (aM (fj rfl) rfl Ts boot_sum (aq (pv 3) aj))) (aq (pv 2) aj))) nP) (aA (lM (g:=lE K 2 (cG (lE K 4 (cG (bR 0) (cG (bR 1) (cG (bR 2) (cG (bR 3) mZ))))) (cG (bR 4) mZ))) (i:=5) ["due","number","holder","sacks","share"] [none,none,none,none,none] rfl scU1.nd rfl (Or.inl rfl) (ZT.pi_zip false false rfl Tz (aq (pv 4) (aq (pv 3) aj))) (λC fp z06 s₂ H₂=>⟨eQ rfl rfl (az (eQ rfl rfl (az (pgn 0 nd5) (az (pgn 1 nd5) (az (pgn 2 nd5) (az (pgn 3 nd5) aX))))) (az (pgn 4 nd5) aX)),lJ (bz oE (pv 4) aB (bu _)),cJ (aq (pv 0) (aq (pv 1) (aq (pv 2) (aq (pv 4) aj))))⟩) (λC=>trivial) ⟨rfl,rfl,rfl,rfl⟩) (aA (lM (g:=lE K 2 (cG (lE K 4 (cG (bR 0) (cG (bR 1) (cG (bR 2) (cG (bR 3) mZ))))) (cG (bR 4) mZ))) (i:=6) ["due","number","holder","sacks","share"] [none,none,none,none,none] rfl scU1.nd rfl (Or.inl rfl) (ZT.pi_zip false false rfl Tz (aq (pv 4) (aq (pv 3) aj))) (λC fp z06 s₂ H₂=>⟨eQ rfl rfl (az (eQ rfl rfl (az (pgn 0 nd5) (az (pgn 1 nd5) (az (pgn 2 nd5) (az (pgn 3 nd5) aX))))) (az (pgn 4 nd5) aX)),lJ (bz oE (pv 3) (pv 4) (bu _)),cJ (aq (pv 0) (aq (pv 1) (aq (pv 2) (aq (aV fU (pv 3) (pv 4)) aj))))⟩) (λC=>trivial) ⟨rfl,rfl,rfl,rfl⟩) (aF (aN (cJ (aq (pv 5) (aq (pv 6) aj))))))))),?_⟩;refine jQ λc_ iL=>?_;refine aU ?_;refine⟨_,rfl,_,rfl,w0,lc,xc,cl,rfl,ec,CI,Jn,UB,hw,λt sh H1 s1 okS et=>⟨t,_,rfl,.inr (SqT.of et),λls IT=>?_⟩⟩;have s2:=s1.updR (o:=.lst (sh.map V.int)) IT;have UD:H ls=none:=s1.free IT;have cE:=ao (H:=H1) (a:=ls) (o:=.lst (sh.map V.int));generalize upd H1 ls (.lst (sh.map V.int))=H2 at s2 cE⊢;refine aK ?_;refine iL _ _ ?_;clear iL c_;try dsimp only
 refine jQ λc_ iL=>?_;refine aU ?_;refine⟨_,rfl,_,rfl,lc,lo,xc,xo,rfl,rfl,s2 _ _ ec,s2 _ _ eo,by rw[CI.1,pe.1,sizeLine_eq];lia,λlr kQ=>?_⟩;have s3:=s2.updR (o:=.lst (xc++xo)) kQ;have Z8:H lr=none:=s2.free kQ;have pj:=Same.upd (o:=.lst (xc++xo)) kQ _ _ cE;have JA:=ao (H:=H2) (a:=lr) (o:=.lst (xc++xo));have UE:lr≠ls:=λz=>by rw[z,cE]at kQ;cases kQ
 generalize upd H2 lr (.lst (xc++xo))=H3 at s3 pj JA⊢;refine aK ?_;refine iL _ _ ?_;clear iL c_;try dsimp only
 refine jQ λc_ iL=>?_;refine⟨_,rfl,_,rfl,_,rfl,ls,sh,rfl,.inl (SqL.of pj),_,_,rfl,rfl,_,rfl,_,lo,xo,ow,rfl,s3 _ _ eo,pe.same s3,λr hr=>(E6 r hr).1,z00,λm H4 s4 nm em=>?_⟩;refine⟨ls,m,_,_,rfl,rfl,s4 _ _ pj,em,by rw[zA1,zA1,okS.len,o9,sizeLine_eq];lia,?_⟩;have c0:∀r∈cl,0<=fl r 3:=λr hr=>by have:=(Jn r hr).2.1;lia
 have E7:=Mv c0 (λr hr=>(E6 r hr).2) okS (Kr (by have:=okS.sum;lia) λr hr=>(E6 r hr).2);rw[<-zA4];generalize sh++fO (w0-sh.sum) ow=SH at E7;have CL:=E7.len;refine iL _ _ ?_;clear iL c_ okS;try dsimp only
 have k5:Same H (upd H4 ls (.lst (SH.map V.int))):=λb o e=>by rw[aD (aH e UD)];exact s4 _ _ (s3 _ _ e)
 have mB:=ao (H:=H4) (a:=ls) (o:=.lst (SH.map V.int));have js:upd H4 ls (.lst (SH.map V.int)) lr=some (.lst (xc++xo)):=by rw[aD UE];exact s4 _ _ JA
 generalize upd H4 ls (.lst (SH.map V.int))=H5 at k5 mB js⊢;have zh:Els H (xc++xo) (cl++ow):=CI.app pe;have OI:∀r∈cl++ow,r.length=4:=λr hr=>(zA6.mp hr).elim (λz=>(Jn r z).1) λz=>(E6 r z).1;have UG:(cl++ow).length<=5000000:=by rw[zA2];lia
 generalize xc++xo=xr at js zh;generalize cl++ow=rr at q CL E7 zh OI UG;clear cE pj JA s1 s2 s3 s4 em et;obtain⟨ZP,E8⟩:∃ZP,ZP=rr.zip SH:=⟨_,rfl⟩;have gv:=Px E7;rw[<-E8]at gv;have pE:ZP.length=rr.length:=by rw[E8,zAs,CL,Nat.min_self]
 have wo:∀i(h:i<ZP.length),rr[i]?=some ZP[i].1:=λi h=>by have hi:i<rr.length:=z00;rw[zA0 hi];congr 1;simp only[E8,List.getElem_zip]
 have CM:∀i(h:i<ZP.length),SH[i]?=some ZP[i].2:=λi h=>by have hi:i<SH.length:=z00;rw[zA0 hi];congr 1;simp only[E8,List.getElem_zip]
 have CO:∀i(h:i<ZP.length),(ZP[i].1).length=4:=λi h=>OI _ (zB5 (wo i h));refine jQ λc_ iL=>?_;refine⟨_,rfl,_,rfl,lr,ls,xr,_,rfl,SqL.of js,SqL.of mB,jH rr.length (λi ys σ Hc=>Same H5 Hc/\(∃o1 o2 o3 o4 o5,σ=[o1,o2,o3,o4,o5])/\Els Hc ys (pq (·.2) (ZP.take i))) ⟨Same.refl _,⟨_,_,_,_,_,rfl⟩,Els.nil⟩ z05 ?_ ?_⟩
 .rintro i ys σ Hc hi hy⟨sc,⟨o1,o2,o3,o4,o5,rfl⟩,ht⟩;have hP:i<ZP.length:=by rw[pE];exact hi
  obtain⟨tr,ex,et⟩:=zh.2 i ZP[i].1 (wo i hP);have er:SqL K Hc lr xr:=SqL.of (sc _ _ js);have es:SqL K Hc ls (SH.map V.int):=SqL.of (sc _ _ mB);have ze:(SH.map V.int)[i]?=some (.int ZP[i].2):=by rw[zAb,CM i hP];rfl
  have hZ:ZP.take (i+1)=ZP.take i++[ZP[i]]:=by rw[zAj,zA0 hP];rfl
  have CS:=sc _ _ (k5 _ _ et);rw[gA (CO i hP)]at CS;refine⟨⟨_,_,_,_,er,es,ex,ze⟩,λx H' yv R hR=>?_⟩;obtain⟨T0,nT,rfl,yv⟩:=yv;obtain⟨x',y',qS,wq,rfl⟩:=yv _ _ er es;rw[ex]at qS;cases qS;rw[ze]at wq;cases wq;have rX:=sc.updR (o:=.tup [.ref tr,.int ZP[i].2]) nT;refine⟨T0,_,rfl,SqT.of ao,rfl,_,_,rfl,?_⟩;refine⟨tr,_,rfl,SqT.of (Same.upd nT _ _ CS),rfl,_,_,rfl,_,_,rfl,_,_,rfl,_,_,rfl,rfl,?_⟩;refine⟨_,_,rfl,rfl,?_⟩;refine⟨_,rfl,_,_,rfl,rfl,_,rfl,?_⟩;by_cases bq:0<ZP[i].2;.rw[zAw bq];refine bw ⟨_,rfl,_,rfl,_,rfl,_,rfl,zL,λt iF=>hR _ _ _ (by rw[zA2];show ys.length+1<=i+1;lia) ⟨rX.updR iF,⟨_,_,_,_,_,rfl⟩,?_⟩⟩;rw[hZ,mV,zAz bq];exact(((ht.same (Same.upd nT)).same (Same.upd iF))).app (Els.one ao)
  .rw[zB6 bq];refine bx (hR _ _ _ z00 ⟨rX,⟨_,_,_,_,_,rfl⟩,?_⟩);rw[hZ,mV,zAy bq,zAn];exact ht.same (Same.upd nT)
 rintro ys σ Hc hy⟨sc,_,ht⟩;rw[<-pE,zAm]at ht;refine⟨⟨_,SqL.of (sc _ _ js),by rw[zh.1];exact zA3 _⟩,λg hg=>?_⟩;have k6:=(k5.trans sc).updR (o:=.lst ys) hg;have ng:H g=none:=(k5.trans sc).free hg;have eg:=ao (H:=Hc) (a:=g) (o:=.lst ys);have pT:=ht.same (Same.upd (o:=.lst ys) hg);have pV:=Same.upd (o:=.lst ys) hg _ _ (sc _ _ js);have wt:=Same.upd (o:=.lst ys) hg _ _ (sc _ _ mB);generalize upd Hc g (.lst ys)=H6 at k6 eg pT pV wt⊢;clear sc ht hy mB js k5;refine iL _ _ ?_;clear iL c_;try dsimp only
 refine jQ λc_ iL=>?_;refine⟨_,rfl,_,rfl,lr,ls,xr,_,rfl,SqL.of pV,SqL.of wt,jH rr.length (λi ys σ Hc=>Same H6 Hc/\(∃o1 o2 o3 o4 o5,σ=[o1,o2,o3,o4,o5])/\Els Hc ys (pq qL (ZP.take i))) ⟨Same.refl _,⟨_,_,_,_,_,rfl⟩,Els.nil⟩ z05 ?_ ?_⟩
 .rintro i ys σ Hc hi hy⟨sc,⟨o1,o2,o3,o4,o5,rfl⟩,ht⟩;have hP:i<ZP.length:=by rw[pE];exact hi
  obtain⟨tr,ex,et⟩:=zh.2 i ZP[i].1 (wo i hP);have er:SqL K Hc lr xr:=SqL.of (sc _ _ pV);have es:SqL K Hc ls (SH.map V.int):=SqL.of (sc _ _ wt);have ze:(SH.map V.int)[i]?=some (.int ZP[i].2):=by rw[zAb,CM i hP];rfl
  have hZ:ZP.take (i+1)=ZP.take i++[ZP[i]]:=by rw[zAj,zA0 hP];rfl
  have CS:=sc _ _ (k6 _ _ et);rw[gA (CO i hP)]at CS;refine⟨⟨_,_,_,_,er,es,ex,ze⟩,λx H' yv R hR=>?_⟩;obtain⟨T0,nT,rfl,yv⟩:=yv;obtain⟨x',y',qS,wq,rfl⟩:=yv _ _ er es;rw[ex]at qS;cases qS;rw[ze]at wq;cases wq;have rX:=sc.updR (o:=.tup [.ref tr,.int ZP[i].2]) nT;refine⟨T0,_,rfl,SqT.of ao,rfl,_,_,rfl,?_⟩;refine⟨tr,_,rfl,SqT.of (Same.upd nT _ _ CS),rfl,_,_,rfl,_,_,rfl,_,_,rfl,_,_,rfl,rfl,?_⟩;refine⟨_,_,rfl,rfl,?_⟩;refine⟨_,rfl,_,rfl,_,_,rfl,rfl,_,rfl,?_⟩;by_cases bq:0<qL ZP[i];.rw[zAw (show ZP[i].2<fl ZP[i].1 3 by unfold qL at bq;lia)];refine bw ⟨_,rfl,_,rfl,_,rfl,_,rfl,_,rfl,_,_,rfl,rfl,zL,λt iF=>hR _ _ _ (by rw[zA2];show ys.length+1<=i+1;lia) ⟨rX.updR iF,⟨_,_,_,_,_,rfl⟩,?_⟩⟩;rw[hZ,mV,zAz bq];exact(((ht.same (Same.upd nT)).same (Same.upd iF))).app (Els.one ao)
  .rw[zB6 (show¬ZP[i].2<fl ZP[i].1 3 by unfold qL at bq;lia)];refine bx (hR _ _ _ z00 ⟨rX,⟨_,_,_,_,_,rfl⟩,?_⟩);rw[hZ,mV,zAy bq,zAn];exact ht.same (Same.upd nT)
 rintro JE σ Hc hy⟨sc,_,ht⟩;rw[<-pE,zAm]at ht;refine⟨⟨_,SqL.of (sc _ _ pV),by rw[zh.1];exact zA3 _⟩,λk hk=>?_⟩;have k7:=(k6.trans sc).updR (o:=.lst JE) hk;have nk:H k=none:=(k6.trans sc).free hk;have sk:=Same.upd (o:=.lst JE) hk;refine iL _ _ ?_;clear iL c_;try dsimp only
 refine⟨_,rfl,_,rfl,zL,λt iF=>?_⟩;have st:=Same.upd (o:=.tup [.ref g,.ref k]) iF;exact q t g k ys JE _ _ _ (k7.trans st) gv ao ng nk (st _ _ (sk _ _ (sc _ _ eg))) (((pT.same sc).same sk).same st) (st _ _ ao) ((ht.same sk).same st)
def jg(L:WF)(i:Nat):UV:=((List.range i).filter λh=>decide (0<L.getD h 0)).map λ(h:Nat)=>[(h:Int),L.getD h 0]
theorem oR(L:WF)(i:Nat):jg L (i+1)=jg L i++(if 0<L.getD i 0 then[[(i:Int),L.getD i 0]]else[]):=by
 unfold jg;rw[Za8,List.filter_append,zA4];congr 1;by_cases h:0<L.getD i 0;.rw[zAz h,zBg (p:=λh=>decide (0<L.getD h 0)) (zAw h)];rfl
 .rw[zAy h,zBf (p:=λh=>decide (0<L.getD h 0)) (by rw[z17];exact h)];rfl
theorem yS(L:WF)(i:Nat):(jg L i).length<=i:=by unfold jg;rw[zA1];have:=List.length_filter_le (λh=>decide (0<L.getD h 0)) (List.range i);rw[Zah]at this;exact this
def vh(ps ss:UV)(sort year:Int)(n:Nat):UV:=if fl (ps.getD n []) 1=sort then(jg (cz (ps.getD n []) ss n year) 8).map (λr=>year::(n:Int)::r)else[]
def rY(ps ss:UV)(sort year:Int):Nat->UV|0=>[]|k+1=>rY ps ss sort year k++vh ps ss sort year k
def cW(ps ss:UV)(sort year:Int):UV:=rY ps ss sort year ps.length
theorem Gi(ps ss:UV)(sort year:Int)(n:Nat):(vh ps ss sort year n).length<=8:=by
 unfold vh;split;.rw[zA1];exact yS _ 8
 .exact zAp _
theorem qM(ps ss:UV)(sort year:Int):∀k,(rY ps ss sort year k).length<=8*k|0=>zA3 _|k+1=>by unfold rY;rw[zA2];have:=qM ps ss sort year k;have:=Gi ps ss sort year k;lia
inductive SpClaimsI(vs:List V)(H:Hp)(Q:VK):Prop|mk:∀ap xp ps ai xs ss sort year,(vs=[.ref ap,.ref ai,.int sort,.int year])->(RowsAt H ap xp ps)->(ps.length<=10)->((∀r∈ps,okP r))->(RowsAt H ai xs ss)->(ss.length<=12)->((∀s∈ss,okS s))->(∀l xl H',Same H H'->H l=none->H' l=some (.lst xl)->Els H' xl (cW ps ss sort year)->Q (.ref l) H')->SpClaimsI  vs H Q
def mW:Sp:=λvs H Q _=>SpClaimsI  vs H Q
theorem ndV:(["holder","sacks","year","number"]:Qa7).Nodup:=by decide+kernel
theorem scV1:FnScope ["promises","sales","sort","year","claims","number","promise","held"] ["promises","sales","sort","year"] (aC (top 55)):=fQS
theorem Dh(F:Fun K "claims_in" "claims_in" (top 55) f fd)(Te:mg "enumerate"=none)(c1:Cal P w K mg base 1 "held_in" ["promises","sales","number","year"] yP):FnOk P w K mg base CX0 2 f fd ["promises","sales","sort","year"] mW:=by
 refine F.oq scV1 λaf A outer s H vs Q E hr h=>?_;obtain⟨ap,xp,ps,ai,xs,ss,sort,year,rfl,rp,lp,okp,rs,ls,cx,q⟩:=h;refine⟨_,aA (pss 4 scV1.nd (cY aj)) (aA (cP zB8 rfl (ZT.pi_enum true rfl Te (aq (pv 0) aj)) (bU rfl (az (bC (i:=5) scV1.nd rfl (Or.inr rfl)) (az (pgn 6 scV1.nd) aX))) (aF (bV (bz iJ (pX bQ (pv 6) aB) (pv 2) (bu _)) (aA (pss 7 scV1.nd (aJ c1 hr (aq (pv 0) (aq (pv 1) (aq (pv 5) (aq (pv 3) aj)))))) (aF (jW (i:=4) scV1.nd rfl (Or.inl rfl) (bN (g:=lE K 2 (cG (bR 0) (cG (bR 1) mZ))) ["holder","sacks","year","number"] [none,none,some 3,some 5] rfl (ZT.pi_enum false rfl Te (aq (pv 7) aj)) (λC fp z06 s₂ H₂=>⟨eQ rfl rfl (az (pgn 0 ndV) (az (pgn 1 ndV) aX)),lJ (bz oE (pv 1) aB (bu _)),cJ (aq (pv 2) (aq (pv 3) (aq (pv 0) (aq (pv 1) aj))))⟩) (λC=>cI (cI trivial)) ⟨rfl,rfl,rfl,rfl⟩) nP))) bh))) (aF (aN (pv 4)))),?_⟩;refine aG (aU ?_);refine⟨zL,λl hl=>?_⟩;refine aK ?_;dsimp only;refine aG ?_;have s0:=Same.upd (o:=.lst []) hl;refine⟨_,rfl,ap,xp,rfl,SqT.of (s0 _ _ rp.e),?_⟩;refine ZT.for_enum true (xs:=xp) (λi σ Hc=>∃x5 x6 x7 xl,σ=[some (.ref ap),some (.ref ai),some (.int sort),some (.int year),some (.ref l),x5,x6,x7]/\(∀b o,H b=some o->Hc b=some o)/\Hc l=some (.lst xl)/\Els Hc xl (rY ps ss sort year i)) ?_ ?_ ?_ ?_;.exact⟨none,none,none,[],rfl,λb o e=>s0 _ _ e,ao,Els.nil⟩
 .rintro i σ Hc hi⟨x5,x6,x7,xl,rfl,k,el,ht⟩;exact SqT.of (k _ _ rp.e)
 .rintro i x σ Hc T0 hx⟨x5,x6,x7,xl,rfl,k,el,ht⟩nT;have hi:i<ps.length:=by have:=(zAa.mp hx).1;rw[rp.l]at this;exact this
  obtain⟨tr,gx,eB⟩:=rp.g i ps[i] (zA0 hi);have:x=.ref tr:=by rw[hx]at gx;exact zAl gx
  subst this;have op:=okp ps[i] (zAh hi);have ep:ps.getD i []=ps[i]:=getD_get hi;rw[fM op.1]at eB;have sT:=Same.upd (o:=.tup [V.int i,V.ref tr]) nT;have kT:Same H (upd Hc T0 (.tup [V.int i,V.ref tr])):=λb o e=>sT _ _ (k _ _ e);have JI:=sT _ _ el;have JJ:=ht.same sT;have eT:=ao (H:=Hc) (a:=T0) (o:=.tup [V.int i,V.ref tr]);generalize upd Hc T0 (.tup [V.int i,V.ref tr])=H1 at kT JI JJ eT⊢;refine⟨T0,_,rfl,SqT.of eT,rfl,_,_,rfl,_,_,rfl,rfl,?_⟩;refine⟨_,rfl,tr,_,1,.int (fl ps[i] 1),rfl,rfl,SqT.of (kT _ _ eB),rfl,_,rfl,rfl,_,rfl,?_⟩;by_cases hs:fl ps[i] 1=sort
  .rw[zAw (by rw[hs])];refine bw (aG ?_);refine aU ?_;refine⟨_,rfl,_,rfl,_,rfl,_,rfl,ap,xp,ps,ai,xs,ss,i,year,rfl,rp.same kT,rs.same kT,z00,z00,by rw[zAi,ep];exact op,ls,cx,λhd H2 s2 e2=>?_⟩;rw[zAi,ep]at e2;have UH:=gK ps[i] ss i year;have OK:vh ps ss sort year i=(jg (cz ps[i] ss i year) 8).map (λr=>year::(i:Int)::r):=by unfold vh;rw[ep,zAz hs]
   generalize cz ps[i] ss i year=L at e2 UH OK;have k2:=kT.trans s2;have el2:=s2 _ _ JI;have UI:=JJ.same s2;refine aK ?_;dsimp only;refine⟨_,rfl,_,rfl,hd,_,rfl,SqL.of e2,jH 8 (λj ys σ Hj=>Same H2 Hj/\(∃o1 o2,σ=[o1,o2,some (.int year),some (.int i)])/\Els Hj ys ((jg L j).map (λr=>year::(i:Int)::r))) ⟨Same.refl _,⟨_,_,rfl⟩,Els.nil⟩ (by rw[sizeLine_eq];decide) ?_ ?_⟩
   .rintro j ys σ Hj hj hy⟨sc,⟨o1,o2,rfl⟩,wx⟩;have mw:SqL K Hj hd (L.map V.int):=SqL.of (sc _ _ e2);have CU:(L.map V.int)[j]?=some (.int (L.getD j 0)):=by have fk:j<L.length:=z00;rw[zAb,zA7,zA0 fk];rfl
    refine⟨⟨_,_,mw,CU⟩,λx H' yv R hR=>?_⟩;obtain⟨T1,CY,rfl,yv⟩:=yv;obtain⟨x',dQ,rfl⟩:=yv _ mw;rw[CU]at dQ;cases dQ;have rX:=sc.updR (o:=.tup [.int (j:Int),.int (L.getD j 0)]) CY;refine⟨T1,_,rfl,SqT.of ao,rfl,_,_,rfl,_,_,rfl,rfl,?_⟩;refine⟨_,rfl,_,_,rfl,rfl,_,rfl,?_⟩;by_cases bq:0<L.getD j 0;.rw[zAw bq];refine bw ⟨_,rfl,_,rfl,_,rfl,_,rfl,zL,λt iF=>hR _ _ _ (by rw[zA2];show ys.length+1<=j+1;lia) ⟨rX.updR iF,⟨_,_,rfl⟩,?_⟩⟩;rw[oR,zAz bq,zA4];exact((wx.same (Same.upd CY)).same (Same.upd iF)).app (Els.one ao)
    .rw[zB6 bq];refine bx (hR _ _ _ z00 ⟨rX,⟨_,_,rfl⟩,?_⟩);rw[oR,zAy bq,zAn];exact wx.same (Same.upd CY)
   .rintro ys σ Hj hy⟨sc,_,wx⟩;refine⟨⟨_,SqL.of (sc _ _ e2),by rw[zA1];lia⟩,λD hD=>?_⟩;have sD:=sc.updR (o:=.lst ys) hD;have nD:D≠l:=λz=>by rw[z,sc _ _ el2]at hD;cases hD
    have ll:=qM ps ss sort year i;have:=ht.1;refine⟨l,D,xl,ys,rfl,rfl,sD _ _ el2,ao,by rw[sizeLine_eq];lia,?_⟩;refine⟨_,_,_,xl++ys,rfl,λb o e=>?_,ao,?_⟩;.rw[aD (aH e hl)];exact sD _ _ (k2 _ _ e)
    .have e3:=(UI.same sD).app (wx.same (Same.upd (o:=.lst ys) hD));rw[<-OK]at e3;refine e3.keep λb z e=>?_;rw[aD λw=>by rw[w,sD _ _ el2]at e;cases e];exact e
  .rw[zB6 (λz=>hs (by injection z))];refine bx ?_;refine⟨_,_,_,xl,rfl,λb o e=>kT _ _ e,JI,?_⟩;have:rY ps ss sort year (i+1)=rY ps ss sort year i:=by show rY ps ss sort year i++vh ps ss sort year i=_;unfold vh;rw[ep,zAy hs,zAn]
   rw[this];exact JJ
 .rintro σ Hc⟨x5,x6,x7,xl,rfl,k,el,ht⟩;rw[show xp.length=ps.length from rp.l]at ht;exact⟨_,rfl,q l xl Hc (λb o e=>k b o e) hl el ht⟩
theorem sum_set:∀(L:WF)i a,i<L.length->(L.set i a).sum=L.sum-L.getD i 0+a|[],i,a,h=>by simp at h;|x::L,0,a,h=>by rw[List.set_cons_zero,Zag,Zag,List.getD_cons_zero];lia;|x::L,i+1,a,h=>by rw[List.set_cons_succ,Zag,Zag,List.getD_cons_succ,sum_set L i a (by simpa using h)];lia
theorem xM(h:i.toNat<L.length):(lu L i v).sum=L.sum+v:=by unfold lu;rw[sum_set _ _ _ h];lia
theorem o7:∀{L:WF},(∀x∈L,0<=x)->0<=L.sum/\∀x∈L,x<=L.sum
 |[],_=>⟨Za6 _,λx hx=>by cases hx⟩|y::L,h=>by
  obtain⟨h1,h2⟩:=o7 (L:=L) λx hx=>h x (.tail _ hx);have hy:=h y (.head _);rw[Zag];refine⟨z00,λx hx=>?_⟩;rcases zAo.mp hx with z|z;.lia
  .have:=h2 x z;lia
theorem Bb{L:WF}(h:∀x∈L,0<=x)(i:Nat):0<=L.getD i 0:=by rw[zA7];cases e:L[i]? with|none=>exact Za6 _;|some y=>exact h y (zB5 e)
theorem Bc(h:∀x∈L,0<=x)(hv:0<=L.getD i.toNat 0+v):∀x∈lu L i v,0<=x:=by
 intro x hx;unfold lu at hx;rcases List.mem_or_eq_of_mem_set hx with z|z;.exact h x z
 .rw[z];exact hv
theorem Gj(h:un ps ss=none):∀j,j<ss.length->eV ps (ss.take j) (ss.getD j [])=true:=λj hj=>by unfold un at h;have:=List.find?_eq_none.mp h j (Za3.mpr hj);simpa using this
theorem mJ(hu:un ps ss=none)(h5:∀s∈ss,s.length=5)(op:okP (ps.getD n [])):∀k,k<=ss.length->(∀x∈cz (ps.getD n []) (ss.take k) n y,0<=x)/\(cz (ps.getD n []) (ss.take k) n y).sum<=99:=by
 intro k;by_cases hy:fl (ps.getD n []) 2<=y/\y<=fl (ps.getD n []) 3
 .obtain⟨_,⟨a1,a2⟩,_,_,⟨e1,e2⟩,_⟩:=id op
  induction k with|zero=>
   intro _;rw[List.take_zero];unfold cz;rw[zAz hy];show(∀x∈base0 (ps.getD n []),0<=x)/\(base0 (ps.getD n [])).sum<=99;unfold base0;refine⟨λx hx=>?_,?_⟩
   .rcases List.mem_or_eq_of_mem_set hx with z|z;.rw[List.eq_of_mem_replicate z];exact Za6 _
    .lia
   .rw[sum_set _ _ _ (by rw[Za9];lia)];have:(List.replicate 8 (0:Int)).sum=0:=rfl;have e:(List.replicate 8 (0:Int)).getD (fl (ps.getD n []) 0).toNat 0=0:=by rw[zA7,List.getElem?_replicate,zAz z00];rfl
    rw[this,e];lia;|succ k ih=>
   intro hk;have fk:k<ss.length:=z00;obtain⟨i1,i2⟩:=ih z00;have hB:=Gj hu k fk;rw[getD_get fk]at hB;have hZ:ss.take (k+1)=ss.take k++[ss[k]]:=by rw[zAj,zA0 fk];rfl
   have eh:cz (ps.getD n []) (ss.take (k+1)) n y=hstep n y (cz (ps.getD n []) (ss.take k) n y) ss[k]:=by unfold cz;rw[zAz hy,zAz hy,hZ,List.foldl_append];rfl
   have UJ:=mR (h5 _ (zAh fk)) hB;obtain⟨_,⟨b1,b2⟩,c1,c2⟩:=UJ;have hl:=gK (ps.getD n []) (ss.take k) n y;rw[eh];unfold hstep;by_cases hc:fl ss[k] 0=n/\fl ss[k] 4<=y
   .rw[zAz hc];unfold eV at hB;rw[zAc]at hB;obtain⟨mn,nv⟩:=hB;have ep:qK ps ss[k]=ps.getD n []:=by unfold qK;rw[hc.1,zAi]
    have kD:fl ss[k] 3<=(cz (ps.getD n []) (ss.take k) n y).getD (fl ss[k] 1).toNat 0:=by
     have:=Zae.mp nv y (by
      unfold years;refine zA5.mpr ⟨(y-fl ss[k] 4).toNat,Za3.mpr ?_,?_⟩;.rw[ep];lia
      .lia);have:=zBd this;rw[ep,hc.1]at this;exact this
    unfold rT at mn;simp only[Bool.and_eq_true,z17,Bool.not_eq_true',decide_eq_false_iff_not]at mn;obtain⟨_,_,_,JO,⟨v1,v2⟩,_⟩:=mn;generalize cz (ps.getD n []) (ss.take k) n y=L at i1 i2 hl kD;have n1:=Bc (i:=fl ss[k] 1) (v:=-(fl ss[k] 3)) i1 z00;refine⟨Bc n1 ?_,?_⟩;.have:=Bb n1 (fl ss[k] 2).toNat;lia
    .rw[xM (by rw[jE];lia),xM z00];lia
   .rw[zAy hc];exact⟨i1,i2⟩
 .intro _;unfold cz;rw[zAy hy];refine⟨λx hx=>by rw[List.eq_of_mem_replicate hx];exact Za6 _,by decide⟩
def cU(ps:UV)(r:WF):Int:=fl (ps.getD (fl r 1).toNat []) 1
structure okO(ps:UV)(r:WF):Prop where
 l:r.length=4
 n0:0<=fl r 1
 n1:fl r 1<ps.length
 s0:1<=fl r 3
 s1:fl r 3<=99
 h0:0<=fl r 2
 h1:fl r 2<8
theorem Py(hu:un ps ss=none)(h5:∀s∈ss,s.length=5)(okp:∀r∈ps,okP r):∀k,k<=ps.length->∀r∈rY ps ss sort year k,okO ps r/\cU ps r=sort:=by intro k;induction k with|zero=>intro _ r hr;cases hr;|succ k ih=>
  intro hk r hr;rcases zA6.mp (show r∈rY ps ss sort year k++vh ps ss sort year k from hr)with z|z;.exact ih z00 r z
  .unfold vh at z;split at z
   .rename_i hs;obtain⟨q,hq,rfl⟩:=zA5.mp z;unfold jg at hq;obtain⟨h,hh,rfl⟩:=zA5.mp hq;have hp:=zBd (zAq.mp hh).2;have h8:=Za3.mp (zAq.mp hh).1;have fk:k<ps.length:=z00;obtain⟨a,b⟩:=mJ (n:=k) (y:=year) hu h5 (by rw[getD_get fk];exact okp _ (zAh fk)) ss.length (zA3 _);rw[zAm]at a b;have le:(cz (ps.getD k []) ss k year).getD h 0<=99:=by rw[zA7]at hp⊢;cases e:(cz (ps.getD k []) ss k year)[h]? with|none=>show(0:Int)<=99;decide;|some y=>have:=(o7 a).2 y (zB5 e);show y<=99;lia
    exact⟨⟨rfl,Zbi k,Int.ofNat_lt.mpr fk,hp,le,Zbi h,Int.ofNat_lt.mpr h8⟩,hs⟩
   .cases z
theorem oh(hu:un ps ss=none)(h5:∀s∈ss,s.length=5)(okp:∀r∈ps,okP r):∀r∈cW ps ss sort year,okO ps r/\cU ps r=sort:=Py hu h5 okp ps.length (zA3 _)
theorem jh(h:ps.length<=10):(cW ps ss sort year).length<=80:=by have:=qM ps ss sort year ps.length;unfold cW;lia
def bO(ps ow:UV)(sort:Int):UV:=ow.filter λr=>decide (cU ps r=sort)
theorem Gk{ps ow:UV}(h:∀r∈ow,okO ps r):∀r∈bO ps ow sort,okO ps r/\cU ps r=sort:=λr hr=>⟨h r (zAq.mp hr).1,zBd (zAq.mp hr).2⟩
theorem Di(ps ow:UV)(sort:Int):(bO ps ow sort).length<=ow.length:=List.length_filter_le _ _
theorem ou(ps a b:UV)(sort:Int):bO ps (a++b) sort=bO ps a sort++bO ps b sort:=List.filter_append ..
theorem oA{ps K:UV}(h:∀r∈K,cU ps r=s)(t:Int):bO ps K t=if t=s then K else[]:=by
 split;.rename_i e;exact List.filter_eq_self.mpr λr hr=>zAw (by rw[e];exact h r hr)
 .rename_i e;exact List.filter_eq_nil_iff.mpr λr hr z=>e (by rw[<-zBd z];exact h r hr)
theorem Be(h:vg q r)(o:okO ps q):okO ps r/\cU ps r=cU ps q:=by
 obtain⟨e,a,b⟩:=h;have e1:fl r 1=fl q 1:=by rw[e];rfl
 have e2:fl r 2=fl q 2:=by rw[e];rfl
 refine⟨⟨by rw[e];rfl,by rw[e1];exact o.n0,by rw[e1];exact o.n1,a,Int.le_trans b o.s1,by rw[e2];exact o.h0,by rw[e2];exact o.h1⟩,?_⟩;unfold cU;rw[e1]
def xD(c:WF)(ps ss:UV)(o:Nat->Int)(y:Int)(s:Nat):Int:=aY (cW ps ss s y)+o s-c.getD s 0
def dn(x:Nat->Int):Nat->Int|0=>0|n+1=>max 0 (dn x n-x n)
def oS(cs ps ss:UV):Nat->Nat->Int|0,_=>0|m+1,s=>max 0 (xD (cs.getD m []) ps ss (oS cs ps ss m) m s-dn (xD (cs.getD m []) ps ss (oS cs ps ss m) m) s)
theorem Pz(x:Nat->Int):∀n,0<=dn x n|0=>Za6 _|n+1=>by show 0<=max 0 _;lia
structure OwOk(cs ps ss:UV)(m:Nat)(K:UV):Prop where
 ok:∀r∈K,okO ps r
 sm:∀s:Nat,s<3->aY (bO ps K s)=oS cs ps ss m s
 len:K.length<=240*m
def aO(cs ps ss:UV)(m:Nat):Nat->Int|0=>0|n+1=>aO cs ps ss m n+oS cs ps ss m n
theorem oU:∀{ps K:UV},(∀r∈K,0<=cU ps r/\cU ps r<3)->aY K=aY (bO ps K (0:Nat))+aY (bO ps K (1:Nat))+aY (bO ps K (2:Nat))
 |_,[],_=>rfl|ps,r::K,h=>by
  have ih:=oU λq hq=>h q (.tail _ hq);have h0:=h r (.head _);have e:∀s:Nat,aY (bO ps (r::K) s)=aY (bO ps K s)+if cU ps r=s then fl r 3 else 0:=λs=>by
   have:r::K=[r]++K:=rfl;rw[this,ou,jU,oA (s:=cU ps r) (λq hq=>by rw[Zad.mp hq])];by_cases z:cU ps r=s;.rw[zAz z.symm,zAz z];show fl r 3+0+_=_;lia
   .rw[zAy λw=>z w.symm,zAy z];show 0+_=_;lia
  have es:aY (r::K)=fl r 3+aY K:=rfl;rw[e,e,e,es,ih];split<;>split<;>split<;>lia
def cap(ps ow:UV):Nat->Nat|0=>0|n+1=>cap ps ow n+(80+(bO ps ow n).length)
theorem Gm(ps ow:UV)(h:a<=b):cap ps ow a<=cap ps ow b:=by induction h with|refl=>exact zA3 _;|step _ ih=>exact Zaf ih (Nat.le_add_right ..)
theorem vm(ps:UV):∀ow,cap ps ow 3<=240+ow.length
 |[]=>zA3 _|r::ow=>by
  have ih:=vm ps ow;have e:∀s:Int,(bO ps (r::ow) s).length=(bO ps ow s).length+if cU ps r=s then 1 else 0:=λs=>by
   have:r::ow=[r]++ow:=rfl;rw[this,ou,zA2,oA (s:=cU ps r) (λq hq=>by rw[Zad.mp hq])];by_cases z:cU ps r=s;.rw[zAz z.symm,zAz z];exact Nat.add_comm ..
   .rw[zAy λw=>z w.symm,zAy z];exact Nat.zero_add _
  have c:∀ow:UV,cap ps ow 3=0+(80+(bO ps ow (0:Nat)).length)+(80+(bO ps ow (1:Nat)).length)+(80+(bO ps ow (2:Nat)).length):=λ_=>rfl;rw[c]at ih⊢;rw[e,e,e,zAe];split<;>split<;>split<;>lia
theorem okO.sort{ps:UV}(okp:∀r∈ps,okP r)(o:okO ps r):0<=cU ps r/\cU ps r<3:=by obtain⟨p,_,ep,op⟩:=gJ okp o.n0 o.n1;unfold cU;rw[ep];exact op.2.2.1
theorem OwOk.all{cs ps ss K:UV}(okp:∀r∈ps,okP r)(h:OwOk cs ps ss m K):aY K=aO cs ps ss m 3:=by rw[oU λr hr=>(h.ok r hr).sort okp,h.sm 0 z02,h.sm 1 z02,h.sm 2 z02];show _=0+oS cs ps ss m 0+oS cs ps ss m 1+oS cs ps ss m 2;rw[Zbg]
end K24
open K24P (boot_sorted)
namespace K24
open PySem L2
structure YI(ps:UV)(X:Nat->Int)(N:Nat->Nat)(i:Nat)(G K:UV)(L:WF):Prop where
 g:∀r∈G,okO ps r
 k:∀r∈K,okO ps r
 gl:G.length<=N i
 kl:K.length<=N i
 ll:L.length=i
 sm:∀s:Nat,aY (bO ps K s)=if s<i then max 0 (X s-dn X s)else 0
theorem YI.step(h:YI ps X N i G K L){cl:UV}(gI:∀r∈cl,okO ps r/\cU ps r=i)(hl:N i+cl.length<=N (i+1))(hX:X i=aY cl-(w-dn X i))(v:GvOk w cl G' K')(l:Int):YI ps X N (i+1) (G++G') (K++K') (L++[l])/\w-aY G'=dn X (i+1):=by
 have gk:∀r∈G',okO ps r:=λr hr=>by obtain⟨q,hq,p⟩:=v.gp r hr;exact(Be p (gI q hq).1).1
 have kk:∀r∈K',okO ps r/\cU ps r=i:=λr hr=>by obtain⟨q,hq,p⟩:=v.kp r hr;obtain⟨a,b⟩:=Be p (gI q hq).1;exact⟨a,b.trans (gI q hq).2⟩
 have h1:=v.gl;have h2:=v.kl;have h3:=h.gl;have h4:=h.kl;have es:aY K'=max 0 (X i-dn X i):=by rw[v.ks];lia
 refine⟨⟨λr hr=>(zA6.mp hr).elim (h.g r) (gk r),λr hr=>(zA6.mp hr).elim (h.k r) λz=>(kk r z).1,by rw[zA2];lia,by rw[zA2];lia,by rw[zA2,h.ll];rfl,λs=>?_⟩,?_⟩
 .rw[ou,jU,h.sm s,oA (λr hr=>(kk r hr).2)];by_cases z:s=i;.rw[zAy z00,zAz z00,zAz z00,es,z];lia
  .rw[zAy (show¬(s:Int)=i by lia)];show _+0=_;rw[Int.add_zero];by_cases y:s<i;.rw[zAz y,zAz z00]
   .rw[zAy y,zAy z00]
 .show _=max 0 (dn X i-X i);rw[v.gs];lia
theorem Mw{a b:WF}(h:a.Perm b):a.sum=b.sum:=by induction h with|nil=>rfl;|cons x _ ih=>rw[Zag,Zag,ih];|swap x y l=>rw[Zag,Zag,Zag,Zag];lia;|trans _ _ h1 h2=>exact h1.trans h2
theorem YI.perm(h:YI ps X N i G K L)(pg:G'.Perm G)(pk:K'.Perm K):YI ps X N i G' K' L:=⟨λr hr=>h.g r (pg.mem_iff.mp hr),λr hr=>h.k r (pk.mem_iff.mp hr),by rw[pg.length_eq];exact h.gl,by rw[pk.length_eq];exact h.kl,h.ll,λs=>by rw[<-h.sm s];exact Mw ((pk.filter _).map _)⟩
def vInt:V->Int|.int i=>i|_=>0
def qN(H:Hp)(a:Addr):WF:=match H a with|some (.tup xs)=>xs.map vInt|_=>[]
theorem JB(e:H a=some (.tup (r.map V.int))):qN H a=r:=by unfold qN;rw[e];show(r.map V.int).map vInt=r;rw[zAr];exact List.map_id _
theorem vq:∀{xs:List V}{rs:UV},Els H xs rs->∃ads:Qa9,xs=ads.map V.ref/\rs=ads.map (qN H)/\∀a∈ads,H a=some (.tup ((qN H a).map V.int))
 |[],[],_=>⟨[],rfl,rfl,λa ha=>(by cases ha)⟩|[],_::_,h=>by have:=h.1;simp at this;|_::_,[],h=>by have:=h.1;simp at this;|x::xs,r::rs,h=>by
  obtain⟨t,e1,e2⟩:=h.2 0 r rfl;rw[List.getElem?_cons_zero]at e1;cases e1;obtain⟨ads,f1,f2,f3⟩:=vq (xs:=xs) (rs:=rs) ⟨by have:=h.1;simpa using this,λi q e=>by obtain⟨u,g1,g2⟩:=h.2 (i+1) q (by rw[List.getElem?_cons_succ];exact e);rw[List.getElem?_cons_succ]at g1;exact⟨u,g1,g2⟩⟩;have er:=JB e2;refine⟨t::ads,by rw[f1];rfl,by rw[f2,zAk,er,<-f2],λa ha=>?_⟩;rcases zAo.mp ha with z|z;.rw[z,er];exact e2
  .exact f3 a z
theorem Gn{l':Qa9}(h:∀a∈l',H' a=some (.tup ((qN H a).map V.int))):Els H' (l'.map V.ref) (l'.map (qN H)):=by refine⟨by rw[zA1,zA1],λi r e=>?_⟩;rw[zAb]at e;cases z:l'[i]? with|none=>rw[z]at e;cases e;|some a=>rw[z]at e;cases e;exact⟨a,by rw[zAb,z];rfl,h a (zB5 z)⟩
inductive SpYearI(vs:List V)(H:Hp)(Q:VK):Prop|mk:∀bk y lo ac xc cs ap xp ps ai xs ss xo ow,(vs=[.ref bk,.int y,.ref lo])->(H bk=some (.tup [.ref ac,.ref ap,.ref ai]))->(RowsAt H ac xc cs)->((∀r∈cs,r.length=3/\∀x∈r,0<=x))->(0<=y)->(y<cs.length)->(RowsAt H ap xp ps)->(ps.length<=10)->((∀r∈ps,okP r))->(RowsAt H ai xs ss)->(ss.length<=12)->((∀s∈ss,s.length=5))->(un ps ss=none)->(H lo=some (.lst xo))->(Els H xo ow)->(OwOk cs ps ss y.toNat ow)->(ow.length<=24000)->(∀t g k tl xg xk G K L H',Same H H'->H' t=some (.tup [.ref g,.ref k,.ref tl])->H g=none->H k=none->(g≠sysModules/\k≠sysModules)->H' g=some (.lst xg)->Els H' xg G->(∀r∈G,okO ps r)->G.length<=240*(y.toNat+1)->H' k=some (.lst xk)->Els H' xk K->OwOk cs ps ss (y.toNat+1) K->L.length=3->H' tl=some (.tup ((L:WF).map V.int))->Q (.ref t) H')->SpYearI  vs H Q
def Gp:Sp:=λvs H Q _=>SpYearI  vs H Q
theorem vz(h:un ps ss=none)(h5:∀s∈ss,s.length=5):∀s∈ss,okS s:=λs hs=>by obtain⟨j,hj,e⟩:=Zaz hs;have:=Gj h j hj;rw[getD_get hj,e]at this;exact mR (h5 s hs) this
theorem gF{tb:TS}(R:Hp->Prop)(h:R H)(g:∀H,R H->tb D σ H):tb D σ H:=g H h
theorem ndZ:(["row","promises","sort"]:Qa7).Nodup:=by decide+kernel
theorem scZ1:FnScope ["book","year","owed","clips","promises","sales","gifts","lacking","left","down","sort","wool","claims","ahead","given","lacked"] ["book","year","owed"] (aC (top 59)):=fQS
theorem JC(F:Fun K "year_given" "year_given" (top 59) f fd)(T:Mg mg)(N:Nums mg)(Tr:mg "range"=none)(Ts:mg "sorted"=none)(c1:Cal P w K mg base 2 "claims_in" ["promises","sales","sort","year"] mW)(c2:Cal P w K mg base 8 "sort_given" ["wool","claims","owed"] Gg)(c3:Cal P w K mg base 1 "sacks_of" ["rows"] pJ):FnOk P w K mg base CX0 9 f fd ["book","year","owed"] Gp:=by
 refine F.oq scZ1 λaf A outer s H vs Q E hr h=>?_;obtain⟨bk,y,lo,ac,xc,cs,ap,xp,ps,ai,xs,ss,xo,ow,rfl,eb,rc,okc,y0,y1,rp,lp,okp,rs,ls,h5,hu,eo,pe,qa,UC,q⟩:=h;have OL:=qa.ok;obtain⟨t3,e3⟩:=N.sorts;refine K24P.ok_b (aR ⟨cO (pv 0) (bU rfl (az (pgn 3 scZ1.nd) (az (bC (i:=4) scZ1.nd rfl (Or.inr rfl)) (az (pgn 5 scZ1.nd) aX))))⟩ (aR (gW 6 scZ1.nd (eF bG)) (aR (gW 7 scZ1.nd (eF bG)) (aR (gW 8 scZ1.nd (eF bG)) (aR (gW 9 scZ1.nd iC) (aR ⟨cP zB8 rfl (bK rfl Tr (aq (bM (v:=.int 3) rfl e3 ⟨_,rfl⟩) aj)) (bC (i:=10) scZ1.nd rfl (Or.inr rfl)) (tQ (aR (gW 11 scZ1.nd (oN bI (qj bQ (qj bQ ⟨pv 3⟩ ⟨pv 1⟩ (λ_ _=>rfl)) ⟨pv 10⟩ (λ_ _=>rfl)) ⟨pv 9⟩)) (aR (gW 12 scZ1.nd ⟨aJ c1 hr (aq (pv 4) (aq (pv 5) (aq (pv 10) (aq (pv 1) aj))))⟩) (aR ⟨lM (i:=13) ["row","promises","sort"] [none,some 4,some 10] rfl scZ1.nd rfl (Or.inl rfl) (fG (pv 2)) (λC fp z06 s₂ H₂=>⟨pgn 0 ndZ,lJ (bz iJ (pX (K24P.ix_tupK (K:=K) rfl) (pX (K24P.ix_tupK (K:=K) rfl) (pv 1) (pX (K24P.ix_tupK (K:=K) rfl) (pv 0) aB)) aB) (pv 2) (bu _)),pv 0⟩) (λC=>cI (cI trivial)) ⟨rfl,rfl,rfl,rfl⟩⟩ (aR ⟨cO (aJ c2 hr (aq (pv 11) (aq (pv 12) (aq (pv 13) aj)))) (bU rfl (az (pgn 14 scZ1.nd) (az (pgn 15 scZ1.nd) aX)))⟩ (aR (gW 9 scZ1.nd (oN fU ⟨pv 11⟩ ⟨aJ c3 hr (aq (pv 14) aj)⟩)) (aR ⟨jW (i:=6) scZ1.nd rfl (Or.inl rfl) (pv 14) nP⟩ (aR ⟨jW (i:=7) scZ1.nd rfl (Or.inl rfl) (pv 15) nP⟩ (dN ⟨bf (eZ zB4 zBa zB9 cA (pv 8) (aq (pv 9) aj))⟩)))))))))⟩ (dN (jy (gP (aZ ⟨aM iD rfl Ts boot_sorted (aq (pv 6) aj)⟩ (aZ ⟨aM iD rfl Ts boot_sorted (aq (pv 7) aj)⟩ (aZ ⟨dH cZ rfl T.tuple boot_tuple (aq (pv 8) aj)⟩ bG)))))))))))) ?_;refine aG ?_;refine⟨_,rfl,bk,_,rfl,SqT.of eb,rfl,_,_,rfl,_,_,rfl,_,_,rfl,rfl,?_⟩;dsimp only;refine aG (aU ?_);refine⟨zL,λlg JU=>?_⟩;refine aK ?_;dsimp only;refine aG (aU ?_);refine⟨zL,λlk w9=>?_⟩;refine aK ?_;dsimp only;refine aG (aU ?_);refine⟨zL,λll kR=>?_⟩;refine aK ?_;dsimp only;refine aG (aU ?_);refine aK ?_;dsimp only;have s1:=Same.upd (o:=.lst []) JU;have s2:=Same.upd (o:=.lst []) w9;have s3:=Same.upd (o:=.lst []) kR;have UK:H lg=none:=JU;have UL:H lk=none:=s1.free w9;have JY:H ll=none:=(s1.trans s2).free kR;have OM:lg≠lk:=λz=>by rw[<-z,ao]at w9;cases w9
 have ON:lk≠ll:=λz=>by rw[<-z,ao]at kR;cases kR
 have OO:lg≠ll:=λz=>by rw[<-z,s2 _ _ ao]at kR;cases kR
 refine gF (λH1=>Same H H1/\H1 lg=some (.lst [])/\H1 lk=some (.lst [])/\H1 ll=some (.lst [])) ⟨(s1.trans s2).trans s3,s3 _ _ (s2 _ _ ao),s3 _ _ ao,ao⟩ λH1=>?_;rintro⟨k1,BG,UM,el1⟩;clear s1 s2 s3 JU w9 kR;obtain⟨m,rfl⟩:∃m:Nat,y=m:=⟨y.toNat,z00⟩;rw[zAi]at qa q;have Kb:m<cs.length:=z00;obtain⟨tc,Dx,OP⟩:=ir rc y0 (show cs[m]?=some cs[m]from zA0 Kb);have UN:cs.getD m []=cs[m]:=getD_get Kb;have DA:=okc _ (zAh Kb);have q:∀t g k tl xg xk G K L H',Same H H'->H' t=some (.tup [.ref g,.ref k,.ref tl])->H g=none->H k=none->(g≠sysModules/\k≠sysModules)->H' g=some (.lst xg)->Els H' xg G->H' k=some (.lst xk)->Els H' xk K->YI ps (xD cs[m] ps ss (oS cs ps ss m) m) (cap ps ow) 3 G K L->H' tl=some (.tup ((L:WF).map V.int))->Q (.ref t) H':=λt g k tl xg xk G K L H' a b c d e f u v w z x=>q t g k tl xg xk G K L H' a b c d e f u z.g (by have:=z.gl;have:=vm ps ow;have:=qa.len;lia) v w ⟨z.k,λs hs=>by rw[z.sm s,zAz hs];show _=max 0 (xD (cs.getD m []) ps ss (oS cs ps ss m) m s-_);rw[UN],by have:=z.kl;have:=vm ps ow;have:=qa.len;lia⟩ z.ll x;have hX:∀s:Nat,s<3->xD cs[m] ps ss (oS cs ps ss m) m s=aY (cW ps ss s m++bO ps ow s)-cs[m].getD s 0:=λs hs=>by rw[jU,qa.sm s hs];rfl
 generalize xD cs[m] ps ss (oS cs ps ss m) m=X at q hX;generalize cs[m]=c at q OP DA hX;have cx:=vz hu h5;refine aG ?_;refine⟨3,rfl,by decide,by decide,?_⟩;refine d9 (lo:=0) (λi σ Hc=>∃Ki rj rl rq rL rS xg xk G K L,σ=[some (.ref bk),some (.int m),some (.ref lo),some (.ref ac),some (.ref ap),some (.ref ai),some (.ref lg),some (.ref lk),some (.ref ll),some (.int (dn X i)),Ki,rj,rl,rq,rL,rS]/\Same H Hc/\Hc lg=some (.lst xg)/\Els Hc xg G/\Hc lk=some (.lst xk)/\Els Hc xk K/\Hc ll=some (.lst (L.map V.int))/\YI ps X (cap ps ow) i G K L) ?_ ?_ ?_;.exact⟨none,none,none,none,none,none,[],[],[],[],[],rfl,k1,BG,Els.nil,UM,Els.nil,el1,⟨λ_ h=>(nomatch h),λ_ h=>(nomatch h),zAp _,zAp _,rfl,λs=>rfl⟩⟩
 .rintro i σ Hc hi⟨Ki,rj,rl,rq,rL,rS,xg,xk,G,KK,L,rfl,k,eg,pT,ek,ij,el,yi⟩;have hi:i<3:=hi;refine aK ?_;have z0:(0:Int)+(i:Int)=i:=z00;rw[z0];refine Pg λDe OQ=>?_;have UO:(c.map V.int)[i]?=some (.int (c.getD i 0)):=by have fk:i<c.length:=z00;rw[zAb,zA7,zA0 fk];rfl
  refine aG (aU ?_);refine⟨_,rfl,_,rfl,ac,xc,m,.ref tc,rfl,rfl,SqT.of (k _ _ rc.e),Dx,_,rfl,tc,_,i,.int (c.getD i 0),rfl,rfl,SqT.of (k _ _ OP),d7 UO,_,rfl,_,_,rfl,rfl,?_⟩;refine aK ?_;dsimp only;have Z9:=Pz X i;have cn:=Bb DA.2 i;refine aG (aU ?_);refine⟨_,rfl,_,rfl,_,rfl,_,rfl,ap,xp,ps,ai,xs,ss,i,m,rfl,rp.same k,lp,okp,rs.same k,ls,cx,λlc UP H2 s2 nlc CI Kj=>?_⟩;refine aK ?_;dsimp only;have k2:=k.trans s2;refine aG ?_;refine⟨_,rfl,lo,rfl,⟨_,SqL.of (k2 _ _ eo)⟩,jH ow.length (λj ys σ Hj=>Same H2 Hj/\(∃o1,σ=[o1,some (.ref ap),some (.int i)])/\Els Hj ys (bO ps (ow.take j) i)) ⟨Same.refl _,⟨_,rfl⟩,Els.nil⟩ z05 ?_ ?_⟩
  .rintro j ys σ Hj hj hy⟨sc,⟨o1,rfl⟩,wx⟩;have kj:=k2.trans sc;have mw:SqL K Hj lo xo:=SqL.of (kj _ _ eo);obtain⟨tr,ex,eB⟩:=pe.2 j ow[j] (zA0 hj);have oj:=OL _ (zAh hj);have o4:=oj.l;have o5:=oj.n0;have Kk:=eB;rw[gA o4]at eB;obtain⟨p,hp,ep,op⟩:=gJ okp o5 oj.n1;obtain⟨tp,dv,fI⟩:=ir rp o5 hp;rw[fM op.1]at fI;have hZ:bO ps (ow.take (j+1)) i=bO ps (ow.take j) i++(if fl p 1=i then[ow[j]]else[]):=by
    rw[zAj,zA0 hj];unfold bO cU;rw[show(some ow[j]).toList=[ow[j]]from rfl,List.filter_append];congr 1;by_cases h:fl p 1=i;.rw[zAz h,zBg (by rw[ep];exact zAw h)];rfl
    .rw[zAy h,zBf (by rw[ep,z17];exact h)];rfl
   refine⟨⟨_,_,mw,ex⟩,λx H' yv R hR=>?_⟩;obtain⟨rfl,yv⟩:=yv;have yv:=yv _ mw;rw[ex]at yv;cases yv;refine aK ?_;refine⟨_,rfl,_,rfl,tr,_,1,.int (fl ow[j] 1),rfl,rfl,SqT.of (kj _ _ eB),rfl,ap,xp,_,.ref tp,rfl,rfl,SqT.of (kj _ _ rp.e),dv,tp,_,1,.int (fl p 1),rfl,rfl,SqT.of (kj _ _ fI),rfl,_,rfl,rfl,_,rfl,?_⟩;by_cases h:fl p 1=i;.rw[zAw (by rw[h])];refine bw ⟨_,rfl,hR _ _ _ (by rw[zA2];show ys.length+1<=j+1;lia) ⟨sc,⟨_,rfl⟩,?_⟩⟩;rw[hZ,zAz h];exact wx.app (Els.one (kj _ _ Kk))
   .rw[zB6 (λz=>h (by injection z))];refine bx (hR _ _ _ z00 ⟨sc,⟨_,rfl⟩,?_⟩);rw[hZ,zAy h,zAn];exact wx
  rintro ya σ Hj hy⟨sc,_,rV⟩;rw[zAm]at rV;refine⟨⟨_,SqL.of (sc _ _ (k2 _ _ eo)),by rw[pe.1];exact zA3 _⟩,λla zd=>?_⟩;have sa:=sc.updR (o:=.lst ya) zd;have OR:=ao (H:=Hj) (a:=la) (o:=.lst ya);have rV:=rV.same (Same.upd (o:=.lst ya) zd);generalize upd Hj la (.lst ya)=H3 at sa OR rV⊢;have k3:=k2.trans sa;have sH:=s2.trans sa;dsimp only;have gI:=oh (sort:=i) (year:=m) hu h5 okp;have CF:=jh (ss:=ss) (sort:=i) (year:=m) lp;have E9:=Gk (sort:=i) OL;have vT:=Di ps ow i;refine aG ?_;refine⟨_,rfl,_,rfl,_,rfl,c.getD i 0+dn X i,lc,UP,cW ps ss i m,la,ya,bO ps ow i,rfl,sa _ _ CI,Kj.same sa,λr hr=>⟨(gI r hr).1.l,(gI r hr).1.s0,(gI r hr).1.s1⟩,CF,z00,OR,rV,λr hr=>⟨(E9 r hr).1.l,Int.le_trans z02 (E9 r hr).1.s0⟩,z00,λt g kk mE qf GG K' H4 s4 gv et ng nk OS xb UQ DB=>⟨t,_,rfl,SqT.of et,rfl,_,_,rfl,_,_,rfl,rfl,?_⟩⟩;have k4:=k3.trans s4;have UR:=sH.trans s4;obtain⟨Fc,ed⟩:=yi.step (λr hr=>(zA6.mp hr).elim (gI r) (E9 r)) (by show _<=cap ps ow i+(80+_);rw[zA2];lia) (by rw[hX i hi];lia) gv (c.getD i 0+dn X i-aY GG);have l3:=Zaf (Gm ps ow (show i+1<=3 from hi)) (vm ps ow);have gl:=Zaf Fc.gl l3;have kl:=Zaf Fc.kl l3;have g4:∀r∈GG,r.length=4:=λr hr=>(Fc.g r (zB2 _ hr)).l;rw[zA2]at gl kl;rw[<-ed]at OQ;have yl:=yi.ll;clear gv yi E9 gI;dsimp only;refine aG (aU ?_);refine⟨_,rfl,_,rfl,g,mE,GG,rfl,OS,xb,g4,z00,λH5 s5=>⟨_,_,rfl,rfl,?_⟩⟩;refine aK ?_;dsimp only;have k5:=k4.trans s5;have DC:=UR.trans s5;have ngl:g≠lg:=(aH (sH _ _ eg) ng).symm;have US:kk≠lg:=(aH (sH _ _ eg) nk).symm;have OT:=DC _ _ eg;have UT:=DC _ _ ek;have el5:=DC _ _ el;refine aG ?_;refine⟨_,rfl,_,rfl,lg,g,xg,mE,rfl,rfl,OT,s5 _ _ OS,by rw[pT.1,xb.1,sizeLine_eq];lia,?_⟩;dsimp only;have Kn:∀b z,H5 b=some (.tup z)->upd H5 lg (.lst (xg++mE)) b=some (.tup z):=λb z e=>by rw[aD λw=>by rw[w,OT]at e;cases e];exact e
  have k6:Same H (upd H5 lg (.lst (xg++mE))):=λb o e=>by rw[aD (aH e UK)];exact k5 _ _ e
  have OU:=ao (H:=H5) (a:=lg) (o:=.lst (xg++mE));have DD:=((pT.same DC).app (xb.same s5)).keep Kn;have Kt:upd H5 lg (.lst (xg++mE)) lk=some (.lst xk):=by rw[aD OM.symm];exact UT
  have DE:upd H5 lg (.lst (xg++mE)) kk=some (.lst qf):=by rw[aD US];exact s5 _ _ UQ
  have OV:upd H5 lg (.lst (xg++mE)) ll=some (.lst (L.map V.int)):=by rw[aD OO.symm];exact el5
  have DF:=(ij.same DC).keep Kn;have se:=(DB.same s5).keep Kn;generalize upd H5 lg (.lst (xg++mE))=H6 at k6 OU DD Kt DE OV DF se⊢;refine aG ?_;refine⟨_,rfl,_,rfl,lk,kk,xk,qf,rfl,rfl,Kt,DE,by rw[ij.1,DB.1,sizeLine_eq];lia,?_⟩;dsimp only;have OW:∀b z,H6 b=some (.tup z)->upd H6 lk (.lst (xk++qf)) b=some (.tup z):=λb z e=>by rw[aD λw=>by rw[w,Kt]at e;cases e];exact e
  have k7:Same H (upd H6 lk (.lst (xk++qf))):=λb o e=>by rw[aD (aH e UL)];exact k6 _ _ e
  have OX:upd H6 lk (.lst (xk++qf)) lg=some (.lst (xg++mE)):=by rw[aD OM];exact OU
  have DH:=DD.keep OW;have OY:=ao (H:=H6) (a:=lk) (o:=.lst (xk++qf));have DI:=(DF.app se).keep OW;have zk:upd H6 lk (.lst (xk++qf)) ll=some (.lst (L.map V.int)):=by rw[aD ON.symm];exact OV
  generalize upd H6 lk (.lst (xk++qf))=H7 at k7 OX DH OY DI zk⊢;refine⟨_,rfl,.inl ⟨rfl,_,SqL.of zk⟩,_,rfl,ll,_,_,rfl,rfl,zk,by rw[zA1,yl,sizeLine_eq];lia,?_⟩;have OZ:∀{o:HO}b z,H7 b=some (.tup z)->upd H7 ll o b=some (.tup z):=λb z e=>by rw[aD λw=>by rw[w,zk]at e;cases e];exact e
  refine OQ _ _ ⟨_,_,_,_,_,_,xg++mE,xk++qf,_,_,_,rfl,λb o e=>?_,?_,DH.keep OZ,?_,DI.keep OZ,?_,Fc⟩;.rw[aD (aH e JY)];exact k7 _ _ e
  .rw[aD OO];exact OX
  .rw[aD ON];exact OY
  .rw[ao,zA4];rfl
 .rintro σ Hc⟨Ki,rj,rl,rq,rL,rS,xg,xk,G,KK,L,rfl,k,eg,pT,ek,ij,el,yi⟩;obtain⟨ag,UU,O0,Pc⟩:=vq pT;obtain⟨ak,UW,HC,Pd⟩:=vq ij;subst UU UW;dsimp only;have nn:∀{rs:UV}{ads:Qa9},rs=ads.map (qN Hc)->(∀r∈rs,okO ps r)->∀a∈ads,qN Hc a≠[]:=λ{rs ads}h h4 a ha z=>by have:=(h4 (qN Hc a) (by rw[h];exact List.mem_map_of_mem ha)).l;rw[z]at this;cases this
  refine⟨_,rfl,lg,ag,qN Hc,rfl,SqL.of eg,λa ha=>⟨SqT.of (Pc a ha),nn O0 yi.g a ha⟩,λg l1 hg Kx KA=>?_⟩;have sg:=Same.upd (o:=.lst (l1.map V.ref)) hg;refine⟨_,rfl,lk,ak,qN Hc,rfl,SqL.of (sg _ _ ek),λa ha=>⟨SqT.of (sg _ _ (Pd a ha)),nn HC yi.k a ha⟩,λkk l2 hk Pe Pf=>?_⟩;have sk:=sg.updR (o:=.lst (l2.map V.ref)) hk;refine⟨_,rfl,ll,_,rfl,.inl ⟨SqL.of (sk _ _ el),λtl Pl=>?_⟩⟩;have sl:=sk.updR (o:=.tup (L.map V.int)) Pl;refine⟨zL,λt ht=>?_⟩;have st:=sl.updR (o:=.tup [.ref g,.ref kk,.ref tl]) ht;have u1:=Same.upd (o:=.lst (l2.map V.ref)) hk;have u2:=Same.upd (o:=.tup (L.map V.int)) Pl;have u3:=Same.upd (o:=.tup [.ref g,.ref kk,.ref tl]) ht;refine q t g kk tl _ _ _ _ _ _ (k.trans st) ao (k.free hg) (k.free (sg.free hk)) ⟨Kx,Pe⟩ (u3 _ _ (u2 _ _ (u1 _ _ ao))) (Gn λa ha=>st _ _ (Pc a (KA.mem_iff.mp ha))) (u3 _ _ (u2 _ _ ao)) (Gn λa ha=>st _ _ (Pd a (Pf.mem_iff.mp ha))) (yi.perm ?_ ?_) (u3 _ _ ao);.rw[O0];exact KA.map _
  .rw[HC];exact Pf.map _
end K24
open K24P (ok_b)
namespace K24
open PySem L2
def iZ(P:Program)(w:World)(K:Frag)(mg:Qa0)(base:Heap)(k:Nat)(x:Str)(ps:Qa7)(sp:Sp):Prop:=∃f fd,FnOk P w K mg base (CX1 P w) k f fd ps sp/\mg x=some (.ref f)/\PySem.W.keepIn K (.ref f)=true/\Binds K fd ps []
theorem cQ{p pos:Pos}(c:iZ X.prog X.w X.K X.mg X.base j x ps sp)(hr:Room k X.A)(hjk:j<=k)(hg:Gl X x)(W:wO X λa C H=>E (.ref a) (some C) H)(hx:X.ex=[])(ha:PA X (e::es) t)(fE:Qad x:=by decide)(he:Qab X e es:=by rfl)(fx:Qac X pos es:=by rfl):PE X (.Call (.Name x p) (e::es) [] pos) (vM sp [] E t):=by obtain⟨f,fd,F,m,k',b⟩:=c;exact zr F (hr.mono hjk) hg m k' b .nil (Kp W hx) ha fE he fx
abbrev VE:Qa4:=[.type "ValueError",.type "Exception",.type "BaseException",.type "object"]
def words:Qa7:=["clips","promises","sales","book","number","year","weights","paper","growth","promise","sort","clip","sale","deed","text","line"]
theorem cX(h:te σ H λx H1=>tr σ H1 λxs H2=>Q (x::xs) H2):dU te tr σ H Q:=h
theorem xN:PE X e (λ_ _ _=>False):=λ_ _ _ _ _ _ h=>h.elim
structure BT(X:Cx)(e:Expr)(t:TT):Prop where run:PT X e t
section
theorem Gq{j}(hl:BE X (.Name y q') tl)(hline:(p.endLine==pos.line)=true:=by rfl):BE X (.Call (.Attribute (.Name y q') "count" p) [.Constant (.bool k) j q] [] pos) (tBM X.K "list" Ag tl (dU (tC (.bl k)) nA)):=⟨eZ zB4 PySem.F.slot_list_count PySem.F.type_list_count CK hl.run (aq gj aj) (hline:=hline)⟩
theorem Gr{j}(hl:BE X (.Name y q') tl)(hline:(p.endLine==pos.line)=true:=by rfl):BE X (.Call (.Attribute (.Name y q') "index" p) [.Constant (.bool k) j q] [] pos) (tBM X.K "list" Ah tl (dU (tC (.bl k)) nA)):=⟨eZ zB4 PySem.F.slot_list_index PySem.F.type_list_index CN hl.run (aq gj aj) (hline:=hline)⟩
theorem Mx(hc:BT X c t)(ha:BE X a ta)(hb:BE X b tb):BE X (.IfExp c a b pos) (tIf t ta tb):=⟨pN hc.run ha.run hb.run⟩
theorem My(h:BE X (.Subscript a b p) ta):BT X (.Subscript a b p) (tB ta):=⟨bY h.run⟩
theorem Bf{es ks}(h:BE X (.Call a es ks p) ta):BT X (.Call a es ks p) (tB ta):=⟨bY h.run⟩
theorem Gs(h:BT X a t):BT X (.UnaryOp .Not a pos) (Nr t):=⟨bH h.run⟩
theorem Mz(ha:BT X a t)(hb:BT X b u):BT X (.BoolOp .Or [a,b] pos) (tOr t u):=⟨PW.pt (gG ha.run (gC hb.run))⟩
theorem PB{j}(ha:BE X a ta):BT X (.Compare a [.NotEq] [.Constant (.int i) j q] pos) (sJ (tOp rNe ta (tC (.int i)))):=⟨bz sI ha.run aB (bu _)⟩
theorem Gu(hc:BT X c t)(hx:BSs X x v)(hy:BSs X y z):BS X (.If c x y pos) (Nv t v z):=⟨bV hc.run hx.run hy.run⟩
theorem vA:BSs X [] Dy:=⟨bh⟩
end
structure Clss(mg:Qa0)(Cs:Nat->Addr):Prop where n0:mg "NoClips"=some (.ref (Cs 0))n1:mg "NoPromises"=some (.ref (Cs 1))n2:mg "NoSales"=some (.ref (Cs 2))n3:mg "NoBook"=some (.ref (Cs 3))n4:mg "NoNumber"=some (.ref (Cs 4))n5:mg "NoYear"=some (.ref (Cs 5))n6:mg "NoWeights"=some (.ref (Cs 6))n7:mg "NoPaper"=some (.ref (Cs 7))n8:mg "NoGrowth"=some (.ref (Cs 8))n9:mg "NoPromise"=some (.ref (Cs 9))n10:mg "NoSort"=some (.ref (Cs 10))n11:mg "NoClip"=some (.ref (Cs 11))n12:mg "NoSale"=some (.ref (Cs 12))n13:mg "NoDeed"=some (.ref (Cs 13))n14:mg "NoText"=some (.ref (Cs 14))n15:mg "NoLine"=some (.ref (Cs 15))n16:mg "TooMany"=some (.ref (Cs 16))wool:mg "WoolError"=some (.ref (Cs 17))
structure Kind(K:Frag)(Cs:Nat->Addr)(j:Nat):Prop where
 lt:j<16
 ex:ExcC K (Cs j)ca:CatchC K (Cs j) (Cs 17)on:∀i,i<17->PySem.W.kitOne K (.ref (Cs j)) (.ref (Cs i))=some (decide (i=j))ve:PySem.W.kitOne K (.ref (Cs j)) (.type "ValueError")=some true
inductive SpKindI(K:Frag)(Cs:Nat->Addr)(vs:List V)(H:Hp)(Q:VK):Prop|mk:∀a j,(vs=[.ref a])->(H a=some (.ext (excAt a (Cs j))))->(Kind K Cs j)->(∀p H',Same H H'->H' p=some (.tup [.str (words.getD j "")])->Q (.ref p) H')->SpKindI K Cs vs H Q
def Gv(K:Frag)(Cs:Nat->Addr):Sp:=λvs H Q _=>SpKindI K Cs vs H Q
def marks(j:Nat):List Bool:=(List.range 17).map λi=>decide (i=j)
theorem xO:∀j,j<17->(marks j).count true=1:=by decide+kernel
theorem Gw(h:j<17):(marks j)[j]?=some true:=by unfold marks;rw[zAb,Zat h];simp
theorem Gx(h:i<j):(marks j)[i]?≠some true:=by
 unfold marks;rw[zAb];by_cases hi:i<17;.rw[Zat hi];simp;lia
 .rw[Za1 (by simp;lia)];simp
theorem JD:bootBuiltins "ValueError"=some (.type "ValueError"):=by decide+kernel
theorem Gy{j:Nat}(h:j<16):atI (words.map V.str) (j:Int)=some (.str (words.getD j "")):=by
 have hl:words.length=16:=rfl;have:words[j]?=some (words.getD j ""):=by rw[zA7,zA0 z00];rfl
 refine d7 ?_;rw[zAb,this];rfl
theorem dI{p q r pos:Pos}(hN:X.N[i]?=some y)(hv:Vis X.env.scope y)(hI:Gl X "isinstance")(mI:X.mg "isinstance"=none)(hg:Gl X x)(hm:X.mg x=some (.ref D))(hd:(y==("__debug__":Str))=false:=by decide)(ff:(y==("__classdict__":Str))=false:=by decide)(hd2:Qad x:=by decide):BE X (.Call (.Name "isinstance" p) [.Name y q,.Name x r] [] pos) (tCB (λxs H Q=>∃a C c b,xs=[.ref a,c]/\H a=some (.ext (excAt a C))/\ExcC X.K C/\((∃D,c=.ref D/\PySem.W.kitOne X.K (.ref C) (.ref D)=some b)\/∃n,c=.ty n/\PySem.W.kitOne X.K (.ref C) (.type n)=some b)/\Q (.bl b) H) (dU (oX i) (dU (tC (.ref D)) nA))):=⟨aM mG hI mI boot_isinstance (aq (ye hN hv hd ff) (aq (bM (v:=.ref D) hg hm rfl hd2) aj))⟩
theorem dJ(Z:Kind K Cs j)(hi:i<17)(e:H a=some (.ext (excAt a (Cs j))))(gE:σ[0]?=some (some (.ref a)))(h:Q (.bl (decide (i=j))) H):tCB (λxs H Q=>∃a C c b,xs=[.ref a,c]/\H a=some (.ext (excAt a C))/\ExcC K C/\((∃D,c=.ref D/\PySem.W.kitOne K (.ref C) (.ref D)=some b)\/∃n,c=.ty n/\PySem.W.kitOne K (.ref C) (.type n)=some b)/\Q (.bl b) H) (dU (oX 0) (dU (tC (.ref (Cs i))) nA)) σ H Q:=⟨_,gE,a,Cs j,.ref (Cs i),_,rfl,e,Z.ex,.inl ⟨_,rfl,Z.on i hi⟩,h⟩
theorem sc43:FnScope ["_law_e","_law_names","_law_kinds"] ["_law_e"] (aC (top 95)):=fQS
theorem JF(F:Fun K "_law_kind" "_law_kind" (top 95) f fd)(T:Mg mg)(Tv:mg "ValueError"=none)(L:Clss mg Cs):FnOkU P w K mg base CX0 1 f fd ["_law_e"] (Gv K Cs):=by refine F.oqU sc43 λaf A outer s H vs Q E hr h=>?_;obtain⟨a,j,rfl,ea,Z,q⟩:=h;refine ok_b (aR (gW 1 sc43.nd (eF (aZ cR (aZ cR (aZ cR (aZ cR (aZ cR (aZ cR (aZ cR (aZ cR (aZ cR (aZ cR (aZ cR bG))))))))))))) (aR (gW 1 sc43.nd (oN jX ⟨pv 1⟩ (eF (aZ cR (aZ cR (aZ cR (aZ cR (aZ cR bG)))))))) (aR (gW 2 sc43.nd (eF (aZ (dI (i:=0) rfl (Or.inl rfl) rfl T.isinstance rfl L.n0) (aZ (dI (i:=0) rfl (Or.inl rfl) rfl T.isinstance rfl L.n1) (aZ (dI (i:=0) rfl (Or.inl rfl) rfl T.isinstance rfl L.n2) (aZ (dI (i:=0) rfl (Or.inl rfl) rfl T.isinstance rfl L.n3) bG)))))) (aR (gW 2 sc43.nd (oN jX ⟨pv 2⟩ (eF (aZ (dI (i:=0) rfl (Or.inl rfl) rfl T.isinstance rfl L.n4) (aZ (dI (i:=0) rfl (Or.inl rfl) rfl T.isinstance rfl L.n5) (aZ (dI (i:=0) rfl (Or.inl rfl) rfl T.isinstance rfl L.n6) bG)))))) (aR (gW 2 sc43.nd (oN jX ⟨pv 2⟩ (eF (aZ (dI (i:=0) rfl (Or.inl rfl) rfl T.isinstance rfl L.n7) (aZ (dI (i:=0) rfl (Or.inl rfl) rfl T.isinstance rfl L.n8) (aZ (dI (i:=0) rfl (Or.inl rfl) rfl T.isinstance rfl L.n9) bG)))))) (aR (gW 2 sc43.nd (oN jX ⟨pv 2⟩ (eF (aZ (dI (i:=0) rfl (Or.inl rfl) rfl T.isinstance rfl L.n10) (aZ (dI (i:=0) rfl (Or.inl rfl) rfl T.isinstance rfl L.n11) (aZ (dI (i:=0) rfl (Or.inl rfl) rfl T.isinstance rfl L.n12) (aZ (dI (i:=0) rfl (Or.inl rfl) rfl T.isinstance rfl L.n13) bG))))))) (aR (gW 2 sc43.nd (oN jX ⟨pv 2⟩ (eF (aZ (dI (i:=0) rfl (Or.inl rfl) rfl T.isinstance rfl L.n14) (aZ (dI (i:=0) rfl (Or.inl rfl) rfl T.isinstance rfl L.n15) (aZ (dI (i:=0) rfl (Or.inl rfl) rfl T.isinstance rfl L.n16) bG)))))) (aR (Gu (Mz (PB (Gq ⟨pv 2⟩)) (Gs (Bf ⟨aM mG rfl T.isinstance boot_isinstance (aq (pv 0) (aq (dB rfl Tv JD (v:=.ty "ValueError") rfl) aj))⟩))) (dN (jy (gP (aZ cR bG)))) vA) (dN (jy (Mx (My (qj bF ⟨pv 2⟩ iC (λ_ _=>rfl))) ⟨xN⟩ (gP (aZ (qj bF ⟨pv 1⟩ (Gr ⟨pv 2⟩) (λ_ _=>rfl)) bG))))))))))))) ?_;refine aG ?_;refine⟨by decide,λp1 nB=>?_⟩;refine aK ?_;dsimp only;refine gF (λH1=>Same H H1/\H1 p1=some (.lst [.str "clips",.str "promises",.str "sales",.str "book",.str "number",.str "year",.str "weights",.str "paper",.str "growth",.str "promise",.str "sort"])) ⟨Same.upd nB,ao⟩ λH1=>?_;rintro⟨s1,e1⟩;refine aG ?_;refine⟨_,rfl,by decide,λp2 kg=>⟨p1,p2,_,_,rfl,rfl,Same.upd kg _ _ e1,ao,by decide,λl2 fF=>?_⟩⟩;refine aK ?_;dsimp only;refine gF (λH2=>Same H H2/\H2 l2=some (.lst (words.map V.str))) ⟨(s1.updR kg).updR fF,ao⟩ λH2=>?_;rintro⟨s2,e2⟩;have oQ:=s2 _ _ ea;refine aG (aU ?_);refine jB (cX ?_);refine dJ (i:=0) Z z02 oQ rfl ?_;refine cX ?_;refine dJ (i:=1) Z z02 oQ rfl ?_;refine cX ?_;refine dJ (i:=2) Z z02 oQ rfl ?_;refine cX ?_;refine dJ (i:=3) Z z02 oQ rfl ?_;refine⟨zL,λp3 ja=>?_⟩;refine aK ?_;dsimp only;refine gF (λH3=>Same H H3/\H3 l2=some (.lst (words.map V.str))/\H3 p3=some (.lst ([decide (0=j),decide (1=j),decide (2=j),decide (3=j)].map V.bl))) ⟨s2.updR ja,Same.upd ja _ _ e2,ao⟩ λH3=>?_;rintro⟨s3,e3,f3⟩;have KG:=s3 _ _ ea;refine aG (aU ?_);refine⟨_,rfl,?_⟩;refine jB (cX ?_);refine dJ (i:=4) Z z02 KG rfl ?_;refine cX ?_;refine dJ (i:=5) Z z02 KG rfl ?_;refine cX ?_;refine dJ (i:=6) Z z02 KG rfl ?_;refine⟨zL,λp4 wa=>⟨p3,p4,_,_,rfl,rfl,Same.upd wa _ _ f3,ao,zL,λl4 kF=>?_⟩⟩;refine aK ?_;dsimp only;refine gF (λH4=>Same H H4/\H4 l2=some (.lst (words.map V.str))/\H4 l4=some (.lst ([decide (0=j),decide (1=j),decide (2=j),decide (3=j),decide (4=j),decide (5=j),decide (6=j)].map V.bl))) ⟨(s3.updR wa).updR kF,Same.upd kF _ _ (Same.upd wa _ _ e3),ao⟩ λH4=>?_;rintro⟨s4,e4,f4⟩;have y9:=s4 _ _ ea;refine aG (aU ?_);refine⟨_,rfl,?_⟩;refine jB (cX ?_);refine dJ (i:=7) Z z02 y9 rfl ?_;refine cX ?_;refine dJ (i:=8) Z z02 y9 rfl ?_;refine cX ?_;refine dJ (i:=9) Z z02 y9 rfl ?_;refine⟨zL,λp5 sf=>⟨l4,p5,_,_,rfl,rfl,Same.upd sf _ _ f4,ao,zL,λl5 Pm=>?_⟩⟩;refine aK ?_;dsimp only;refine gF (λH5=>Same H H5/\H5 l2=some (.lst (words.map V.str))/\H5 l5=some (.lst ([decide (0=j),decide (1=j),decide (2=j),decide (3=j),decide (4=j),decide (5=j),decide (6=j),decide (7=j),decide (8=j),decide (9=j)].map V.bl))) ⟨(s4.updR sf).updR Pm,Same.upd Pm _ _ (Same.upd sf _ _ e4),ao⟩ λH5=>?_;rintro⟨s5,e5,f5⟩;have Fh:=s5 _ _ ea;refine aG (aU ?_);refine⟨_,rfl,?_⟩;refine jB (cX ?_);refine dJ (i:=10) Z z02 Fh rfl ?_;refine cX ?_;refine dJ (i:=11) Z z02 Fh rfl ?_;refine cX ?_;refine dJ (i:=12) Z z02 Fh rfl ?_;refine cX ?_;refine dJ (i:=13) Z z02 Fh rfl ?_;refine⟨zL,λp6 zo=>⟨l5,p6,_,_,rfl,rfl,Same.upd zo _ _ f5,ao,zL,λl6 E3=>?_⟩⟩;refine aK ?_;dsimp only;refine gF (λH6=>Same H H6/\H6 l2=some (.lst (words.map V.str))/\H6 l6=some (.lst ([decide (0=j),decide (1=j),decide (2=j),decide (3=j),decide (4=j),decide (5=j),decide (6=j),decide (7=j),decide (8=j),decide (9=j),decide (10=j),decide (11=j),decide (12=j),decide (13=j)].map V.bl))) ⟨(s5.updR zo).updR E3,Same.upd E3 _ _ (Same.upd zo _ _ e5),ao⟩ λH6=>?_;rintro⟨s6,e6,f6⟩;have KI:=s6 _ _ ea;refine aG (aU ?_);refine⟨_,rfl,?_⟩;refine jB (cX ?_);refine dJ (i:=14) Z z02 KI rfl ?_;refine cX ?_;refine dJ (i:=15) Z z02 KI rfl ?_;refine cX ?_;refine dJ (i:=16) Z z02 KI rfl ?_;refine⟨zL,λp7 zt=>⟨l6,p7,_,_,rfl,rfl,Same.upd zt _ _ f6,ao,zL,λl7 Po=>?_⟩⟩;refine aK ?_;dsimp only;refine gF (λH7=>Same H H7/\H7 l2=some (.lst (words.map V.str))/\H7 l7=some (.lst ([decide (0=j),decide (1=j),decide (2=j),decide (3=j),decide (4=j),decide (5=j),decide (6=j),decide (7=j),decide (8=j),decide (9=j),decide (10=j),decide (11=j),decide (12=j),decide (13=j),decide (14=j),decide (15=j),decide (16=j)].map V.bl))) ⟨(s6.updR zt).updR Po,Same.upd Po _ _ (Same.upd zt _ _ e6),ao⟩ λH7=>?_;rintro⟨s7,e7,f7⟩;have UX:=s7 _ _ ea;have f7:H7 l7=some (.lst ((marks j).map V.bl)):=f7;have lt:=Z.lt;refine aG ?_;refine⟨_,rfl,.inl ⟨rfl,_,SqL.of f7⟩,l7,marks j,true,rfl,rfl,f7,rfl,_,rfl,?_⟩;rw[xO j z00];refine bx ?_;refine⟨_,rfl,a,Cs j,.ty "ValueError",true,rfl,UX,Z.ex,.inr ⟨_,rfl,Z.ve⟩,_,rfl,?_⟩;refine bx (cB ?_);dsimp only;refine⟨_,rfl,l7,_,16,.bl (decide (16=j)),rfl,rfl,SqL.of f7,rfl,_,rfl,?_⟩;rw[zB6 (by lia:¬16=j)];refine bx ?_;refine⟨_,rfl,_,rfl,.inl ⟨rfl,_,SqL.of f7⟩,l7,marks j,true,j,rfl,rfl,f7,Gw z00,λi hi=>Gx hi,l2,_,j,_,rfl,rfl,SqL.of e7,Gy lt,zL,λp8 UY=>?_⟩;exact q p8 _ (s7.updR UY) ao
def toE(EX:Addr->Addr->Hp->Prop):XK:=λe C H=>match e,C with|.ref a,some C'=>EX a C' H|_,_=>False
def Bg(P:Program)(w:World)(K:Frag)(mg:Qa0)(base:Heap)(kk:Nat)(H:Hp)(fl:Addr)(Qw:VK)(Ew:Addr->Addr->Hp->Prop):Prop:=∃(fd:FuncData)(body:Expr)(N:Qa7)(vs:List V)(cs:Qa1),LamObj H fl fd/\LamAt fd body N/\(∀b o,cs.lookup b=some o->H b=some (held o))/\(∀x c,fd.closure.lookup x=some c->∃o v,cs.lookup c=some o/\o.data=.cell v)/\(∀(i:Nat)(x:Str)(v:V),N[i]?=some x->vs[i]?=some v->∃c u o,fd.closure.lookup x=some c/\RelV v u/\cs.lookup c=some o/\o.data=.cell (some u))/\vs.length=N.length/\∀(A:Around)(outer:List Env)(Q':VK)(E':XK),Room kk A->(∀v H1,Qw v H1->Q' v H1)->(∀a C H1,Ew a C H1->E' (.ref a) (some C) H1)->∃te,(∀s,PE (cxL P w K mg base N fd fl A outer s (er H cs) (λe C H1=>NoC cs H1->E' e C (fz H1 cs))) body te)/\te (vs.map some) (er H cs) λv H1=>NoC cs H1->Q' v (fz H1 cs)
theorem MF{fl:Addr}(Iy:σ[i]?=some (some (.ref fl)))(L:Bg X.prog X.w X.K X.mg X.base kk H fl Qw Ew)(hr:Room kk X.A)(q1:∀v H1,Qw v H1->Q v H1)(q2:∀a C H1,Ew a C H1->E (.ref a) (some C) H1):M3 X i E σ H Q:=by obtain⟨fd,body,N,vs,cs,L,Z,fr,cell,val,hl,run⟩:=L;obtain⟨te,md,q⟩:=run X.A X.stack Q E hr q1 q2;exact⟨fl,fd,body,N,vs,cs,te,Iy,L,Z,fr,cell,val,hl,md,q⟩
def MJ(P:Program)(w:World)(K:Frag)(mg:Qa0)(base:Heap)(k:Nat)(x:Str)(ps:Qa7)(sp:Sp):Prop:=∃f fd,FnOkU P w K mg base CX0 k f fd ps sp/\mg x=some (.ref f)/\PySem.W.keepIn K (.ref f)=true/\Binds K fd ps []
theorem JG{p pos:Pos}(c:MJ X.prog X.w X.K X.mg X.base j x ps sp)(hr:RoomU k X.A)(hjk:j<=k)(hg:Gl X x)(ha:PA X (e::es) t)(fE:Qad x:=by decide)(he:Qab X e es:=by rfl)(fx:Qac X pos es:=by rfl):PE X (.Call (.Name x p) (e::es) [] pos) (vM sp [] E0 t):=by obtain⟨f,fd,F,m,k',b⟩:=c;exact Fl F (hr.mono hjk) hg m k' b ha fE he fx
inductive SpSaidI(P:Program)(w:World)(K:Frag)(mg:Qa0)(base:Heap)(Cs:Nat->Addr)(kk:Nat)(vs:List V)(H:Hp)(Q:VK):Prop|mk:∀fl Qw Ew,(vs=[.ref fl])->(Bg P w K mg base kk H fl Qw Ew)->((∀v H1,Qw v H1->∀p,H1 p=none->p≠sysModules->Q (.ref p) (upd H1 p (.lst [v]))))->((∀a C H1,Ew a C H1->∃j,C=Cs j/\Kind K Cs j/\(H1 a=none->∀p H2,Same H1 H2->H2 p=some (.tup [.str (words.getD j "")])->Q (.ref p) H2)))->SpSaidI P w K mg base Cs kk vs H Q
def yU(P:Program)(w:World)(K:Frag)(mg:Qa0)(base:Heap)(Cs:Nat->Addr)(kk:Nat):Sp:=λvs H Q _=>SpSaidI P w K mg base Cs kk vs H Q
theorem sc44:FnScope [AAw,AAq,"_law_e"] [AAw] (aC (top 96)):=fQS
theorem JH(F:Fun K "_law_said" "_law_said" (top 96) f fd)(L:Clss mg Cs)(c1:MJ P w K mg base 1 "_law_kind" ["_law_e"] (Gv K Cs)):FnOk P w K mg base CX0 (kk+2) f fd [AAw] (yU P w K mg base Cs kk):=by
 refine F.oq sc44 λaf A outer s H vs Q E hr h=>?_;obtain⟨fl,Qw,Ew,rfl,S,q1,q2⟩:=h;refine⟨_,aA (LR (i:=2) (tb:=λEX=>yg (M3 (jr CX0 P w K mg base [AAw,AAq,"_law_e"] "_law_said" (aC (top 96)) f af A outer s H E).nox 0 (toE EX)) (bR 1)) L.wool rfl sc44.nd rfl rfl rfl rfl (λz06 xe EX W=>aF (pss 1 sc44.nd (M4 (E:=toE EX) (k:=kk) (hr.mono z00) rfl (Or.inl rfl) W rfl))) (λv=>aF (aN (JG c1 (hr.toU.mark v) z00 rfl (aq (pv 2) aj))))) (aF (aN (zP (aq (pv 1) aj)))),?_⟩;refine aG (aU ?_);refine MF (kk:=kk) rfl S (hr.mono z00) (λv H1 hq=>?_) (λa C H1 hE=>?_);.refine aK ?_;refine⟨_,rfl,zL,λp hp np=>q1 v H1 hq p hp np⟩
 .obtain⟨j,rfl,Z,q3⟩:=q2 a C H1 hE;refine⟨Z.ca,λar gE fa=>⟨.ref a,?_,a,j,rfl,ao,Z,λp H2 s2 e2=>q3 fa p H2 ((Same.upd fa).trans s2) e2⟩⟩;rw[Za0];have gE:ar.length=3:=gE;lia
open PySem.W in
def JK(K:Frag)(L:Qa9)(j:Nat):Bool:=decide (j<16)&&((clsIn K (L.getD j 0)).isSome&&(findIn K (.ref (L.getD j 0)) "__getattribute__"==some (some (.builtin "BaseException.__getattribute__"))&&(findIn K (.ref (L.getD j 0)) "__getattr__"==some none&&(findIn K (.ref (L.getD j 0)) "__class__"==some (some (.builtin "object.__class__"))&&(specialIn K (.builtin "object.__class__") "__get__"==some (some (.builtin "getset_descriptor.__get__"))&&(takesIn K (.builtin "object.__class__")==some true&&(mroIn K (L.getD j 0) (.type "object")==some true&&(mroIn K (L.getD j 0) (.type "BaseException")==some true&&(typeIn K (.ref (L.getD 17 0))==some (.type "type")&&((clsIn K (L.getD 17 0)).isSome&&(subIn K (.ref (L.getD 17 0)) (.type "BaseException")==some true&&(subIn K (.ref (L.getD j 0)) (.ref (L.getD 17 0))==some true&&((List.range 17).all (λi=>kitOne K (.ref (L.getD j 0)) (.ref (L.getD i 0))==some (decide (i=j)))&&kitOne K (.ref (L.getD j 0)) (.type "ValueError")==some true)))))))))))))
theorem Ks(h:JK K L j=true):Kind K (λi=>L.getD i 0) j:=by unfold JK at h;simp only[Bool.and_eq_true,beq_iff_eq,z17]at h;obtain⟨h0,h1,h2,h3,h4,h5,h6,h7,h8,h9,UZ,U0,U1,U2,U3⟩:=h;refine⟨h0,⟨h1,h2,h3,h4,h5,h6,h7,h8⟩,⟨h9,UZ,U0,U1⟩,λi hi=>?_,U3⟩;have:=Zae.mp U2 i (Za3.mpr hi);simpa using this
theorem tab_mk(h1:PySem.W.nsIn K mainGlobals x=some (some (.ref f)))(h2:K.lookup f=some ⟨a1,b1,.func fd,s1⟩)(h3:fd.code=.ref c)(h4:K.lookup c=some ⟨a2,b2,.fields vs,s2⟩)(h5:vs[11]?=some (.ref T)):PySem.W.tabIn K x=some (c,T):=by unfold PySem.W.tabIn;rw[h1];show(match K.lookup f with|some ⟨_,_,.func fd,_⟩=>_|_=>none)=_;rw[h2];show(match fd.code with|.ref c=>_|_=>none)=_;rw[h3];show(match K.lookup c with|some ⟨_,_,.fields vs,_⟩=>_|_=>none)=_;rw[h4];show(match vs[11]? with|some (.ref P)=>some (c,P)|_=>none)=_;rw[h5]
def YAt(H0:Hp)(l:Addr)(cs ps ss:UV)(H:Hp)(a:Addr)(j:Nat):Prop:=∃g k tl xg xk G K L,H a=some (.tup [.ref g,.ref k,.ref tl])/\H0 g=none/\H0 k=none/\g≠l/\k≠l/\H g=some (.lst xg)/\Els H xg G/\H k=some (.lst xk)/\Els H xk K/\H tl=some (.tup ((L:WF).map V.int))/\(g≠sysModules/\k≠sysModules)/\(∀r∈G,okO ps r)/\G.length<=240*(j+1)/\OwOk cs ps ss (j+1) K/\L.length=3
theorem YAt.keep(h:YAt H0 l cs ps ss H a j)(k:∀b o,b≠l->H b=some o->H' b=some o)(hl:∃xs,H l=some (.lst xs)):YAt H0 l cs ps ss H' a j:=by
 obtain⟨xs,hl⟩:=hl;obtain⟨g,kk,tl,xg,xk,G,K,L,e1,n1,n2,d1,d2,e2,e3,e4,e5,e6,e7⟩:=h;have nt:∀b z,H b=some (.tup z)->b≠l:=λb z e w=>by rw[w,hl]at e;cases e
 exact⟨g,kk,tl,xg,xk,G,K,L,k _ _ (nt _ _ e1) e1,n1,n2,d1,d2,k _ _ d1 e2,e3.keep λb z e=>k _ _ (nt _ _ e) e,k _ _ d2 e4,e5.keep λb z e=>k _ _ (nt _ _ e) e,k _ _ (nt _ _ e6) e6,e7⟩
inductive SpYearsI(vs:List V)(H:Hp)(Q:VK):Prop|mk:∀bk y ac xc cs ap xp ps ai xs ss,(vs=[.ref bk,.int y])->(H bk=some (.tup [.ref ac,.ref ap,.ref ai]))->(RowsAt H ac xc cs)->((∀r∈cs,r.length=3/\∀x∈r,0<=x))->(cs.length<=20)->(0<=y)->(y<cs.length)->(RowsAt H ap xp ps)->(ps.length<=10)->((∀r∈ps,okP r))->(RowsAt H ai xs ss)->(ss.length<=12)->((∀s∈ss,s.length=5))->(un ps ss=none)->(∀l(ts:Qa9)H',Same H H'->H l=none->H' l=some (.lst (ts.map V.ref))->(ts.length:Int)=y+1->(∀j a,ts[j]?=some a->YAt H l cs ps ss H' a j)->Q (.ref l) H')->SpYearsI  vs H Q
def mX:Sp:=λvs H Q _=>SpYearsI  vs H Q
theorem scYB:FnScope ["book","year","years","owed","at","gifts","left"] ["book","year"] (aC (top 60)):=fQS
theorem Gz(F:Fun K "years_given" "years_given" (top 60) f fd)(Tr:mg "range"=none)(c1:Cal P w K mg base 9 "year_given" ["book","year","owed"] Gp):FnOk P w K mg base CX0 10 f fd ["book","year"] mX:=by
 refine F.oq scYB λaf A outer s H vs Q E hr h=>?_;obtain⟨bk,y,ac,xc,cs,ap,xp,ps,ai,xs,ss,rfl,eb,rc,okc,lc,y0,y1,rp,lp,okp,rs,ls,h5,hu,q⟩:=h;refine⟨_,aA (pss 2 scYB.nd (cY aj)) (aA (pss 3 scYB.nd (cY aj)) (aA (cP zB8 rfl (bK rfl Tr (aq (aV bI (pv 1) aB) aj)) (pgn 4 scYB.nd) (aA (cO (aJ c1 hr (aq (pv 0) (aq (pv 4) (aq (pv 3) aj)))) (bU rfl (az (pgn 5 scYB.nd) (az (pgn 3 scYB.nd) (az (pgn 6 scYB.nd) aX))))) (aF (bf (eZ zB4 zBa zB9 cA (pv 2) (aq (cJ (aq (pv 5) (aq (pv 3) (aq (pv 6) aj)))) aj)))))) (aF (aN (pv 2))))),?_⟩;refine aG (aU ?_);refine⟨zL,λl hl=>?_⟩;refine aK ?_;dsimp only;refine aG (aU ?_);refine⟨zL,λKL qr=>?_⟩;refine aK ?_;dsimp only;have s1:=Same.upd (o:=.lst []) hl;have s2:=Same.upd (o:=.lst []) qr;have U4:KL≠l:=λz=>by rw[z,ao]at qr;cases qr
 refine gF (λH1=>Same H H1/\H1 l=some (.lst [])/\H1 KL=some (.lst [])) ⟨s1.trans s2,s2 _ _ ao,ao⟩ λH1=>?_;rintro⟨k1,el1,U5⟩;refine aG ?_;refine⟨_,rfl,_,_,rfl,rfl,y+1,rfl,z00,z00,?_⟩;refine d9 (lo:=0) (λi σ Hc=>∃x4 x5 x6 lo xo ow,∃ts:Qa9,σ=[some (.ref bk),some (.int y),some (.ref l),some (.ref lo),x4,x5,x6]/\Same H Hc/\Hc l=some (.lst (ts.map V.ref))/\ts.length=i/\(∀j a,ts[j]?=some a->YAt H l cs ps ss Hc a j)/\lo≠l/\Hc lo=some (.lst xo)/\Els Hc xo ow/\OwOk cs ps ss i ow) ?_ ?_ ?_;.exact⟨none,none,none,KL,[],[],[],rfl,k1,el1,rfl,λj a e=>(by simp at e),U4,U5,Els.nil,⟨λ_ h=>(nomatch h),λ_ _=>rfl,zA3 _⟩⟩
 .rintro i σ Hc hi⟨x4,x5,x6,lo,xo,ow,ts,rfl,k,el,lt,hy,dl,eo,pe,qa⟩;have lno:=qa.len;refine aK ?_;have z0:(0:Int)+(i:Int)=i:=z00;rw[z0];refine aG ?_;refine⟨_,rfl,_,rfl,_,rfl,bk,i,lo,ac,xc,cs,ap,xp,ps,ai,xs,ss,xo,ow,rfl,k _ _ eb,rc.same k,okc,z00,z00,rp.same k,lp,okp,rs.same k,ls,h5,hu,eo,pe,qa,z00,λt g kk tl xg xk G KK L H2 s2 et ng nk Kx eg pT gk gl ek ij om l3 U6=>?_⟩;rw[zAi]at om gl;refine⟨t,_,rfl,SqT.of et,rfl,_,_,rfl,_,_,rfl,_,_,rfl,rfl,?_⟩;dsimp only;have k2:=k.trans s2;have el2:=s2 _ _ el;have dg:g≠l:=(aH el ng).symm;have dk:kk≠l:=(aH el nk).symm;refine⟨_,rfl,.inl ⟨rfl,_,SqL.of el2⟩,_,rfl,_,rfl,_,rfl,zL,λtt Fm=>⟨l,_,_,rfl,rfl,Same.upd Fm _ _ el2,by rw[zA1,lt,sizeLine_eq];lia,?_⟩⟩;have s3:=Same.upd (o:=.tup [.ref g,.ref kk,.ref tl]) Fm;have nt:tt≠l:=λz=>by rw[z,el2]at Fm;cases Fm
  have kp:∀{o:HO}b u,b≠l->H2 b=some u->upd (upd H2 tt (.tup [.ref g,.ref kk,.ref tl])) l o b=some u:=λb u n e=>by rw[aD n];exact s3 _ _ e
  have ke:∀{o:HO}b z,H2 b=some (.tup z)->upd (upd H2 tt (.tup [.ref g,.ref kk,.ref tl])) l o b=some (.tup z):=λb z e=>kp b _ (λw=>by rw[w,el2]at e;cases e) e;refine⟨_,_,_,kk,xk,_,ts++[tt],rfl,λb o e=>?_,?_,by rw[zA2,lt];rfl,λj a e=>?_,dk,kp _ _ dk ek,ij.keep ke,om⟩;.exact kp _ _ (aH e hl) (k2 _ _ e)
  .rw[ao,zA4];rfl
  .by_cases hj:j<ts.length;.rw[zBb hj]at e;exact(hy j a e).keep (λb o n z=>kp _ _ n (s2 _ _ z)) ⟨_,el⟩
   .have U7:j=i:=by have:=(zAa.mp e).1;rw[zA2]at this;simp at this;lia
    subst U7;rw[zBc z00,lt,Nat.sub_self]at e;cases e;exact⟨g,kk,tl,xg,xk,_,_,_,by rw[aD nt];exact ao,k.free ng,k.free nk,dg,dk,kp _ _ dg eg,pT.keep ke,kp _ _ dk ek,ij.keep ke,ke _ _ U6,Kx,gk,gl,om,l3⟩
 .rintro σ Hc⟨x4,x5,x6,lo,xo,ow,ts,rfl,k,el,lt,hy,dl,eo,pe,qa⟩;exact⟨_,rfl,q l ts Hc k hl el (by rw[lt];lia) hy⟩
theorem yV(h:gR d=true):d=cN (rowsOf d)/\(rowsOf d).length<=20/\∀r∈rowsOf d,r.length=3/\∀x∈r,0<=x:=by
 unfold gR at h;rw[zAc]at h;obtain⟨ds,rfl,_,hl⟩:=iY h.1;have h2:∀x∈ds,jk x=true:=Zae.mp h.2;have h3:∀x∈ds,bT x 3=true:=λx hx=>by have:=h2 x hx;unfold jk at this;rw[zAc]at this;exact this.1
 refine⟨congrArg PyData.tuple (v5 (n:=3) h3),by show(ds.map _).length<=20;rw[zA1];lia,λr hr=>?_⟩;obtain⟨x,hx,rfl⟩:=zA5.mp hr;refine⟨(jf (n:=3) (h3 x hx)).2,λz hz=>?_⟩;obtain⟨u,hu,rfl⟩:=zA5.mp hz;have:=h2 x hx;unfold jk at this;rw[zAc]at this;have:=Zae.mp this.2 u hu;simp only[Bool.and_eq_true,z17]at this;exact this.1
theorem yW(h:gw d=true):∃d0 d1 d2,d=.tuple [d0,d1,d2]/\gR d0=true/\fW d1=true/\fX d2=true/\un (rowsOf d1) (rowsOf d2)=none:=by unfold gw at h;rw[zAc,zAc,zAc,zAc]at h;obtain⟨h0,h1,h2,h3,h4⟩:=h;obtain⟨ds,rfl,l1,l2⟩:=iY h0;match ds,l1,l2,h1,h2,h3,h4 with|[d0,d1,d2],_,_,h1,h2,h3,h4=>exact⟨d0,d1,d2,rfl,h1,h2,h3,by have h4:(un (rowsOf d1) (rowsOf d2)).isNone=true:=h4;cases z:un (rowsOf d1) (rowsOf d2)with|none=>rfl;|some i=>rw[z]at h4;cases h4⟩;|[],l1,_,_,_,_,_=>simp at l1;|[_],l1,_,_,_,_,_=>simp at l1;|[_,_],l1,_,_,_,_,_=>simp at l1;|_::_::_::_::_,_,l2,_,_,_,_=>simp at l2;lia
inductive SpRefBI(vs:List V)(H:Hp)(Q:VK):Prop|mk:∀S v d,(vs=[v])->(IsTh S H v d)->(sz d<=4000)->(gw d=true)->(∀H',Same H H'->Q .non H')->SpRefBI  vs H Q
def GC:Sp:=λvs H Q _=>SpRefBI  vs H Q
inductive SpRefYI(vs:List V)(H:Hp)(Q:VK):Prop|mk:∀ac xc cs y,(vs=[.ref ac,.int y])->(RowsAt H ac xc cs)->(0<=y)->(y<cs.length)->(∀H',Same H H'->Q .non H')->SpRefYI  vs H Q
def GD:Sp:=λvs H Q _=>SpRefYI  vs H Q
theorem PJ:FnScope ["thing","least","most"] ["thing","least","most"] (aC (top 21)):=fQS
theorem rZ(F:Fun K "is_whole_from" "is_whole_from" (top 21) f fd)(c1:Cal P w K mg base 1 "is_whole" ["thing"] (spT bA)):FnOk P w K mg base CX0 2 f fd ["thing","least","most"] (jC dR):=by refine F.oq PJ λaf A outer s H vs Q E hr h=>?_;obtain⟨S,v,d,n,m,rfl,th,hz,q⟩:=h;refine⟨_,aF (aN (cC (aJ c1 hr (aP (pv 0) aj)) (dW (dC bW bW (pv 1) (pv 0) (pv 2))))),?_⟩;refine⟨_,rfl,S,v,d,rfl,th,hz,λH1 s1=>⟨_,rfl,?_⟩⟩;have fin:=q H1 s1;unfold dR at fin;cases e:bA d with|false=>rw[e]at fin;exact bx fin;|true=>rw[e]at fin;obtain⟨i,rfl,rfl⟩:=iT th e;exact bw (cg (dZ rfl) (dZ rfl) (dZ rfl) _ fin)
theorem Ku:FnScope ["thing"] ["thing"] (aC (top 44)):=fQS
theorem JL(F:Fun K "refuse_no_book" "refuse_no_book" (top 44) f fd)(c1:Cal P w K mg base 6 "is_book" ["thing"] (spT gw)):FnOk P w K mg base CX0 7 f fd ["thing"] GC:=by refine F.oq Ku λaf A outer s H vs Q E hr h=>?_;obtain⟨S,v,d,rfl,th,hz,hb,q⟩:=h;refine⟨_,aF (bV (bH (bY (aJ c1 hr (aP (pv 0) aj)))) (aF lD) bh),?_⟩;refine⟨_,rfl,S,v,d,rfl,th,hz,λH1 s1=>⟨_,rfl,?_⟩⟩;rw[hb];exact bx (q _ s1)
theorem Kv:FnScope ["clips","year"] ["clips","year"] (aC (top 61)):=fQS
theorem JM(F:Fun K "refuse_no_year_of" "refuse_no_year_of" (top 61) f fd)(T:Mg mg)(c1:Cal P w K mg base 2 "is_whole_from" ["thing","least","most"] (jC dR)):FnOk P w K mg base CX0 3 f fd ["clips","year"] GD:=by
 refine F.oq Kv λaf A outer s H vs Q E hr h=>?_;obtain⟨ac,xc,cs,y,rfl,rc,y0,y1,q⟩:=h;refine⟨_,aF (bV (bH (bY (aJ c1 hr (aq (pv 1) (aq aB (aq (aV fU (aM aW rfl T.len PySem.boot_len (aq (pv 0) aj)) aB) aj)))))) (aF lD) bh),?_⟩;refine⟨_,rfl,_,rfl,ac,_,rfl,.inr (SqT.of rc.e),_,_,rfl,rfl,λ_=>False,.int y,.int y,0,_,rfl,.int _,(by show 1<=4000;decide),λH1 s1=>⟨_,rfl,?_⟩⟩;have e:dR (.int y) 0 ((xc.length:Int)-1)=true:=by show(true&&(decide (0<=y)&&decide (y<=(xc.length:Int)-1)))=true;rw[zAw y0,zAw (by rw[rc.l];lia)];rfl
 rw[e];exact bx (q _ s1)
structure BookAt(H:Hp)(bk ac:Addr)(xc:List V)(cs:UV)(ap:Addr)(xp:List V)(ps:UV)(ai:Addr)(xs:List V)(ss:UV):Prop where
 e:H bk=some (.tup [.ref ac,.ref ap,.ref ai])rc:RowsAt H ac xc cs
 okc:∀r∈cs,r.length=3/\∀x∈r,0<=x
 lc:cs.length<=20
 rp:RowsAt H ap xp ps
 lp:ps.length<=10
 okp:∀r∈ps,okP r
 rs:RowsAt H ai xs ss
 ls:ss.length<=12
 h5:∀s∈ss,s.length=5
 un:un ps ss=none
theorem BookAt.same(b:BookAt H bk ac xc cs ap xp ps ai xs ss)(s:Same H H'):BookAt H' bk ac xc cs ap xp ps ai xs ss:=⟨s _ _ b.e,b.rc.same s,b.okc,b.lc,b.rp.same s,b.lp,b.okp,b.rs.same s,b.ls,b.h5,b.un⟩
theorem vB(t:IsTh S H v d)(h:gw d=true):∃bk ac xc cs ap xp ps ai xs ss,v=.ref bk/\d=.tuple [cN cs,cN ps,cN ss]/\BookAt H bk ac xc cs ap xp ps ai xs ss:=by obtain⟨d0,d1,d2,rfl,b0,b1,b2,b3⟩:=yW h;obtain⟨ec,lc,okc⟩:=yV b0;obtain⟨ep,lp,okp⟩:=kZ b1;obtain⟨es,ls,cx⟩:=lq b2;cases t with|@tup a xs _ ea r=>obtain⟨v0,v1,v2,d0',d1',d2',rfl,ee,h0,h1,h2⟩:=nR r rfl;cases ee;rw[ec]at h0;rw[ep]at h1;rw[es]at h2;obtain⟨ac,xc,rfl,rc⟩:=ik h0;obtain⟨ap,xp,rfl,rp⟩:=ik h1;obtain⟨ai,xs,rfl,rs⟩:=ik h2;exact⟨a,ac,xc,rowsOf d0,ap,xp,rowsOf d1,ai,xs,rowsOf d2,rfl,by rw[<-ec,<-ep,<-es],⟨ea,rc,okc,lc,rp,lp,okp,rs,ls,cx,b3⟩⟩
def jV(R:UV->UV->UV->Int->VK->Hp->Prop):Sp:=λvs H Q _=>∃S bk y d ac xc cs ap xp ps ai xs ss,vs=[.ref bk,.int y]/\IsTh S H (.ref bk) d/\sz d<=4000/\gw d=true/\BookAt H bk ac xc cs ap xp ps ai xs ss/\0<=y/\y<cs.length/\R cs ps ss y Q H
def yX:UV->UV->UV->Int->VK->Hp->Prop:=λ_ _ _ _ Q H=>∀H',Same H H'->Q .non H'
def anyR:VK->Hp->Prop:=λQ H=>∀v' H',Same H H'->Q v' H'
def xP:UV->UV->UV->Int->VK->Hp->Prop:=λ_ _ _ _=>anyR
theorem Kw:FnScope ["book","year"] ["book","year"] (aC (top 62)):=fQS
theorem GF(F:Fun K "refuse_no_year" "refuse_no_year" (top 62) f fd)(c1:Cal P w K mg base 7 "refuse_no_book" ["thing"] GC)(c2:Cal P w K mg base 3 "refuse_no_year_of" ["clips","year"] GD):FnOk P w K mg base CX0 8 f fd ["book","year"] (jV yX):=by refine F.oq Kw λaf A outer s H vs Q E hr h=>?_;obtain⟨S,bk,y,d,ac,xc,cs,ap,xp,ps,ai,xs,ss,rfl,th,hz,hb,B,y0,y1,q⟩:=h;refine⟨_,aA (bf (aJ c1 hr (aq (pv 0) aj))) (aF (bf (aJ c2 hr (aq (pX bQ (pv 0) aB) (aq (pv 1) aj))))),?_⟩;refine aG ?_;refine⟨_,rfl,S,_,d,rfl,th,hz,hb,λH1 s1=>?_⟩;dsimp only;have B1:=B.same s1;exact⟨_,rfl,bk,_,0,.ref ac,rfl,rfl,SqT.of B1.e,rfl,_,rfl,ac,xc,cs,y,rfl,B1.rc,y0,y1,λH2 s2=>q _ (s1.trans s2)⟩
theorem scYD2:FnScope ["book","year","gifts","owed","left"] ["book","year"] (aC (top 63)):=fQS
theorem GJ(F:Fun K "gifts_in" "gifts_in" (top 63) f fd)(c1:Cal P w K mg base 8 "refuse_no_year" ["book","year"] (jV yX))(c2:Cal P w K mg base 10 "years_given" ["book","year"] mX):FnOk P w K mg base CX0 11 f fd ["book","year"] (jV xP):=by
 refine F.oq scYD2 λaf A outer s H vs Q E hr h=>?_;obtain⟨S,bk,y,d,ac,xc,cs,ap,xp,ps,ai,xs,ss,rfl,th,hz,hb,B,y0,y1,q⟩:=h;refine⟨_,aA (bf (aJ c1 hr (aq (pv 0) (aq (pv 1) aj)))) (aA (cO (pX bF (aJ c2 hr (aq (pv 0) (aq (pv 1) aj))) (pv 1)) (bU rfl (az (pgn 2 scYD2.nd) (az (pgn 3 scYD2.nd) (az (pgn 4 scYD2.nd) aX))))) (aF (aN (pv 2)))),?_⟩;refine aG ?_;refine⟨_,rfl,_,rfl,S,bk,y,d,ac,xc,cs,ap,xp,ps,ai,xs,ss,rfl,th,hz,hb,B,y0,y1,λH1 s1=>?_⟩;dsimp only;have B1:=B.same s1;refine aG ?_;refine⟨_,rfl,_,rfl,bk,y,ac,xc,cs,ap,xp,ps,ai,xs,ss,rfl,B1.e,B1.rc,B1.okc,B1.lc,y0,y1,B1.rp,B1.lp,B1.okp,B1.rs,B1.ls,B1.h5,B1.un,λl ts H2 s2 nl el lt hy=>?_⟩;have hl:y.toNat<ts.length:=z00;obtain⟨g,k,tl,xg,xk,_,_,_,e1,_⟩:=hy y.toNat ts[y.toNat] (zA0 hl);have dv:atI (ts.map V.ref) y=some (.ref ts[y.toNat]):=by
  have:(ts.map V.ref)[y.toNat]?=some (.ref ts[y.toNat]):=by rw[zAb,zA0 hl];rfl
  have:=d7 this;rw[show((y.toNat:Nat):Int)=y by lia]at this;exact this
 refine⟨_,rfl,l,_,y,.ref ts[y.toNat],rfl,rfl,SqL.of el,dv,ts[y.toNat],_,rfl,SqT.of e1,rfl,_,_,rfl,_,_,rfl,_,_,rfl,rfl,?_⟩;dsimp only;exact⟨_,rfl,q _ H2 (s1.trans s2)⟩
theorem scYE:FnScope ["book","year","gifts","owed","left"] ["book","year"] (aC (top 64)):=fQS
theorem JN(F:Fun K "left_in" "left_in" (top 64) f fd)(c1:Cal P w K mg base 8 "refuse_no_year" ["book","year"] (jV yX))(c2:Cal P w K mg base 10 "years_given" ["book","year"] mX):FnOk P w K mg base CX0 11 f fd ["book","year"] (jV xP):=by
 refine F.oq scYE λaf A outer s H vs Q E hr h=>?_;obtain⟨S,bk,y,d,ac,xc,cs,ap,xp,ps,ai,xs,ss,rfl,th,hz,hb,B,y0,y1,q⟩:=h;refine⟨_,aA (bf (aJ c1 hr (aq (pv 0) (aq (pv 1) aj)))) (aA (cO (pX bF (aJ c2 hr (aq (pv 0) (aq (pv 1) aj))) (pv 1)) (bU rfl (az (pgn 2 scYE.nd) (az (pgn 3 scYE.nd) (az (pgn 4 scYE.nd) aX))))) (aF (aN (pv 4)))),?_⟩;refine aG ?_;refine⟨_,rfl,_,rfl,S,bk,y,d,ac,xc,cs,ap,xp,ps,ai,xs,ss,rfl,th,hz,hb,B,y0,y1,λH1 s1=>?_⟩;dsimp only;have B1:=B.same s1;refine aG ?_;refine⟨_,rfl,_,rfl,bk,y,ac,xc,cs,ap,xp,ps,ai,xs,ss,rfl,B1.e,B1.rc,B1.okc,B1.lc,y0,y1,B1.rp,B1.lp,B1.okp,B1.rs,B1.ls,B1.h5,B1.un,λl ts H2 s2 nl el lt hy=>?_⟩;have hl:y.toNat<ts.length:=z00;obtain⟨g,k,tl,xg,xk,_,_,_,e1,_⟩:=hy y.toNat ts[y.toNat] (zA0 hl);have dv:atI (ts.map V.ref) y=some (.ref ts[y.toNat]):=by
  have:(ts.map V.ref)[y.toNat]?=some (.ref ts[y.toNat]):=by rw[zAb,zA0 hl];rfl
  have:=d7 this;rw[show((y.toNat:Nat):Int)=y by lia]at this;exact this
 refine⟨_,rfl,l,_,y,.ref ts[y.toNat],rfl,rfl,SqL.of el,dv,ts[y.toNat],_,rfl,SqT.of e1,rfl,_,_,rfl,_,_,rfl,_,_,rfl,rfl,?_⟩;dsimp only;exact⟨_,rfl,q _ H2 (s1.trans s2)⟩
def qO:UV->UV->UV->Int->VK->Hp->Prop:=λcs ps ss y Q H=>∀k xk R H',Same H H'->H k=none->k≠sysModules->H' k=some (.lst xk)->Els H' xk R->OwOk cs ps ss (y.toNat+1) R->Q (.ref k) H'
def qP(R:UV->UV->UV->Int->VK->Hp->Prop):Sp:=λvs H Q _=>∃bk y ac xc cs ap xp ps ai xs ss,vs=[.ref bk,.int y]/\BookAt H bk ac xc cs ap xp ps ai xs ss/\0<=y/\y<cs.length/\R cs ps ss y Q H
theorem scYF1:FnScope ["book","year","gifts","owed","left"] ["book","year"] (aC (top 66)):=fQS
theorem GK(F:Fun K "owed_behind" "owed_behind" (top 66) f fd)(c2:Cal P w K mg base 10 "years_given" ["book","year"] mX):FnOk P w K mg base CX0 11 f fd ["book","year"] (qP qO):=by
 refine F.oq scYF1 λaf A outer s H vs Q E hr h=>?_;obtain⟨bk,y,ac,xc,cs,ap,xp,ps,ai,xs,ss,rfl,B,y0,y1,q⟩:=h;refine⟨_,aA (cO (pX bF (aJ c2 hr (aq (pv 0) (aq (pv 1) aj))) (pv 1)) (bU rfl (az (pgn 2 scYF1.nd) (az (pgn 3 scYF1.nd) (az (pgn 4 scYF1.nd) aX))))) (aF (aN (pv 3))),?_⟩;refine aG ?_;refine⟨_,rfl,_,rfl,bk,y,ac,xc,cs,ap,xp,ps,ai,xs,ss,rfl,B.e,B.rc,B.okc,B.lc,y0,y1,B.rp,B.lp,B.okp,B.rs,B.ls,B.h5,B.un,λl ts H2 s2 nl el lt hy=>?_⟩;have hl:y.toNat<ts.length:=z00;obtain⟨g,k,tl,xg,xk,G,R,L,e1,n1,n2,d1,d2,e2,e3,e4,e5,e6,e7,_,_,ow,_⟩:=hy y.toNat ts[y.toNat] (zA0 hl);have dv:atI (ts.map V.ref) y=some (.ref ts[y.toNat]):=by
  have:(ts.map V.ref)[y.toNat]?=some (.ref ts[y.toNat]):=by rw[zAb,zA0 hl];rfl
  have:=d7 this;rw[show((y.toNat:Nat):Int)=y by lia]at this;exact this
 refine⟨_,rfl,l,_,y,.ref ts[y.toNat],rfl,rfl,SqL.of el,dv,ts[y.toNat],_,rfl,SqT.of e1,rfl,_,_,rfl,_,_,rfl,_,_,rfl,rfl,?_⟩;dsimp only;exact⟨_,rfl,q k xk R H2 s2 n2 e7.2 e4 e5 ow⟩
theorem Ky:FnScope ["book","year"] ["book","year"] (aC (top 69)):=fQS
theorem JP(F:Fun K "owed_by" "owed_by" (top 69) f fd)(c1:Cal P w K mg base 8 "refuse_no_year" ["book","year"] (jV yX))(c2:Cal P w K mg base 11 "owed_behind" ["book","year"] (qP qO)):FnOk P w K mg base CX0 12 f fd ["book","year"] (jV qO):=by refine F.oq Ky λaf A outer s H vs Q E hr h=>?_;obtain⟨S,bk,y,d,ac,xc,cs,ap,xp,ps,ai,xs,ss,rfl,th,hz,hb,B,y0,y1,q⟩:=h;refine⟨_,aA (bf (aJ c1 hr (aq (pv 0) (aq (pv 1) aj)))) (aF (aN (aJ c2 hr (aq (pv 0) (aq (pv 1) aj))))),?_⟩;refine aG ?_;refine⟨_,rfl,_,rfl,S,bk,y,d,ac,xc,cs,ap,xp,ps,ai,xs,ss,rfl,th,hz,hb,B,y0,y1,λH1 s1=>?_⟩;dsimp only;exact⟨_,rfl,_,rfl,bk,y,ac,xc,cs,ap,xp,ps,ai,xs,ss,rfl,B.same s1,y0,y1,λk xk R H2 s2 n ns e1 e2 ow=>q k xk R H2 (s1.trans s2) (s1.free n) ns e1 e2 ow⟩
def GP:UV->UV->UV->Int->VK->Hp->Prop:=λcs ps ss y Q H=>∀H',Same H H'->Q (.int (aO cs ps ss (y.toNat+1) 3)) H'
theorem PK:FnScope ["book","year"] ["book","year"] (aC (top 79)):=fQS
theorem Bh(F:Fun K "lack_by" "lack_by" (top 79) f fd)(c1:Cal P w K mg base 8 "refuse_no_year" ["book","year"] (jV yX))(c2:Cal P w K mg base 11 "owed_behind" ["book","year"] (qP qO))(c3:Cal P w K mg base 1 "sacks_of" ["rows"] pJ):FnOk P w K mg base CX0 12 f fd ["book","year"] (jV GP):=by refine F.oq PK λaf A outer s H vs Q E hr h=>?_;obtain⟨S,bk,y,d,ac,xc,cs,ap,xp,ps,ai,xs,ss,rfl,th,hz,hb,B,y0,y1,q⟩:=h;refine⟨_,aA (bf (aJ c1 hr (aq (pv 0) (aq (pv 1) aj)))) (aF (aN (aJ c3 hr (aq (aJ c2 hr (aq (pv 0) (aq (pv 1) aj))) aj)))),?_⟩;refine aG ?_;refine⟨_,rfl,_,rfl,S,bk,y,d,ac,xc,cs,ap,xp,ps,ai,xs,ss,rfl,th,hz,hb,B,y0,y1,λH1 s1=>?_⟩;dsimp only;have B1:=B.same s1;refine⟨_,rfl,_,rfl,bk,y,ac,xc,cs,ap,xp,ps,ai,xs,ss,rfl,B1,y0,y1,λk xk R H2 s2 n ns e1 e2 ow=>⟨k,xk,R,rfl,e1,e2,λr hr=>(ow.ok r hr).l,by have:=ow.len;have:=B.lc;lia,λH3 s3=>?_⟩⟩;rw[ow.all B.okp];exact q H3 ((s1.trans s2).trans s3)
inductive SpByHI(vs:List V)(H:Hp)(Q:VK):Prop|mk:∀l xs rs,(vs=[.ref l])->(H l=some (.lst xs))->(Els H xs rs)->((∀r∈rs,r.length=4/\0<=fl r 2/\fl r 2<8))->(∀k(L:WF)H',Same H H'->H k=none->k≠sysModules->L.length=8->H' k=some (.lst (L.map V.int))->Q (.ref k) H')->SpByHI  vs H Q
def Kz:Sp:=λvs H Q _=>SpByHI  vs H Q
theorem scI1:FnScope ["rows","sums","due","number","holder","sacks"] ["rows"] (aC (top 67)):=fQS
theorem MK(F:Fun K "by_holder" "by_holder" (top 67) f fd)(N:Nums mg):FnOk P w K mg base CX0 1 f fd ["rows"] Kz:=by
 refine F.oq scI1 λaf A outer s H vs Q E hr h=>?_;obtain⟨l,xs,R,rfl,DJ,ij,hh,q⟩:=h;obtain⟨t1,e1⟩:=N.holders;refine⟨_,aA (pss 1 scI1.nd (aV Aj (cY (aq aB aj)) (bM (v:=.int 8) rfl e1 ⟨_,rfl⟩))) (aA (cP zB8 rfl (fG (pv 0)) (bU rfl (az (pgn 2 scI1.nd) (az (pgn 3 scI1.nd) (az (pgn 4 scI1.nd) (az (pgn 5 scI1.nd) aX))))) (aF (lF (pv 1) (pv 4) gM (pv 5) uo set_list))) (aF (aN (pv 1)))),?_⟩;refine aG (aU ?_);refine⟨zL,λl0 rh=>⟨l0,8,_,rfl,rfl,ao,by decide,by decide,zL,λl1 de wc=>?_⟩⟩;have s2:Same H (upd (upd H l0 (.lst [V.int 0])) l1 (.lst (List.replicate (8:Int).toNat [V.int 0]).flatten)):=(Same.upd rh).updR de;have el1:upd (upd H l0 (.lst [V.int 0])) l1 (.lst (List.replicate (8:Int).toNat [V.int 0]).flatten) l1=some (.lst ((List.replicate 8 (0:Int)).map V.int)):=ao;have qh:H l1=none:=(Same.upd rh).free de;refine aK ?_;dsimp only;refine aG ?_;have ek:=s2 _ _ DJ;have fy:l≠l1:=aH DJ qh;refine⟨_,rfl,l,rfl,⟨_,SqL.of ek⟩,?_⟩;refine iI (xs:=xs) (λi σ Hc=>∃x6 x7 x8 x9 L,σ=[some (.ref l),some (.ref l1),x6,x7,x8,x9]/\Same H Hc/\Hc l1=some (.lst ((L:WF).map V.int))/\L.length=8) ?_ ?_ ?_ ?_;.exact⟨none,none,none,none,_,rfl,s2,el1,rfl⟩
 .rintro i σ Hc hi⟨x6,x7,x8,x9,L,rfl,sm,el,l8⟩;exact SqL.of (sm _ _ DJ)
 .rintro i x σ Hc hx⟨x6,x7,x8,x9,L,rfl,sm,el,l8⟩;have hi:i<R.length:=by have:=(zAa.mp hx).1;rw[ij.1]at this;exact this
  obtain⟨tr,gx,eB⟩:=ij.2 i R[i] (zA0 hi);have:x=.ref tr:=by rw[hx]at gx;exact zAl gx
  subst this;obtain⟨o4,h0,h1⟩:=hh _ (zAh hi);generalize R[i]=r at eB h0 h1 o4⊢;rw[gA o4]at eB;refine⟨tr,_,rfl,SqT.of (sm _ _ eB),rfl,_,_,rfl,_,_,rfl,_,_,rfl,_,_,rfl,rfl,?_⟩;refine⟨_,rfl,_,rfl,l1,_,fl r 2,_,rfl,rfl,SqL.of el,h0,il z00,_,rfl,_,_,rfl,rfl,l1,_,fl r 2,(fl r 2).toNat,rfl,rfl,el,tZ h0 (by rw[zA1];lia),?_⟩;rw[mQ];exact⟨_,_,_,_,_,rfl,λb o e=>by rw[aD (aH e qh)];exact sm _ _ e,ao,(Zav ..).trans l8⟩
 .rintro σ Hc⟨x6,x7,x8,x9,L,rfl,sm,el,l8⟩;dsimp only;exact⟨_,rfl,q l1 L Hc sm qh wc l8 el⟩
abbrev ky(n y:Int):List Key:=[.inl n,.inl y]
def KsOk(kv:List (Key×V)):Prop:=∀p∈kv,∃h,p.1=.inl h/\0<=h/\h<8
theorem KsOk.put(g:KsOk kv)(h0:0<=h)(h8:h<8)(v:V):KsOk (putK kv (.inl h) v):=by
 intro p hp;unfold putK at hp;split at hp
 .obtain⟨q,hq,rfl⟩:=zA5.mp hp;split;.exact g q hq
  .exact g q hq
 .rcases zA6.mp hp with z|z;.exact g p z
  .rw[Zad.mp z];exact⟨h,rfl,h0,h8⟩
structure Dts(fo:Addr)(H0 H:Hp)(dm:Int->Int->Prop)(f:Int->Int->Int->Int)(b:Int->Int->Nat)(z07:List (List Key×V)):Prop where
 sm:Same H0 H
 nf:H0 fo=none
 e:H fo=some (.dT z07)g:∀n y,dm n y->∃d kv,dY z07 (ky n y)=some (.ref d)/\H d=some (.dK kv)/\(kv.length<=b n y/\KsOk kv)/\∀h,0<=h->h<8->(dY kv (.inl h)).getD (.int 0)=.int (f n y h)no:∀n y,¬dm n y->dY z07 (ky n y)=none
 i:∀n y n' y' d,dY z07 (ky n y)=some (.ref d)->dY z07 (ky n' y')=some (.ref d)->n=n'/\y=y'
 fr:∀n y d,dY z07 (ky n y)=some (.ref d)->H0 d=none/\d≠fo/\∃o,H d=some o
theorem Dts.new{f:Int->Int->Int->Int}(g:Dts fo H0 H dm f b z07)(hp:H p=none):Dts fo H0 (upd H p o) dm f b z07:=⟨g.sm.updR hp,g.nf,Same.upd hp _ _ g.e,λn y h=>by obtain⟨d,kv,e1,e2,r⟩:=g.g n y h;exact⟨d,kv,e1,Same.upd hp _ _ e2,r⟩,g.no,g.i,λn y d h=>by obtain⟨e1,e2,o',e3⟩:=g.fr n y d h;exact⟨e1,e2,o',Same.upd hp _ _ e3⟩⟩
theorem Dts.same{f:Int->Int->Int->Int}(g:Dts fo H0 H dm f b z07)(s:Same H H'):Dts fo H0 H' dm f b z07:=⟨g.sm.trans s,g.nf,s _ _ g.e,λn y h=>by obtain⟨d,kv,e1,e2,r⟩:=g.g n y h;exact⟨d,kv,e1,s _ _ e2,r⟩,g.no,g.i,λn y d h=>by obtain⟨e1,e2,o',e3⟩:=g.fr n y d h;exact⟨e1,e2,o',s _ _ e3⟩⟩
theorem yZ(h:ky n y=ky n' y'):n=n'/\y=y':=by injection h with h1 h2;injection h2 with h2 _;injection h1 with h1;injection h2 with h2;exact⟨h1,h2⟩
theorem Dts.wr{f f':Int->Int->Int->Int}(g:Dts fo H0 H dm f b z07)(hv:dY z07 (ky N Y)=some (.ref d))(h1:(zw.length<=b' N Y/\KsOk zw)/\∀h,0<=h->h<8->(dY zw (.inl h)).getD (.int 0)=.int (f' N Y h))(h2:∀n y,dm n y->¬(n=N/\y=Y)->b n y<=b' n y/\∀h,0<=h->h<8->f' n y h=f n y h):Dts fo H0 (upd H d (.dK zw)) dm f' b' z07:=by
 obtain⟨w1,w2,_⟩:=g.fr _ _ _ hv;refine⟨λc o e=>by rw[aD (aH e w1)];exact g.sm _ _ e,g.nf,by rw[aD w2.symm];exact g.e,λn y hd=>?_,g.no,g.i,λn y d' hd=>?_⟩
 .by_cases hk:n=N/\y=Y;.obtain⟨rfl,rfl⟩:=hk;exact⟨d,zw,hv,ao,h1⟩
  .obtain⟨d',kv,q1,q2,q3,q4⟩:=g.g n y hd;have nd:d'≠d:=λz=>hk (g.i _ _ _ _ _ (z▸q1) hv);obtain⟨k1,k2⟩:=h2 n y hd hk;exact⟨d',kv,q1,by rw[aD nd];exact q2,⟨Zaf q3.1 k1,q3.2⟩,λh z1 z2=>by rw[k2 h z1 z2];exact q4 h z1 z2⟩
 .obtain⟨w3,w4,o,w5⟩:=g.fr n y d' hd;by_cases mm:d'=d;.exact⟨w3,w4,.dK zw,by rw[mm];exact ao⟩
  .exact⟨w3,w4,o,by rw[aD mm];exact w5⟩
theorem Dts.cast{f f':Int->Int->Int->Int}(g:Dts fo H0 H dm f b z07)(h2:∀n y,dm n y->b n y<=b' n y/\∀h,0<=h->h<8->f' n y h=f n y h):Dts fo H0 H dm f' b' z07:=⟨g.sm,g.nf,g.e,λn y hd=>by obtain⟨d',kv,q1,q2,q3,q4⟩:=g.g n y hd;obtain⟨k1,k2⟩:=h2 n y hd;exact⟨d',kv,q1,q2,⟨Zaf q3.1 k1,q3.2⟩,λh z1 z2=>by rw[k2 h z1 z2];exact q4 h z1 z2⟩,g.no,g.i,g.fr⟩
def dom(ps:UV)(n y:Int):Prop:=0<=n/\n<ps.length/\fl (ps.getD n.toNat []) 2<=y/\y<=fl (ps.getD n.toNat []) 3
def f0(ps:UV)(n y h:Int):Int:=if h=fl (ps.getD n.toNat []) 0 then fl (ps.getD n.toNat []) 4 else 0
inductive SpBegunI(vs:List V)(H:Hp)(Q:VK):Prop|mk:∀ap xp ps,(vs=[.ref ap])->(RowsAt H ap xp ps)->(ps.length<=10)->((∀r∈ps,okP r))->(∀fo H' z07,Dts fo H H' (dom ps) (f0 ps) (λ_ _=>1) z07->Q (.ref fo) H')->SpBegunI  vs H Q
def Bj:Sp:=λvs H Q _=>SpBegunI  vs H Q
theorem sc34s:FnScope [AAc,AAq,AAu,"_law_holder","_law_sort","_law_first","_law_last","_law_sacks","_law_price",AAj] [AAc] (aC (top 88)):=fQS
theorem GQ(F:Fun K "_law_begun" "_law_begun" (top 88) f fd)(Te:mg "enumerate"=none)(Tr:mg "range"=none):FnOk P w K mg base CX0 1 f fd [AAc] Bj:=by
 refine F.oq sc34s λaf A outer s H vs Q E hr h=>?_;obtain⟨ap,xp,ps,rfl,rp,lp,okp,q⟩:=h;refine⟨_,aA (pss 1 sc34s.nd Ef) (aA (cP zB8 rfl (ZT.pi_enum true rfl Te (aq (pv 0) aj)) (bU rfl (az (pgn 2 sc34s.nd) (az (bU rfl (az (pgn 3 sc34s.nd) (az (pgn 4 sc34s.nd) (az (pgn 5 sc34s.nd) (az (pgn 6 sc34s.nd) (az (pgn 7 sc34s.nd) (az (pgn 8 sc34s.nd) aX))))))) aX))) (aF (cP zB8 rfl (jM rfl Tr (aq (pv 5) (aq (aV bI (pv 6) aB) aj))) (pgn 9 sc34s.nd) (aF (uK (oG hr) (pv 1) (cJ (aq (pv 2) (aq (pv 9) aj))) (IK (wj (pv 3) (pv 7) zK) rfl rfl z01 z02) rfl))))) (aF (aN (pv 1)))),?_⟩;refine aG (aU ?_);refine λfo Pp=>?_;refine aK ?_;dsimp only;refine aG ?_;have d0:Dts fo H (upd H fo (.dT [])) (λ_ _=>False) (f0 ps) (λ_ _=>1) []:=⟨Same.upd Pp,Pp,ao,λ_ _ z=>z.elim,λ_ _ _=>rfl,λ_ _ _ _ _ z=>(by cases z),λ_ _ _ z=>(by cases z)⟩;generalize upd H fo (.dT [])=H1 at d0⊢;refine⟨_,rfl,ap,xp,rfl,SqT.of (d0.sm _ _ rp.e),?_⟩;refine ZT.for_enum true (xs:=xp) (λi σ Hc=>∃x2 x3 x4 x5 x6 x7 x8 x9 z07,σ=[some (.ref ap),some (.ref fo),x2,x3,x4,x5,x6,x7,x8,x9]/\Dts fo H Hc (λn y=>dom ps n y/\n<i) (f0 ps) (λ_ _=>1) z07/\z07.length<=20*i) ?_ ?_ ?_ ?_;.exact⟨none,none,none,none,none,none,none,none,[],rfl,⟨d0.sm,d0.nf,d0.e,λn y z=>by have:=z.1.1;have:=z.2;lia,λn y _=>d0.no n y id,d0.i,d0.fr⟩,zA3 _⟩
 .rintro i σ Hc hi⟨x2,x3,x4,x5,x6,x7,x8,x9,z07,rfl,dt,lk⟩;exact SqT.of (dt.sm _ _ rp.e)
 .rintro i x σ Hc T0 hx⟨x2,x3,x4,x5,x6,x7,x8,x9,z07,rfl,dt,lk⟩nT;have hi:i<ps.length:=by have:=(zAa.mp hx).1;rw[rp.l]at this;exact this
  obtain⟨tr,gx,eB⟩:=rp.g i ps[i] (zA0 hi);have:x=.ref tr:=by rw[hx]at gx;exact zAl gx
  subst this;have op:=okp ps[i] (zAh hi);have ep:ps.getD ((i:Int)).toNat []=ps[i]:=by rw[zAi];exact getD_get hi
  have dT:=dt.new (o:=.tup [V.int i,V.ref tr]) nT;generalize hpi:ps[i]=p at eB op ep;have Pt:=dT.sm _ _ eB;rw[fM op.1]at Pt;obtain⟨_,⟨a1,a2⟩,_,⟨c1,c2,c3⟩,⟨e1,e2⟩,_⟩:=op;refine⟨T0,_,rfl,SqT.of ao,rfl,_,_,rfl,_,_,rfl,?_⟩;refine⟨tr,_,rfl,SqT.of Pt,rfl,_,_,rfl,_,_,rfl,_,_,rfl,_,_,rfl,_,_,rfl,_,_,rfl,rfl,rfl,?_⟩;refine⟨_,rfl,_,rfl,_,_,rfl,rfl,fl p 2,fl p 3+1,rfl,⟨z00,z00,z00,z00⟩,?_⟩;generalize upd Hc T0 (.tup [V.int i,V.ref tr])=H2 at dT⊢;refine d9 (lo:=fl p 2) (n:=(fl p 3+1-fl p 2).toNat) (λj σ Hj=>∃x9 z07,σ=[some (.ref ap),some (.ref fo),some (.int i),some (.int (fl p 0)),some (.int (fl p 1)),some (.int (fl p 2)),some (.int (fl p 3)),some (.int (fl p 4)),some (.int (fl p 5)),x9]/\Dts fo H Hj (λn y=>dom ps n y/\(n<i\/(n=i/\y<fl p 2+j))) (f0 ps) (λ_ _=>1) z07/\z07.length<=20*i+j) ?_ ?_ ?_;.exact⟨x9,z07,rfl,⟨dT.sm,dT.nf,dT.e,λn y z=>dT.g n y ⟨z.1,by
    rcases z.2 with z2|⟨z2,z3⟩;.exact z2
    .obtain⟨_,_,w1,_⟩:=z.1;rw[z2,ep]at w1;lia⟩,λn y z=>dT.no n y λz'=>z ⟨z'.1,.inl z'.2⟩,dT.i,dT.fr⟩,lk⟩
  .rintro j σ Hj hj⟨x9,z07,rfl,dj,lj⟩;refine aK ?_;refine λp1 nB=>?_;refine⟨_,rfl,_,rfl,ao,[(.inl (fl p 0),.int (fl p 4))],rfl,(by show 1<=15;decide),?_⟩;have hD:∀b o,Hj b=some o->upd (upd Hj p1 (.dK [])) p1 (.dK (iz [] [(.inl (fl p 0),.int (fl p 4))])) b=some o:=λb o e=>by rw[aD (aH e nB),aD (aH e nB)];exact e
   have yB:upd (upd Hj p1 (.dK [])) p1 (.dK (iz [] [(.inl (fl p 0),.int (fl p 4))])) p1=some (.dK [(.inl (fl p 0),.int (fl p 4))]):=ao;generalize upd (upd Hj p1 (.dK [])) p1 (.dK (iz [] [(.inl (fl p 0),.int (fl p 4))]))=HD at hD yB⊢;have Pw:p1≠fo:=λz=>by rw[z,dj.e]at nB;cases nB
   refine⟨_,rfl,_,rfl,_,rfl,zL,λt ht=>⟨fo,_,rfl,DPut.t (k:=ky i (fl p 2+j)) (Same.upd ht _ _ (hD _ _ dj.e)) ao z05,?_⟩⟩;have kp:∀b o,Hj b=some o->b≠fo->upd (upd HD t (.tup [V.int i,V.int (fl p 2+j)])) fo (.dT (putK z07 (ky i (fl p 2+j)) (.ref p1))) b=some o:=λb o e ne=>by rw[aD ne];exact Same.upd ht _ _ (hD _ _ e)
   have DL:upd (upd HD t (.tup [V.int i,V.int (fl p 2+j)])) fo (.dT (putK z07 (ky i (fl p 2+j)) (.ref p1))) p1=some (.dK [(.inl (fl p 0),.int (fl p 4))]):=by rw[aD Pw];exact Same.upd ht _ _ yB
   have U8:H p1=none:=dj.sm.free nB;refine⟨_,_,rfl,⟨λb o e=>kp b o (dj.sm _ _ e) (aH e dj.nf),dj.nf,ao,λn y z=>?_,λn y z=>?_,λn y n' y' d z z'=>?_,λn y d z=>?_⟩,?_⟩
   .by_cases hk:ky n y=ky i (fl p 2+j)
    .obtain⟨rfl,rfl⟩:=yZ hk;refine⟨p1,_,by rw[gn,zAz rfl],DL,⟨zA3 _,λp hp=>⟨fl _ 0,by rw[Zad.mp hp],a1,z00⟩⟩,λh h0 h8=>?_⟩;unfold f0;rw[ep];by_cases hh:h=fl p 0;.rw[zAz hh,dD (show(Sum.inl (fl p 0):Key)=.inl h by rw[hh])];rfl
     .rw[zAy hh,dF (λz=>hh (by injection z with z;exact z.symm))];rfl
    .have hd:dom ps n y/\(n<i\/(n=i/\y<fl p 2+j)):=⟨z.1,by
      rcases z.2 with z2|⟨z2,z3⟩;.exact .inl z2
      .refine .inr ⟨z2,?_⟩;have:y≠fl p 2+j:=λw=>hk (by rw[z2,w]);lia⟩;obtain⟨d,kv,q1,q2,q3⟩:=dj.g n y hd;exact⟨d,kv,by rw[gn,zAy hk];exact q1,kp _ _ q2 (dj.fr n y d q1).2.1,q3⟩
   .have hk:¬ky n y=ky i (fl p 2+j):=λw=>by obtain⟨rfl,rfl⟩:=yZ w;exact z ⟨⟨z00,z00,by rw[ep];lia,by rw[ep];lia⟩,.inr ⟨rfl,z00⟩⟩
    rw[gn,zAy hk];exact dj.no n y λz'=>z ⟨z'.1,z'.2.elim .inl λw=>.inr ⟨w.1,z00⟩⟩
   .rw[gn]at z z';have old:∀n y,dY z07 (ky n y)=some (.ref p1)->False:=λn y w=>by obtain⟨_,_,o,w3⟩:=dj.fr n y p1 w;rw[nB]at w3;cases w3
    by_cases h1:ky n y=ky i (fl p 2+j)
    .rw[zAz h1]at z;by_cases h2:ky n' y'=ky i (fl p 2+j);.exact yZ (h1.trans h2.symm)
     .rw[zAy h2]at z';injection z with z;injection z with z;rw[<-z]at z';exact(old _ _ z').elim
    .rw[zAy h1]at z;by_cases h2:ky n' y'=ky i (fl p 2+j);.rw[zAz h2]at z';injection z' with z';injection z' with z';rw[<-z']at z;exact(old _ _ z).elim
     .rw[zAy h2]at z';exact dj.i _ _ _ _ _ z z'
   .rw[gn]at z;by_cases h1:ky n y=ky i (fl p 2+j);.rw[zAz h1]at z;injection z with z;injection z with z;rw[<-z];exact⟨U8,Pw,_,DL⟩
    .rw[zAy h1]at z;obtain⟨w1,w2,o,w3⟩:=dj.fr n y d z;exact⟨w1,w2,o,kp _ _ w3 w2⟩
   .have:=dw z07 (ky i (fl p 2+j)) (V.ref p1);lia
  .rintro σ Hj⟨x9,z07,rfl,dj,lj⟩;refine⟨_,_,_,_,_,_,_,_,z07,rfl,⟨dj.sm,dj.nf,dj.e,λn y z=>dj.g n y ⟨z.1,?_⟩,λn y z=>dj.no n y λz'=>z ⟨z'.1,z'.2.elim (λw=>by lia) λw=>by lia⟩,dj.i,dj.fr⟩,z00⟩;by_cases hn:n<i;.exact .inl hn
   .have e9:n=i:=by have:=z.2;lia
    refine .inr ⟨e9,?_⟩;obtain⟨_,_,_,w1⟩:=z.1;rw[e9,ep]at w1;lia
 .rintro σ Hc⟨x2,x3,x4,x5,x6,x7,x8,x9,z07,rfl,dt,lk⟩;refine⟨_,rfl,q fo Hc z07 ⟨dt.sm,dt.nf,dt.e,λn y z=>dt.g n y ⟨z,?_⟩,λn y z=>dt.no n y λz'=>z z'.1,dt.i,dt.fr⟩⟩;rw[rp.l];exact z.2.1
def qQ(ps:UV)(f:Int->Int->Int->Int)(s:WF):Bool:=rT ps s&&(years (fl s 4) (fl (qK ps s) 3)).all λy=>decide (fl s 3<=f (fl s 0) y (fl s 1))
inductive SpLHoldsI(vs:List V)(H:Hp)(Q:VK):Prop|mk:∀ap xp ps fo H0 f b z07 t s,(vs=[.ref ap,.ref fo,.ref t])->(RowsAt H ap xp ps)->((∀r∈ps,okP r))->(Dts fo H0 H (dom ps) f b z07)->(H t=some (.tup (s.map V.int)))->(s.length=5)->(∀H',Same H H'->Q (.bl (qQ ps f s)) H')->SpLHoldsI  vs H Q
def xQ:Sp:=λvs H Q _=>SpLHoldsI  vs H Q
theorem JQ{ns:WF}(h1:M∈ns)(h2:∀a∈ns,M<=a):decide (k<=M)=ns.all λa=>decide (k<=a):=by rw[Zaw,z17,Zae];exact⟨λh a ha=>zAw (Int.le_trans h (h2 a ha)),λh=>zBd (h M h1)⟩
theorem PL(a:Ev σ H ta (.int i))(b:Ev σ H tb (.int j)):Ev σ H (tOp rEq ta tb) (.bl (decide (i=j))):=λQ q=>a _ (b _ ⟨rfl,by have ed:decide (V.int i=V.int j)=decide (i=j):=decide_eq_decide.mpr ⟨λz=>by injection z,λz=>by rw[z]⟩;rw[ed];exact q⟩)
theorem sc35s:FnScope [AAc,AAg,AAk,AAu,ABb,"_law_buyer","_law_sacks",AAj,"_law_first","_law_last"] [AAc,AAg,AAk] (aC (top 89)):=fQS
theorem QR:([AAo,AAg,AAu,ABb]:Qa7).Nodup:=by decide+kernel
theorem Dj(F:Fun K "_law_holds" "_law_holds" (top 89) f fd)(T:Mg mg)(Tr:mg "range"=none)(Tm:mg "min"=none):FnOk P w K mg base CX0 1 f fd [AAc,AAg,AAk] xQ:=by refine F.oq sc35s λaf A outer s H vs Q E hr h=>?_;obtain⟨ap,xp,ps,fo,H0,g,b,z07,t,r,rfl,rp,okp,dt,et,h5,q⟩:=h;refine⟨_,aA (cO (pv 2) (bU rfl (az (bC (i:=3) sc35s.nd rfl (Or.inr rfl)) (az (bC (i:=4) sc35s.nd rfl (Or.inr rfl)) (az (pgn 5 sc35s.nd) (az (pgn 6 sc35s.nd) (az (pgn 7 sc35s.nd) aX))))))) (aA (bV (PW.pt (gG (bH (gm bW pO aB (pv 3) (aM aW rfl T.len PySem.boot_len (aq (pv 0) aj)))) (gG (bH (gm bW bW aB (pv 4) aB)) (gG (bH (gm bW bW aB (pv 5) aB)) (gC (bz iJ (pv 4) (pv 5) (bu _))))))) (aF (aN gj)) bh) (aA (yh (i:=8) (j:=9) rfl sc35s.nd rfl rfl z02 rfl rfl (aq (pX bQ (pX bQ (pv 0) (pv 3)) aB) (aq (pX bQ (pX bQ (pv 0) (pv 3)) aB) aj)) rfl) (aA (bV (PW.pt (gG (bH (gm bW bW aB (pv 6) aB)) (gC (bH (gm bW bW (pv 8) (pv 7) (pv 9)))))) (aF (aN gj)) bh) (aF (aN (fY DQ (aM (rN rfl) rfl Tm boot_min (aq (bN [AAo,AAg,AAu,ABb] [none,some 1,some 3,some 4] rfl (jM rfl Tr (aq (pv 7) (aq (aV bI (pv 9) aB) aj))) (λC fp z06 s₂ H₂=>⟨pgn 0 QR,bB,wk (oG hr) (uJ (oG hr) (pv 1) (cJ (aq (pv 2) (aq (pv 0) aj))) (λ_ _=>rfl)) (pv 3) aB (by constructor<;>rfl)⟩) (λC=>cI (cI (cI trivial))) ⟨rfl,rfl,rfl,rfl⟩) aj)) (pv 6) (bu _))))))),?_⟩;have fin:=q;unfold qQ rT at fin;rw[jF h5]at et;refine aG ?_;refine⟨_,rfl,t,_,rfl,SqT.of et,rfl,_,_,rfl,_,_,rfl,_,_,rfl,_,_,rfl,_,_,rfl,rfl,?_⟩;dsimp only;refine aG ?_;refine cg (p:=λi j=>decide (i<=j)) (q:=λi j=>decide (i<j)) (i:=0) (j:=fl r 0) (k:=(xp.length:Int)) fD (dZ rfl) (λQ h=>⟨_,rfl,ap,xp,rfl,.inr (SqT.of rp.e),h⟩) _ ⟨_,rfl,?_⟩;rw[rp.l];cases e1:(decide (0<=fl r 0)&&decide (fl r 0<ps.length))with|false=>rw[e1]at fin;exact bw (bw (fin H (Same.refl H)));|true=>rw[e1]at fin;refine bx ?_;refine cg (p:=λi j=>decide (i<=j)) (q:=λi j=>decide (i<=j)) (i:=0) (j:=fl r 1) (k:=7) fD (dZ rfl) fD _ ⟨_,rfl,?_⟩;dsimp only;rw[show decide (fl r 1<=7)=decide (fl r 1<8)from decide_eq_decide.mpr z00];cases e2:(decide (0<=fl r 1)&&decide (fl r 1<8))with|false=>rw[e2]at fin;exact bw (bw (fin H (Same.refl H)));|true=>rw[e2]at fin;refine bx ?_;refine cg (p:=λi j=>decide (i<=j)) (q:=λi j=>decide (i<=j)) (i:=0) (j:=fl r 2) (k:=7) fD (dZ rfl) fD _ ⟨_,rfl,?_⟩;dsimp only;rw[show decide (fl r 2<=7)=decide (fl r 2<8)from decide_eq_decide.mpr z00];cases e3:(decide (0<=fl r 2)&&decide (fl r 2<8))with|false=>rw[e3]at fin;exact bw (bw (fin H (Same.refl H)));|true=>rw[e3]at fin;refine bx ?_;refine PL (i:=fl r 1) (j:=fl r 2) (dZ rfl) (dZ rfl) _ ⟨_,rfl,?_⟩;cases e4:decide (fl r 1=fl r 2)with|true=>rw[e4]at fin;exact bw (fin H (Same.refl H));|false=>rw[e4]at fin;refine bx (cB ?_);dsimp only;refine aG ?_;rw[zAc,z17,z17]at e1 e2;obtain⟨p,hp,ep,op⟩:=gJ okp e1.1 e1.2;have we:qK ps r=p:=ep;rw[we]at fin;obtain⟨tp,dv,fI⟩:=ir rp e1.1 hp;rw[fM op.1]at fI;obtain⟨_,_,_,⟨g1,g2,g3⟩,_⟩:=id op;refine⟨_,rfl,_,rfl,ap,xp,_,.ref tp,rfl,rfl,SqT.of rp.e,dv,tp,_,2,.int (fl p 2),rfl,rfl,SqT.of fI,rfl,?_⟩;refine⟨_,rfl,_,rfl,ap,xp,_,.ref tp,rfl,rfl,SqT.of rp.e,dv,tp,_,3,.int (fl p 3),rfl,rfl,SqT.of fI,rfl,?_⟩;refine⟨_,_,rfl,?_⟩;dsimp only;refine aG ?_;refine cg (p:=λi j=>decide (i<=j)) (q:=λi j=>decide (i<=j)) (i:=1) (j:=fl r 3) (k:=99) fD (dZ rfl) fD _ ⟨_,rfl,?_⟩;dsimp only;cases e5:(decide (1<=fl r 3)&&decide (fl r 3<=99))with|false=>rw[e5]at fin;exact bw (bw (fin H (Same.refl H)));|true=>rw[e5]at fin;refine bx ?_;refine cg (p:=λi j=>decide (i<=j)) (q:=λi j=>decide (i<=j)) (i:=fl p 2) (j:=fl r 4) (k:=fl p 3) (dZ rfl) (dZ rfl) (dZ rfl) _ ⟨_,rfl,?_⟩;dsimp only;cases e6:(decide (fl p 2<=fl r 4)&&decide (fl r 4<=fl p 3))with|false=>rw[e6]at fin;exact bw (fin H (Same.refl H));|true=>
 rw[e6]at fin;rw[zAc,z17,z17]at e6;refine bx (cB ?_);dsimp only;refine⟨_,rfl,_,rfl,_,_,rfl,rfl,fl r 4,fl p 3+1,rfl,⟨z00,z00,z00,z00⟩,?_⟩;refine xx (λys Hc=>Same H Hc/\ys=((years (fl r 4) (fl p 3)).take ys.length).map λy=>V.int (g (fl r 0) y (fl r 1))) ⟨Same.refl _,rfl⟩ z05 ?_ ?_
 .rintro i ys Hc Qc hi hy⟨sc,ey⟩qc;refine⟨_,rfl,_,rfl,_,rfl,zL,λk hk=>?_⟩;have sk:=sc.updR (o:=.tup [V.int (fl r 0),V.int (fl r 4+i)]) hk;have dk:=dt.same sk;obtain⟨d,kv,q1,q2,q3,q4⟩:=dk.g (fl r 0) (fl r 4+i) ⟨e1.1,e1.2,by rw[ep];lia,by rw[ep];lia⟩;refine⟨fo,.ref d,rfl,by rw[<-q1];exact DGet.t dk.e ao,?_⟩;refine⟨d,rfl,.inl ⟨kv,.inl q2⟩,_,rfl,_,DGet.k (k:=.inl (fl r 1)) q2,?_⟩;rw[q4 _ e2.1 e2.2];refine qc _ _ ⟨sk,?_⟩;have hx:(years (fl r 4) (fl p 3))[ys.length]?=some (fl r 4+(i:Int)):=by rw[hy];exact nY hi
  exact u5 ey hx
 .rintro ys Hc hy⟨sc,ey⟩D hD;rw[Zal (by rw[nW,hy];exact zA3 _)]at ey;refine⟨D,(years (fl r 4) (fl p 3)).map λy=>g (fl r 0) y (fl r 1),rfl,SqL.of (by rw[zAr];rw[ey];exact ao),?_,λM h1 h2=>⟨_,rfl,_,_,rfl,rfl,?_⟩⟩;.intro z;have:=congrArg List.length z;rw[zA1,nW,List.length_nil]at this;lia
  .have em:=JQ (k:=fl r 3) h1 h2;rw[List.all_map]at em;show Q (.bl (decide (fl r 3<=M))) _;rw[em];exact fin _ (sc.updR hD)
def dl(s:WF)(h:Int):Int:=(if h=fl s 2 then fl s 3 else 0)-(if h=fl s 1 then fl s 3 else 0)
def fS(f:Int->Int->Int->Int)(s:WF)(n y h:Int):Int:=if n=fl s 0/\fl s 4<=y then f n y h+dl s h else f n y h
theorem JR:upd (upd H d a) d b=upd H d b:=by
 funext c;by_cases h:c=d;.subst h;rw[ao,ao]
 .rw[aD h,aD h,aD h]
theorem xR(hl:L.length=8)(i0:0<=i)(i1:i<8)(h0:0<=h)(h1:h<8):(lu L i v).getD h.toNat 0=L.getD h.toNat 0+(if h=i then v else 0):=by
 unfold lu;rw[zA7,List.getElem?_set];by_cases hh:h=i;.subst hh;rw[zAz rfl,zAz rfl,zAz z00];rfl
 .rw[zAy z00,zAy hh,<-zA7];lia
theorem Dk(hl:L.length=8)(ok:okS s)(h0:0<=h)(h1:h<8):(hstep n y L s).getD h.toNat 0=if n=fl s 0/\fl s 4<=y then L.getD h.toNat 0+dl s h else L.getD h.toNat 0:=by
 obtain⟨_,⟨a1,a2⟩,b1,b2⟩:=ok;unfold hstep dl;by_cases hc:fl s 0=n/\fl s 4<=y;.rw[zAz hc,zAz ⟨hc.1.symm,hc.2⟩,xR (by rw[jE];exact hl) b1 b2 h0 h1,xR hl a1 a2 h0 h1];split<;>split<;>lia
 .rw[zAy hc,zAy λz=>hc ⟨z.1.symm,z.2⟩]
theorem Dl(kC:fl p 2<=y/\y<=fl p 3)(ok:okS s)(h0:0<=h)(h1:h<8):(cz p (ss++[s]) n y).getD h.toNat 0=if n=fl s 0/\fl s 4<=y then(cz p ss n y).getD h.toNat 0+dl s h else(cz p ss n y).getD h.toNat 0:=by
 have hl:=gK p ss n y;have e:cz p (ss++[s]) n y=hstep n y (cz p ss n y) s:=by unfold cz;rw[zAz kC,zAz kC,List.foldl_append];rfl
 rw[e,Dk hl ok h0 h1]
inductive SpSellI(vs:List V)(H:Hp)(Q:VK):Prop|mk:∀ap xp ps fo H0 f b z07 t s,(vs=[.ref ap,.ref fo,.ref t])->(RowsAt H ap xp ps)->((∀r∈ps,okP r))->(Dts fo H0 H (dom ps) f (λ_ _=>b) z07)->(b<=1000)->(H t=some (.tup (s.map V.int)))->(s.length=5)->(qQ ps f s=true)->(∀H',Dts fo H0 H' (dom ps) (fS f s) (λ_ _=>b+2) z07->Q .non H')->SpSellI  vs H Q
def GR:Sp:=λvs H Q _=>SpSellI  vs H Q
theorem sc36s:FnScope [AAc,AAg,AAk,AAu,ABb,"_law_buyer","_law_sacks",AAj,AAo,"_law_row"] [AAc,AAg,AAk] (aC (top 90)):=fQS
theorem JS(F:Fun K "_law_sell" "_law_sell" (top 90) f fd)(Tr:mg "range"=none):FnOk P w K mg base CX0 1 f fd [AAc,AAg,AAk] GR:=by
 refine F.oq sc36s λaf A outer s H vs Q E hr h=>?_;obtain⟨ap,xp,ps,fo,H0,g,b,z07,t,r,rfl,rp,okp,dt,hb,et,h5,hh,q⟩:=h;refine⟨_,aA (cO (pv 2) (bU rfl (az (pgn 3 sc36s.nd) (az (pgn 4 sc36s.nd) (az (pgn 5 sc36s.nd) (az (pgn 6 sc36s.nd) (az (pgn 7 sc36s.nd) aX))))))) (aF (cP zB8 rfl (jM rfl Tr (aq (pv 7) (aq (aV bI (pX bQ (pX bQ (pv 0) (pv 3)) aB) aB) aj))) (pgn 8 sc36s.nd) (aA (pss 9 sc36s.nd (uJ (oG hr) (pv 1) (cJ (aq (pv 3) (aq (pv 8) aj))) (λ_ _=>rfl))) (aA (uK (oG hr) (pv 9) (pv 4) (aV fU (uJ (oG hr) (pv 9) (pv 4) (λ_ _=>rfl)) (pv 6)) rfl) (aF (uK (oG hr) (pv 9) (pv 5) (aV bI (wk (oG hr) (pv 9) (pv 5) aB (by constructor<;>rfl)) (pv 6)) rfl)))))),?_⟩;rw[jF h5]at et;unfold qQ rT at hh;simp only[Bool.and_eq_true,z17,Bool.not_eq_true',decide_eq_false_iff_not]at hh;obtain⟨⟨⟨n0,n1⟩,⟨a1,a2⟩,⟨b1,b2⟩,JO,⟨k1,k2⟩,y0,y1⟩,hy⟩:=hh;obtain⟨p,hp,ep,op⟩:=gJ okp n0 n1;have we:qK ps r=p:=ep;rw[we]at y0 y1 hy;obtain⟨tp,dv,fI⟩:=ir rp n0 hp;rw[fM op.1]at fI;obtain⟨_,_,_,⟨g1,g2,g3⟩,_⟩:=id op;refine aG ?_;refine⟨_,rfl,t,_,rfl,SqT.of et,rfl,_,_,rfl,_,_,rfl,_,_,rfl,_,_,rfl,_,_,rfl,rfl,?_⟩;dsimp only;refine⟨_,rfl,_,rfl,_,rfl,ap,xp,_,.ref tp,rfl,rfl,SqT.of rp.e,dv,tp,_,3,.int (fl p 3),rfl,rfl,SqT.of fI,rfl,_,_,rfl,rfl,fl r 4,fl p 3+1,rfl,⟨z00,z00,z00,z00⟩,?_⟩;refine d9 (lo:=fl r 4) (n:=(fl p 3+1-fl r 4).toNat) (λj σ Hj=>∃x8 x9,σ=[some (.ref ap),some (.ref fo),some (.ref t),some (.int (fl r 0)),some (.int (fl r 1)),some (.int (fl r 2)),some (.int (fl r 3)),some (.int (fl r 4)),x8,x9]/\Dts fo H0 Hj (dom ps) (λn y h=>if n=fl r 0/\fl r 4<=y/\y<fl r 4+j then g n y h+dl r h else g n y h) (λn y=>if n=fl r 0/\fl r 4<=y/\y<fl r 4+j then b+2 else b) z07) ?_ ?_ ?_;.refine⟨none,none,rfl,dt.cast λn y hd=>?_⟩;rw[zAy z00];exact⟨zA3 _,λh _ _=>by rw[zAy z00]⟩
 .rintro j σ Hj hj⟨x8,x9,rfl,dj⟩;refine aK (aG ?_);refine aU ?_;refine⟨_,rfl,_,rfl,_,rfl,zL,λk hk=>?_⟩;have dk:=dj.new (o:=.tup [V.int (fl r 0),V.int (fl r 4+j)]) hk;have ek:upd Hj k (.tup [V.int (fl r 0),V.int (fl r 4+j)]) k=some (.tup ((ky (fl r 0) (fl r 4+j)).map kV)):=ao;generalize upd Hj k (.tup [V.int (fl r 0),V.int (fl r 4+j)])=H1 at dk ek⊢;have KO:dom ps (fl r 0) (fl r 4+j):=⟨n0,n1,by rw[ep];lia,by rw[ep];lia⟩;obtain⟨d,kv,q1,q2,⟨q3,qk⟩,q4⟩:=dk.g _ _ KO;rw[zAy z00]at q3;refine⟨fo,.ref d,rfl,by rw[<-q1];exact DGet.t dk.e ek,?_⟩;refine aK ?_;dsimp only;have kG:=q4 (fl r 1) a1 a2;rw[zAy z00]at kG;have kD:fl r 3<=g (fl r 0) (fl r 4+j) (fl r 1):=by have:=Zae.mp hy (fl r 4+j) (zB5 (nY hj));exact zBd this
  have KP:dY kv (.inl (fl r 1))=some (.int (g (fl r 0) (fl r 4+j) (fl r 1))):=by cases ev:dY kv (.inl (fl r 1))with|none=>rw[ev]at kG;injection kG with kG;lia;|some v=>rw[ev]at kG;exact congrArg some kG
  have DM:=q4 (fl r 2) b1 b2;rw[zAy z00]at DM;refine aG ?_;refine⟨_,rfl,_,rfl,d,_,rfl,by rw[<-KP];exact DGet.k (k:=.inl (fl r 1)) q2,_,rfl,_,_,rfl,rfl,_,rfl,_,rfl,d,_,rfl,DPut.k (k:=.inl (fl r 1)) q2 z05,?_⟩;dsimp only;have lp1:=dw kv (.inl (fl r 1)) (V.int (g (fl r 0) (fl r 4+j) (fl r 1)-fl r 3));have vb:(dY (putK kv (.inl (fl r 1)) (V.int (g (fl r 0) (fl r 4+j) (fl r 1)-fl r 3))) (.inl (fl r 2))).getD (.int 0)=.int (g (fl r 0) (fl r 4+j) (fl r 2)):=by rw[gn,zAy (λz=>JO (by injection z with z;exact z.symm))];exact DM
  refine⟨_,rfl,d,rfl,.inl ⟨_,.inl ao⟩,_,rfl,_,DGet.k (k:=.inl (fl r 2)) ao,_,rfl,_,_,vb,rfl,_,rfl,_,rfl,d,_,rfl,DPut.k (k:=.inl (fl r 2)) ao z05,?_⟩;have lp2:=dw (putK kv (.inl (fl r 1)) (V.int (g (fl r 0) (fl r 4+j) (fl r 1)-fl r 3))) (.inl (fl r 2)) (V.int (g (fl r 0) (fl r 4+j) (fl r 2)+fl r 3));refine⟨_,_,rfl,?_⟩;rw[JR];refine dk.wr q1 ⟨⟨?_,(qk.put a1 a2 _).put b1 b2 _⟩,λh h0 h8=>?_⟩ λn y hd fy=>⟨?_,λh h0 h8=>?_⟩;.rw[zAz ⟨rfl,z00,z00⟩];exact Zaf (dw _ _ _) (Nat.succ_le_succ (Zaf (dw _ _ _) (Nat.succ_le_succ q3)))
  .rw[zAz ⟨rfl,z00,z00⟩,gn];unfold dl;by_cases nv:h=fl r 2;.rw[zAz (by rw[nv]),zAz nv,zAy (λz=>JO (z.symm.trans nv))];show V.int _=V.int _;rw[nv];congr 1;lia
   .rw[zAy (λz=>nv (by injection z)),zAy nv,gn];by_cases iN:h=fl r 1;.rw[zAz (by rw[iN]),zAz iN];show V.int _=V.int _;rw[iN];congr 1;lia
    .rw[zAy (λz=>iN (by injection z)),zAy iN];have:=q4 h h0 h8;rw[zAy z00]at this;rw[this];congr 1;lia
  .split<;>split<;>lia
  .by_cases hc:n=fl r 0/\fl r 4<=y/\y<fl r 4+j;.rw[zAz hc,zAz ⟨hc.1,hc.2.1,z00⟩]
   .rw[zAy hc,zAy λz=>hc ⟨z.1,z.2.1,by have:y≠fl r 4+j:=λw=>fy ⟨z.1,w⟩;lia⟩]
 .rintro σ Hj⟨x8,x9,rfl,dj⟩;refine q Hj (dj.cast λn y hd=>⟨by split<;>lia,λh h0 h8=>?_⟩);unfold fS;by_cases hc:n=fl r 0/\fl r 4<=y
  .have:y<=fl p 3:=by have:=hd.2.2.2;rw[hc.1,ep]at this;exact this
   rw[zAz hc,zAz ⟨hc.1,hc.2,z00⟩]
  .rw[zAy hc,zAy λz=>hc ⟨z.1,z.2.1⟩]
inductive SpSoldRI(vs:List V)(H:Hp)(Q:VK):Prop|mk:∀ap xp ps ai xs ss,(vs=[.ref ap,.ref ai])->(RowsAt H ap xp ps)->(ps.length<=10)->((∀r∈ps,okP r))->(RowsAt H ai xs ss)->(ss.length<=100)->((∀s∈ss,s.length=5))->(∀t fo H',Same H H'->H' t=some (.tup [.ref fo,unV (un ps ss)])->(un ps ss=none->∃b z07,Dts fo H H' (dom ps) (λn y h=>(cz (ps.getD n.toNat []) ss n y).getD h.toNat 0) b z07)->Q (.ref t) H')->SpSoldRI  vs H Q
def Bl:Sp:=λvs H Q _=>SpSoldRI  vs H Q
inductive SpSoldI(vs:List V)(H:Hp)(Q:VK):Prop|mk:∀ap xp ps ai xs ss,(vs=[.ref ap,.ref ai])->(RowsAt H ap xp ps)->(ps.length<=10)->((∀r∈ps,okP r))->(RowsAt H ai xs ss)->(ss.length<=100)->((∀s∈ss,s.length=5))->(∀t fo H',Same H H'->H' t=some (.tup [.ref fo,unV (un ps ss)])->Q (.ref t) H')->SpSoldI  vs H Q
def za:Sp:=λvs H Q _=>SpSoldI  vs H Q
theorem GX(ok:okP (ps.getD n.toNat []))(kC:fl (ps.getD n.toNat []) 2<=y/\y<=fl (ps.getD n.toNat []) 3)(h0:0<=h)(h8:h<8):(cz (ps.getD n.toNat []) [] n y).getD h.toNat 0=f0 ps n y h:=by
 unfold cz f0;rw[zAz kC];generalize ps.getD n.toNat []=p at ok;obtain⟨_,⟨a1,a2⟩,_⟩:=ok;show(base0 p).getD h.toNat 0=_;unfold base0;rw[zA7,List.getElem?_set];by_cases hh:h=fl p 0;.rw[zAz (by rw[hh]),zAz (by rw[Za9];lia),zAz hh];rfl
 .rw[zAy z00,zAy hh,List.getElem?_replicate,zAz z00];rfl
theorem sc37s:FnScope [AAc,AAe,AAg,"_law_at",AAk] [AAc,AAe] (aC (top 91)):=fQS
theorem GZ(F:Fun K "_law_sold" "_law_sold" (top 91) f fd)(Te:mg "enumerate"=none)(c1:Cal P w K mg base 1 "_law_begun" [AAc] Bj)(c2:Cal P w K mg base 1 "_law_holds" [AAc,AAg,AAk] xQ)(c3:Cal P w K mg base 1 "_law_sell" [AAc,AAg,AAk] GR):FnOk P w K mg base CX0 2 f fd [AAc,AAe] Bl:=by
 refine F.oq sc37s λaf A outer s H vs Q E hr h=>?_;obtain⟨ap,xp,ps,ai,xs,ss,rfl,rp,lp,okp,rs,ls,cx,q⟩:=h;refine⟨_,aA (pss 2 sc37s.nd (aJ c1 hr (aq (pv 0) aj))) (aA (cP zB8 rfl (ZT.pi_enum true rfl Te (aq (pv 1) aj)) (bU rfl (az (pgn 3 sc37s.nd) (az (pgn 4 sc37s.nd) aX))) (aA (bV (bH (bY (aJ c2 hr (aq (pv 0) (aq (pv 2) (aq (pv 4) aj)))))) (aF (aN (cJ (aq (pv 2) (aq (pv 3) aj))))) bh) (aF (bf (aJ c3 hr (aq (pv 0) (aq (pv 2) (aq (pv 4) aj)))))))) (aF (aN (cJ (aq (pv 2) (aq iw aj)))))),?_⟩;refine aG (aU ?_);refine⟨_,rfl,ap,xp,ps,rfl,rp,lp,okp,λfo H1 z07 d1=>?_⟩;refine aK ?_;dsimp only;refine aG ?_;refine⟨_,rfl,ai,xs,rfl,SqT.of (d1.sm _ _ rs.e),?_⟩;have U9:∀n y,dom ps n y->okP (ps.getD n.toNat []):=λn y hd=>by obtain⟨p,_,e2,e3⟩:=gJ okp hd.1 hd.2.1;rw[e2];exact e3
 refine ZT.for_enum true (xs:=xs) (λi σ Hc=>∃x3 x4,σ=[some (.ref ap),some (.ref ai),some (.ref fo),x3,x4]/\Dts fo H Hc (dom ps) (λn y h=>(cz (ps.getD n.toNat []) (ss.take i) n y).getD h.toNat 0) (λ_ _=>1+2*i) z07/\∀j,j<i->eV ps (ss.take j) (ss.getD j [])=true) ?_ ?_ ?_ ?_;.exact⟨none,none,rfl,d1.cast λn y hd=>⟨zA3 _,λh h0 h8=>GX (U9 n y hd) hd.2.2 h0 h8⟩,λj hj=>absurd hj (Nat.not_lt_zero _)⟩
 .rintro i σ Hc hi⟨x3,x4,rfl,dt,hh⟩;exact SqT.of (dt.sm _ _ rs.e)
 .rintro i x σ Hc T0 hx⟨x3,x4,rfl,dt,hh⟩nT;have hi:i<ss.length:=by have:=(zAa.mp hx).1;rw[rs.l]at this;exact this
  obtain⟨tr,gx,eB⟩:=rs.g i ss[i] (zA0 hi);have:x=.ref tr:=by rw[hx]at gx;exact zAl gx
  subst this;have h5:=cx ss[i] (zAh hi);have dT:=dt.new (o:=.tup [V.int i,V.ref tr]) nT;have eT:upd Hc T0 (.tup [V.int i,V.ref tr]) T0=some (.tup [V.int i,V.ref tr]):=ao;generalize upd Hc T0 (.tup [V.int i,V.ref tr])=H2 at dT eT⊢;refine⟨T0,_,rfl,SqT.of eT,rfl,_,_,rfl,_,_,rfl,rfl,?_⟩;refine aG ?_;refine⟨_,rfl,_,rfl,_,rfl,ap,xp,ps,fo,H,_,_,z07,tr,ss[i],rfl,rp.same dT.sm,okp,dT,dT.sm _ _ eB,h5,λH3 s3=>⟨_,rfl,?_⟩⟩;have d3:=dT.same s3;have KS:qQ ps (λn y h=>(cz (ps.getD n.toNat []) (ss.take i) n y).getD h.toNat 0) ss[i]=eV ps (ss.take i) ss[i]:=rfl
  cases eh:eV ps (ss.take i) ss[i]with|false=>
   rw[KS,eh];refine bw ⟨_,rfl,_,rfl,zL,λt ht=>q t fo _ (d3.sm.updR ht) ?_ λz=>?_⟩;.rw[v7 hh hi (by rw[getD_get hi];exact eh)];exact ao
   .rw[v7 hh hi (by rw[getD_get hi];exact eh)]at z;cases z;|true=>
   rw[KS,eh];refine bx (cB ?_);refine⟨_,rfl,_,rfl,_,rfl,ap,xp,ps,fo,H,_,1+2*i,z07,tr,ss[i],rfl,rp.same d3.sm,okp,d3,z00,d3.sm _ _ eB,h5,KS.trans eh,λH4 d4=>?_⟩;have hZ:ss.take (i+1)=ss.take i++[ss[i]]:=by rw[zAj,zA0 hi];rfl
   refine⟨_,_,rfl,d4.cast λn y hd=>⟨z00,λh h0 h8=>?_⟩,λj hj=>?_⟩;.rw[hZ,Dl hd.2.2 (mR h5 eh) h0 h8];rfl
   .rcases Nat.lt_succ_iff_lt_or_eq.mp hj with z|z;.exact hh j z
    .rw[z,getD_get hi];exact eh
 .rintro σ Hc⟨x3,x4,rfl,dt,hh⟩;refine⟨_,rfl,zL,λt ht=>q t fo _ (dt.sm.updR ht) ?_ λ_=>?_⟩;.rw[Az λj hj=>hh j (by rw[rs.l];exact hj)];exact ao
  .rw[show xs.length=ss.length from rs.l,zAm]at dt;exact⟨_,z07,dt.new ht⟩
theorem JT(F:FnOk P w K mg base CX0 2 f fd [AAc,AAe] Bl):FnOk P w K mg base CX0 2 f fd [AAc,AAe] za:=by refine F.imp λvs H Q E h=>?_;obtain⟨ap,xp,ps,ai,xs,ss,rfl,rp,lp,okp,rs,ls,cx,q⟩:=h;exact⟨ap,xp,ps,ai,xs,ss,rfl,rp,lp,okp,rs,ls,cx,λt fo H' s e _=>q t fo H' s e⟩
def PN(st:Addr)(H:Hp)(n:Int)(v:V)(H':Hp):Prop:=∃ps,But st H H'/\gY H' st/\IsTh (λ_=>False) H' v (cN ps)/\(ps.length:Int)<=n/\∀r∈ps,okP r
inductive SpProms2I(vs:List V)(H:Hp)(Q:VK):Prop|mk:∀st n y,(vs=[.ref st,.int n,.int y])->(gY H st)->(1<=n)->(n<=10)->(0<=y)->(y<=1000)->(∀v H',PN st H n v H'->Q v H')->SpProms2I  vs H Q
def xT:Sp:=λvs H Q _=>SpProms2I  vs H Q
theorem vC(F:Fun K ABe ABe (top 87) f fd)(T:Mg mg)(Tr:mg "range"=none)(Tm:mg "min"=none)(c1:Cal P w K mg base 1 AAn [AAa,AAi] jD):FnOk P w K mg base CX0 2 f fd [AAa,AAf,AAl] xT:=by
 refine F.oq sc22 λaf A outer s H vs Q E hr h=>?_;obtain⟨st,n,y,rfl,dP,n1,n2,y1,y2,q⟩:=h;refine⟨_,aA (yh (i:=3) (j:=4) rfl sc22.nd rfl rfl z02 rfl rfl (aq (cY aj) (aq (pX bF (cY (jP (by repeat constructor))) (aJ c1 hr (aq (pv 0) (aq aB aj)))) aj)) rfl) (aA (cP zB8 rfl (bK rfl Tr (aq (aJ c1 hr (aq (pv 0) (aq (aV bI (pv 1) aB) aj))) aj)) (pgn 5 sc22.nd) (aA (pss 6 sc22.nd (aJ c1 hr (aq (pv 0) (aq (aM (jN rfl) rfl Tm boot_min (aq aB (aq (aV bI (pv 2) aB) aj))) aj)))) (aA (pss 7 sc22.nd (aM (jN rfl) rfl Tm boot_min (aq aB (aq (aV bI (pv 6) (aJ c1 hr (aq (pv 0) (aq (pX bF (cY (jP (by repeat constructor))) (aJ c1 hr (aq (pv 0) (aq aB aj)))) aj)))) aj)))) (aA (pss 8 sc22.nd (pX bF (uN (kW aB (kW aB (kW (aJ c1 hr (aq (pv 0) (aq aB aj))) (kW (aV nj aB aB) bG))))) (aJ c1 hr (aq (pv 0) (aq aB aj))))) (aA (pss 9 sc22.nd (pX bF (uN (kW aB (kW aB (kW aB (kW (aJ c1 hr (aq (pv 0) (aq aB aj))) bG))))) (aJ c1 hr (aq (pv 0) (aq aB aj))))) (aF (bf (eZ zB4 zBa zB9 cA (pv 3) (aq (Km (gP (aZ ⟨pv 9⟩ (aZ ⟨aJ c1 hr (aq (pv 0) (aq aB aj))⟩ (aZ ⟨pv 6⟩ (aZ ⟨pv 7⟩ (aZ ⟨aV bI aB (aJ c1 hr (aq (pv 0) (aq (pv 4) aj)))⟩ (aZ ⟨pv 8⟩ bG)))))))) aj))))))))) (aF (aN (dH cZ rfl T.tuple boot_tuple (aq (pv 3) aj))))),?_⟩;obtain⟨a,b,es,h1,h2,h3⟩:=id dP;refine aG ?_;refine⟨zL,λp3 ja=>?_⟩;have hV:p3≠st:=λz=>by rw[z,es]at ja;cases ja
 have g0:Mk3 st p3 [] [] H (upd H p3 (.lst [])):=⟨λb' o' e' _=>Same.upd ja _ _ e',⟨a,b,Same.upd ja _ _ es,h1,h2,h3⟩,ao,.nil⟩;refine⟨zL,λp hp=>?_⟩;have g1:=g0.new (o:=.lst (([3,12,99]:WF).map V.int)) hp;have np:p≠st:=λz=>by obtain⟨x,y,e7,_⟩:=g0.sa;rw[z,e7]at hp;cases hp
 refine⟨_,rfl,st,3,rfl,g1.sa,by decide,by decide,λr a1 b1 r0 r1 k1 k2 k3=>?_⟩;obtain⟨wd,hw,w1,w2⟩:∃wd:Int,atI (([3,12,99]:WF).map V.int) r=some (.int wd)/\1<=wd/\wd<=99:=by
  have:r=0\/r=1\/r=2:=z00;rcases this with rfl|rfl|rfl;.exact⟨3,rfl,by decide,by decide⟩
  .exact⟨12,rfl,by decide,by decide⟩
  .exact⟨99,rfl,by decide,by decide⟩
 refine⟨p,_,r,.int wd,rfl,rfl,SqL.of (by rw[aD np];exact ao),hw,_,_,rfl,?_⟩;have g2:=g1.take hV k1 k2 k3;dsimp only;refine aG ?_;refine⟨_,rfl,_,rfl,_,_,rfl,rfl,st,n+1,rfl,g2.sa,z00,z00,λr2 a2 b2 x0 x1 z1 z2 z3=>⟨r2,rfl,z00,z00,?_⟩⟩;have g3:=g2.take hV z1 z2 z3;refine d9 (lo:=0) (n:=r2.toNat) (λi σ H'=>∃xs ds x5 x6 x7 x8 x9,σ=[some (.ref st),some (.int n),some (.int y),some (.ref p3),some (.int wd),x5,x6,x7,x8,x9]/\Mk3 st p3 xs ds H H'/\(∃rs:UV,ds=rs.map jn/\rs.length=i/\∀r∈rs,okP r)/\xs.length=i) ?_ ?_ ?_;.exact⟨[],[],none,none,none,none,none,rfl,g3,⟨[],rfl,rfl,λ_ h=>nomatch h⟩,rfl⟩
 .rintro i σ H' hi⟨xs,ds,x5,x6,x7,x8,x9,rfl,g,⟨rs,KU,PD,kU⟩,hl⟩;have DO:∀{Hc:Hp}{c:Addr},Mk3 st p3 xs ds H Hc->Hc c=none->c≠st:=λ{Hc c}gc hc z=>by obtain⟨x,y,e7,_⟩:=gc.sa;rw[z,e7]at hc;cases hc
  refine aK (aG ?_);refine aU ?_;refine⟨_,rfl,_,rfl,_,_,rfl,rfl,_,_,rfl,st,_,rfl,g.sa,by split<;>lia,by split<;>lia,λf1 a3 b3 o0 o1 o2 o3 o4=>?_⟩;have g4:=g.take hV o2 o3 o4;have f2:f1<20:=by split at o1<;>lia
  refine aK ?_;dsimp only;refine aG (aU ?_);refine⟨_,rfl,_,rfl,zL,λp5 sf=>?_⟩;have n5:=DO g4 sf;have g5:=g4.new (o:=.lst (([1,4,20]:WF).map V.int)) sf;refine⟨_,rfl,st,3,rfl,g5.sa,by decide,by decide,λr4 a4 b4 q0 q1 q2 q3 q4=>?_⟩;obtain⟨w5,Va,w6,w7⟩:∃w5:Int,atI (([1,4,20]:WF).map V.int) r4=some (.int w5)/\1<=w5/\w5<=20:=by
   have:r4=0\/r4=1\/r4=2:=z00;rcases this with rfl|rfl|rfl;.exact⟨1,rfl,by decide,by decide⟩
   .exact⟨4,rfl,by decide,by decide⟩
   .exact⟨20,rfl,by decide,by decide⟩
  have g6:=g5.take hV q2 q3 q4;refine⟨p5,_,r4,.int w5,rfl,rfl,SqL.of (by rw[aD n5];exact ao),Va,st,w5,rfl,g6.sa,w6,z00,λr5 a5 b5 s0 s1 s2 s3 s4=>⟨_,_,rfl,rfl,_,_,rfl,?_⟩⟩;have g7:=g6.take hV s2 s3 s4;refine aK ?_;dsimp only;refine aG (aU ?_);refine⟨_,rfl,st,1000,rfl,g7.sa,by decide,by decide,λr6 a6 b6 t0 t1 t2 t3 t4=>⟨_,_,rfl,rfl,⟨by decide,by decide,by decide⟩,zL,λp6 zo=>?_⟩⟩;have g8:=g7.take hV t2 t3 t4;have n6:=DO g8 zo;have g9:=g8.new (o:=.lst [V.int 0,V.int 1,V.int r6,V.int (10^(6:Int).toNat)]) zo;refine⟨_,rfl,st,4,rfl,g9.sa,by decide,by decide,λr7 a7 b7 u0 u1 u2 u3 u4=>?_⟩;obtain⟨pr,Vb,Vc,Vd⟩:∃pr:Int,atI [V.int 0,V.int 1,V.int r6,V.int (10^(6:Int).toNat)] r7=some (.int pr)/\0<=pr/\pr<=1000000:=by
   have:r7=0\/r7=1\/r7=2\/r7=3:=z00;rcases this with rfl|rfl|rfl|rfl;.exact⟨0,rfl,by decide,by decide⟩
   .exact⟨1,rfl,by decide,by decide⟩
   .exact⟨r6,rfl,t0,z00⟩
   .exact⟨_,rfl,by decide,by decide⟩
  have ga:=g9.take hV u2 u3 u4;refine⟨p6,_,r7,.int pr,rfl,rfl,SqL.of (by rw[aD n6];exact ao),Vb,?_⟩;refine aK ?_;dsimp only;refine aG (aU ?_);refine⟨_,rfl,st,8,rfl,ga.sa,by decide,by decide,λr8 a8 b8 v0 v1 v2 v3 v4=>⟨zL,λp7 zt=>?_⟩⟩;have gb:=ga.take hV v2 v3 v4;have n7:=DO gb zt;have gc:=gb.new (o:=.lst [V.int 0,V.int 1,V.int 2,V.int r8]) zt;refine⟨_,rfl,st,4,rfl,gc.sa,by decide,by decide,λr9 a9 b9 y0 y3 y4 y5 y6=>?_⟩;obtain⟨ho,Ve,Vf,nN⟩:∃ho:Int,atI [V.int 0,V.int 1,V.int 2,V.int r8] r9=some (.int ho)/\0<=ho/\ho<8:=by
   have:r9=0\/r9=1\/r9=2\/r9=3:=z00;rcases this with rfl|rfl|rfl|rfl;.exact⟨0,rfl,by decide,by decide⟩
   .exact⟨1,rfl,by decide,by decide⟩
   .exact⟨2,rfl,by decide,by decide⟩
   .exact⟨r8,rfl,v0,v1⟩
  have gd:=gc.take hV y4 y5 y6;refine⟨p7,_,r9,.int ho,rfl,rfl,SqL.of (by rw[aD n7];exact ao),Ve,?_⟩;refine aK ?_;dsimp only;refine⟨_,rfl,.inl ⟨rfl,_,SqL.of gd.e3⟩,?_⟩;refine⟨_,rfl,_,rfl,st,3,rfl,gd.sa,by decide,by decide,λra aa ba c0 c1 c2 c3 c4=>?_⟩;have ge:=gd.take hV c2 c3 c4;refine⟨_,rfl,_,rfl,_,rfl,_,rfl,st,wd,rfl,ge.sa,w1,z00,λrb ab bb d0 d1 d2 d3 d4=>⟨_,_,rfl,rfl,_,rfl,zL,λl fq=>?_⟩⟩;have gf:=ge.take hV d2 d3 d4;have gg:=gf.new (o:=.tup [V.int ho,V.int ra,V.int f1,V.int (if f1+r5<19 then f1+r5 else 19),V.int (1+rb),V.int pr]) fq;have Ct:l≠p3:=λz=>by rw[z,gf.e3]at fq;cases fq
  refine⟨p3,xs,.ref l,rfl,rfl,gg.e3,by rw[hl,sizeLine_eq];lia,?_⟩;refine⟨xs++[.ref l],ds++[.tuple [.int ho,.int ra,.int f1,.int (if f1+r5<19 then f1+r5 else 19),.int (1+rb),.int pr]],_,_,_,_,_,rfl,⟨λb' o' e' ne=>?_,?_,ao,?_⟩,?_,by rw[zA2,hl];rfl⟩;.have:b'≠p3:=aH e' ja;rw[aD this];exact gg.bt b' o' e' ne
  .obtain⟨x,y',e7,k⟩:=gg.sa;exact⟨x,y',by rw[aD hV.symm];exact e7,k⟩
  .refine IsThs.append (gg.ts.keep (λc l' e'=>?_) (λ_ _ z _=>z.elim) λ_ _ z _=>z.elim) (.cons (.tup (by rw[aD Ct];exact ao) (.cons (.int _) (.cons (.int _) (.cons (.int _) (.cons (.int _) (.cons (.int _) (.cons (.int _) .nil))))))) .nil);have:c≠p3:=λz=>by rw[z,gg.e3]at e';cases e'
   rw[aD this];exact e'
  .refine⟨rs++[[ho,ra,f1,(if f1+r5<19 then f1+r5 else 19),1+rb,pr]],by rw[KU,zA4];rfl,by rw[zA2,PD];rfl,λr hr=>?_⟩;rcases zA6.mp hr with z|z;.exact kU r z
   .rw[Zad.mp z];have lb:f1<=(if f1+r5<19 then f1+r5 else 19)/\(if f1+r5<19 then f1+r5 else 19)<=19:=by split<;>lia
    exact⟨rfl,⟨Vf,nN⟩,⟨c0,c1⟩,⟨o0,lb.1,lb.2⟩,⟨(by show 1<=1+rb;lia),(by show 1+rb<=99;lia)⟩,Vc,Vd⟩
 .rintro σ H'⟨xs,ds,x5,x6,x7,x8,x9,rfl,g,⟨rs,KU,PD,kU⟩,hl⟩;refine⟨_,rfl,p3,xs,rfl,.inl ⟨SqL.of g.e3,λl fq=>?_⟩⟩;have g':=g.new (o:=.tup xs) fq;rw[KU]at g';exact q _ _ ⟨rs,g'.bt,g'.sa,.tup ao (g'.ts.keep (λ_ _ e=>e) (λ_ _ z _=>z.elim) λ_ _ z _=>z.elim),z00,kU⟩
theorem Bm:OpR X (binaryOp .Add) (λx y H Q=>∃a b xs ys,x=.ref a/\y=.ref b/\H a=some (.tup xs)/\H b=some (.tup ys)/\ys≠[]/\xs.length+ys.length<=sizeLine/\∀c H',Same H H'->H' c=some (.tup (xs++ys))->Q (.ref c) H'):=by intro z06 s σ H x y v u Q I rx ry h;obtain⟨a,b,xs,ys,rfl,rfl,ha,hb,hy,hz,q⟩:=h;refine Ey z06 s σ H _ _ v u Q I rx ry ⟨a,b,xs,ys,rfl,rfl,SqT.of ha,SqT.of hb,hy,hz,λe=>q b H (Same.refl H) (by rw[e];exact hb),λ_ p hp=>q p _ (Same.upd hp) ao⟩
theorem JV:SlR X (λx lo hi H Q=>∃a xs,x=.ref a/\H a=some (.tup xs)/\∀c H',Same H H'->H' c=some (.tup (lG xs lo hi))->Q (.ref c) H'):=by intro z06 s σ H x v vl vu lo hi sl Q I rx hs pl pu h;obtain⟨a,xs,rfl,ha,q⟩:=h;refine zV z06 s σ H _ v vl vu lo hi sl Q I rx hs pl pu ⟨a,xs,rfl,SqT.of ha,λhw=>q a H (Same.refl H) ?_,λ_ p hp=>q p _ (Same.upd hp) ao⟩;rw[ha];unfold lG;rw[hw.1,hw.2,List.drop_zero,Nat.sub_zero,zAm]
theorem Dr.rows(g:Dr st H H')(h0:gY H st)(r:RowsAt H a xs rs):RowsAt H' a xs rs:=by obtain⟨x,y,e,_⟩:=h0;exact r.keep λb l e'=>g.bt _ _ e' λz=>by rw[z,e]at e';cases e'
theorem ud:bootBuiltins "max"=some (.builtin "max"):=by decide+kernel
theorem ue{r:WF}(h:RowsAt H a xs rs)(et:H t=some (.tup (r.map V.int)))(eb:H b=some (.tup (xs++[V.ref t]))):RowsAt H b (xs++[V.ref t]) (rs++[r]):=by
 refine⟨eb,by rw[zA2,zA2,h.l];rfl,λi r' e=>?_⟩;by_cases hi:i<rs.length;.rw[zBb hi]at e;rw[zBb (by rw[h.l];exact hi)];exact h.g i r' e
 .rw[zBc z00]at e;rw[zBc (by rw[h.l];lia),h.l];cases hj:i-rs.length with|zero=>rw[hj]at e;injection e with e;subst e;exact⟨t,rfl,et⟩;|succ k=>rw[hj]at e;simp at e
def smR(s:WF):Prop:=s.length=5/\∀i∈s,-10<=i/\i<=2000000
inductive SpAnyI(vs:List V)(H:Hp)(Q:VK):Prop|mk:∀st ap xp ps,(vs=[.ref st,.ref ap])->(gY H st)->(RowsAt H ap xp ps)->(ps.length<=10)->((∀r∈ps,okP r))->(∀t s H',Dr st H H'->H' t=some (.tup (s.map V.int))->smR s->Q (.ref t) H')->SpAnyI  vs H Q
def KC:Sp:=λvs H Q _=>SpAnyI  vs H Q
theorem sc38s:FnScope [AAa,AAc,AAu,"_law_holder","_law_sort","_law_first","_law_last","_law_sacks","_law_price",ABb,"_law_buyer",AAj] [AAa,AAc] (aC (top 92)):=fQS
theorem MN(F:Fun K ABf ABf (top 92) f fd)(T:Mg mg)(Tm:mg "max"=none)(c1:Cal P w K mg base 1 AAn [AAa,AAi] jD):FnOk P w K mg base CX0 2 f fd [AAa,AAc] KC:=by
 refine F.oq sc38s λaf A outer s H vs Q E hr h=>?_;obtain⟨st,ap,xp,ps,rfl,dP,rp,lp,okp,q⟩:=h;refine⟨_,aA (pss 2 sc38s.nd (aJ c1 hr (aq (pv 0) (aq (aM (sO rfl) rfl Tm ud (aq aB (aq (aM aW rfl T.len PySem.boot_len (aq (pv 1) aj)) aj))) aj)))) (aA (cO (pX bQ (aV Bm (pv 1) (cJ (aq (cJ (jP (by repeat constructor))) aj))) (pv 2)) (bU rfl (az (pgn 3 sc38s.nd) (az (pgn 4 sc38s.nd) (az (pgn 5 sc38s.nd) (az (pgn 6 sc38s.nd) (az (pgn 7 sc38s.nd) (az (pgn 8 sc38s.nd) aX)))))))) (aA (pss 9 sc38s.nd (pX bF (cY (aq (pv 3) (aq (pv 3) (aq (aJ c1 hr (aq (pv 0) (aq aB aj))) aj)))) (aJ c1 hr (aq (pv 0) (aq aB aj))))) (aA (pss 10 sc38s.nd (aV j7 (aV bI (aV bI (pv 9) aB) (aJ c1 hr (aq (pv 0) (aq aB aj)))) aB)) (aA (pss 11 sc38s.nd (aV bI (pv 5) (aJ c1 hr (aq (pv 0) (aq (aV bI (aV fU (pv 6) (pv 5)) aB) aj))))) (aF (aN (Km (gP (aZ ⟨pv 2⟩ (aZ ⟨pv 9⟩ (aZ ⟨pv 10⟩ (aZ ⟨aV bI aB (aJ c1 hr (aq (pv 0) (aq (pv 7) aj)))⟩ (aZ ⟨pv 11⟩ bG))))))))))))),?_⟩;have g0:Dr st H H:=⟨But.refl,dP⟩;have hxl:xp.length<=10:=by rw[rp.l];exact lp
 refine aG (aU ?_);refine⟨_,rfl,_,rfl,ap,xp,rfl,.inr (SqT.of rp.e),_,_,rfl,st,_,rfl,dP,?_,?_,λr1 a1 b1 r0 rn k1 k2 k3=>?_⟩;.split<;>lia
 .split<;>lia
 have g1:=g0.take k1 k2 k3;have zI:=g1.rows dP rp;have rn2:r1.toNat<xp.length+1:=by split at rn<;>lia
 generalize upd H st (.lst [.int a1,.int b1])=H1 at g1 zI⊢;refine aK ?_;dsimp only;refine aG ?_;refine⟨_,rfl,zL,λt0 PF=>⟨zL,λt1 DS=>?_⟩⟩;have g2:=(g1.new (o:=.tup (([0,0,0,3,9,0]:WF).map V.int)) PF).new (o:=.tup [V.ref t0]) DS;have m2:Same H1 (upd (upd H1 t0 (.tup (([0,0,0,3,9,0]:WF).map V.int))) t1 (.tup [V.ref t0])):=(Same.upd PF).updR DS;have PH:=Same.upd (o:=.tup [V.ref t0]) DS t0 (.tup (([0,0,0,3,9,0]:WF).map V.int)) ao;have PR:upd (upd H1 t0 (.tup (([0,0,0,3,9,0]:WF).map V.int))) t1 (.tup [V.ref t0]) t1=some (.tup [V.ref t0]):=ao;generalize upd (upd H1 t0 (.tup (([0,0,0,3,9,0]:WF).map V.int))) t1 (.tup [V.ref t0])=H2 at g2 m2 PH PR⊢;refine⟨ap,t1,xp,_,rfl,rfl,m2 _ _ zI.e,PR,by simp,by rw[sizeLine_eq];show xp.length+1<=_;lia,λc H3 s3 ec=>?_⟩;have g3:=g2.same s3;have Vg:=ue ((zI.same m2).same s3) (s3 _ _ PH) ec;have KW:∀r∈ps++[[0,0,0,3,9,0]],okP r:=λr hr=>by
  rcases zA6.mp hr with z|z;.exact okp r z
  .rw[Zad.mp z];exact⟨rfl,by decide,by decide,by decide,by decide,by decide⟩
 obtain⟨p,hp,_,op⟩:=gJ (n:=r1) KW r0 (by rw[zA2,<-rp.l];show r1<((xp.length+1:Nat):Int);lia);obtain⟨tp,dv,fI⟩:=ir Vg r0 hp;rw[fM op.1]at fI;obtain⟨_,⟨p1,p2⟩,_,⟨p3,p4,p5⟩,⟨p6,p7⟩,_⟩:=id op;refine⟨_,rfl,c,_,r1,.ref tp,rfl,rfl,SqT.of ec,dv,?_⟩;refine⟨tp,_,rfl,SqT.of fI,rfl,_,_,rfl,_,_,rfl,_,_,rfl,_,_,rfl,_,_,rfl,_,_,rfl,rfl,?_⟩;dsimp only;refine aG (aU ?_);refine⟨_,rfl,_,rfl,_,rfl,st,8,rfl,g3.sa,by decide,by decide,λr2 a2 b2 i0 i1 k4 k5 k6=>⟨zL,λl1 de=>?_⟩⟩;have g4:=(g3.take k4 k5 k6).new (o:=.lst [V.int (fl p 0),V.int (fl p 0),V.int r2]) de;have n4:=(g3.take k4 k5 k6).ne de;refine⟨_,rfl,st,3,rfl,g4.sa,by decide,by decide,λr3 a3 b3 i2 i3 k7 k8 k9=>?_⟩;obtain⟨sl,E2,sl1,kB⟩:∃sl:Int,atI [V.int (fl p 0),V.int (fl p 0),V.int r2] r3=some (.int sl)/\0<=sl/\sl<8:=by
  have:r3=0\/r3=1\/r3=2:=z00;rcases this with rfl|rfl|rfl;.exact⟨_,rfl,p1,p2⟩
  .exact⟨_,rfl,p1,p2⟩
  .exact⟨_,rfl,i0,i1⟩
 have g5:=g4.take k7 k8 k9;refine⟨l1,_,r3,.int sl,rfl,rfl,SqL.of (by rw[aD n4];exact ao),E2,?_⟩;refine aK ?_;dsimp only;refine aG (aU ?_);refine⟨_,rfl,_,_,rfl,rfl,_,rfl,st,7,rfl,g5.sa,by decide,by decide,λr4 a4 b4 i4 i5 m1 Vh m3=>⟨_,_,rfl,rfl,_,_,rfl,rfl,(by show(0:Int)<8;decide),?_⟩⟩;have g6:=g5.take m1 Vh m3;refine aK ?_;dsimp only;refine aG (aU ?_);refine⟨_,rfl,_,rfl,_,rfl,_,rfl,_,_,rfl,rfl,_,_,rfl,rfl,st,_,rfl,g6.sa,z00,z00,λr5 a5 b5 i6 i7 m4 m5 m6=>⟨_,_,rfl,rfl,?_⟩⟩;have g7:=g6.take m4 m5 m6;refine aK ?_;dsimp only;refine⟨_,rfl,_,rfl,_,rfl,_,rfl,_,rfl,st,_,rfl,g7.sa,p6,z00,λr6 a6 b6 i8 i9 m7 m8 m9=>⟨_,_,rfl,rfl,_,rfl,zL,λt ht=>?_⟩⟩;have g8:=g7.take m7 m8 m9;refine q t [r1,sl,(sl+1+r4)%8,1+r6,fl p 2+r5] _ (g8.new ht) ao ⟨rfl,λi hi=>?_⟩;simp only[List.mem_cons,List.not_mem_nil,or_false]at hi;have e8:0<=(sl+1+r4)%8/\(sl+1+r4)%8<8:=⟨Zbh _ z02,Za5 _ z02⟩;lia
inductive SpSalesI(vs:List V)(H:Hp)(Q:VK):Prop|mk:∀st ap xp ps n,(vs=[.ref st,.ref ap,.int n])->(gY H st)->(RowsAt H ap xp ps)->(ps.length<=10)->((∀r∈ps,okP r))->(0<=n)->(n<=12)->(∀a xs ss H',Dr st H H'->RowsAt H' a xs ss->(ss.length:Int)<=n->(∀s∈ss,smR s)->Q (.ref a) H')->SpSalesI  vs H Q
def Bp:Sp:=λvs H Q _=>SpSalesI  vs H Q
inductive SpBookI(vs:List V)(H:Hp)(Q:VK):Prop|mk:∀(F:Addr->Prop)st y m k,(vs=[.ref st,.int y,.int m,.int k])->(gY H st)->(Fb F st H)->(1<=y)->(y<=20)->(1<=m)->(m<=10)->(0<=k)->(k<=12)->(∀a vc dc ap xp ps ai xs ss H',Dr st H H'->H' a=some (.tup [vc,.ref ap,.ref ai])->IsTh (λa=>¬F a) H' vc (.tuple dc)->tms (2^100) dc=true->1+szs dc<=81->RowsAt H' ap xp ps->ps.length<=10->(∀r∈ps,okP r)->RowsAt H' ai xs ss->ss.length<=12->(∀s∈ss,smR s)->Q (.ref a) H')->SpBookI  vs H Q
def Ha:Sp:=λvs H Q _=>SpBookI  vs H Q
theorem sc39s:FnScope [AAa,AAc,AAf,AAq,"_law_turn","_law_more"] [AAa,AAc,AAf] (aC (top 93)):=fQS
theorem Hb(F:Fun K "_law_sales" "_law_sales" (top 93) f fd)(T:Mg mg)(Tr:mg "range"=none)(c1:Cal P w K mg base 1 AAn [AAa,AAi] jD)(c2:Cal P w K mg base 2 ABf [AAa,AAc] KC)(c3:Cal P w K mg base 2 "_law_sold" [AAc,AAe] za):FnOk P w K mg base CX0 3 f fd [AAa,AAc,AAf] Bp:=by
 refine F.oq sc39s λaf A outer s H vs Q E hr h=>?_;obtain⟨st,ap,xp,ps,n,rfl,dP,rp,lp,okp,n0,n1,q⟩:=h;refine⟨_,aA (pss 3 sc39s.nd (zR bG)) (aA (cP zB8 rfl (bK rfl Tr (aq (aV j6 (aJ c1 hr (aq (pv 0) (aq (aV bI (pv 2) aB) aj))) (dH BP rfl T.int boot_int (aq (fY oE (aM aW rfl T.len PySem.boot_len (aq (pv 1) aj)) aB (bu _)) aj))) aj)) (pgn 4 sc39s.nd) (aA (pss 5 sc39s.nd (aV Bm (pv 3) (cJ (aq (aJ c2 hr (aq (pv 0) (aq (pv 1) aj))) aj)))) (aF (bV (bz ur (pX bQ (aJ c3 hr (aq (pv 1) (aq (pv 5) aj))) aB) iw (bu _)) (aF (pss 3 sc39s.nd (pv 5))) bh)))) (aF (aN (pv 3)))),?_⟩;have g0:Dr st H H:=⟨But.refl,dP⟩;refine aG (aU ?_);refine⟨zL,λe0 PU=>?_⟩;have g1:=g0.new (o:=.tup []) PU;have r1:RowsAt (upd H e0 (.tup [])) e0 [] []:=⟨ao,rfl,λi r e=>by simp at e⟩;have zI:=rp.same (Same.upd (o:=.tup []) PU);generalize upd H e0 (.tup [])=H1 at g1 r1 zI⊢;refine aK ?_;dsimp only;refine aG ?_;refine⟨_,rfl,_,rfl,_,_,rfl,rfl,st,n+1,rfl,g1.sa,z00,z00,λr a1 b1 k0 kn k1 k2 k3=>?_⟩;have g2:=g1.take k1 k2 k3;have K0:=(Dr.take ⟨But.refl,g1.sa⟩ k1 k2 k3:Dr st H1 _).rows g1.sa zI;have r2:=(Dr.take ⟨But.refl,g1.sa⟩ k1 k2 k3:Dr st H1 _).rows g1.sa r1;generalize upd H1 st (.lst [.int a1,.int b1])=H2 at g2 K0 r2⊢;refine⟨_,rfl,ap,xp,rfl,.inr (SqT.of K0.e),_,_,rfl,rfl,.inr ⟨_,rfl,_,_,rfl,rfl,.inl ⟨z00,z00⟩,_,rfl,?_,?_,?_⟩⟩;.split<;>lia
 .split<;>lia
 refine d9 (lo:=0) (λi σ Hc=>∃a xs ss x4 x5,σ=[some (.ref st),some (.ref ap),some (.int n),some (.ref a),x4,x5]/\Dr st H Hc/\RowsAt Hc ap xp ps/\RowsAt Hc a xs ss/\ss.length<=i/\∀s∈ss,smR s) ?_ ?_ ?_;.exact⟨e0,[],[],none,none,rfl,g2,K0,r2,zA3 _,λ_ h=>nomatch h⟩
 .rintro i σ Hc hi⟨a,xs,ss,x4,x5,rfl,g,Lc,Fn,ls,cx⟩;have hi:i<12:=by split at hi<;>lia
  refine aK (aG ?_);refine aU ?_;refine⟨_,rfl,_,rfl,_,rfl,st,ap,xp,ps,rfl,g.sa,Lc,lp,okp,λt s' H3 d3 et sm=>⟨zL,λt1 DS=>?_⟩⟩;have Vi:=d3.rows g.sa Lc;have Ll:=d3.rows g.sa Fn;have m4:=Same.upd (o:=.tup [V.ref t]) DS;refine⟨a,t1,xs,_,rfl,rfl,m4 _ _ Ll.e,ao,by simp,by rw[Fn.l,sizeLine_eq];show _+1<=_;lia,λc H5 s5 ec=>?_⟩;have PV:=ue ((Ll.same m4).same s5) (s5 _ _ (m4 _ _ et)) ec;have Lm:=(Vi.same m4).same s5;have g5:=((g.trans d3).same m4).same s5;have PY:∀s∈ss++[s'],smR s:=λs hs=>by
   rcases zA6.mp hs with z|z;.exact cx s z
   .rw[Zad.mp z];exact sm
  have l5:(ss++[s']).length<=i+1:=by rw[zA2];show ss.length+1<=_;lia
  refine aK ?_;dsimp only;refine⟨_,rfl,_,rfl,ap,xp,ps,c,_,ss++[s'],rfl,Lm,lp,okp,PV,z00,λs hs=>(PY s hs).1,λtt fo H6 s6 Vj=>?_⟩;refine⟨tt,_,1,unV (un ps (ss++[s'])),rfl,rfl,SqT.of Vj,rfl,rfl,_,rfl,rm (λ_=>?_) λ_=>?_⟩;.exact⟨_,rfl,c,_,ss++[s'],_,_,rfl,g5.same s6,Lm.same s6,PV.same s6,l5,PY⟩
  .exact⟨a,xs,ss,_,_,rfl,g5.same s6,Lm.same s6,((Ll.same m4).same s5).same s6,z00,cx⟩
 .rintro σ Hc⟨a,xs,ss,x4,x5,rfl,g,Lc,Fn,ls,cx⟩;refine⟨_,rfl,q a xs ss Hc g Fn ?_ cx⟩;split at ls<;>lia
theorem sc40s:FnScope [AAa,AAl,AAf,AAe,"_law_clips_here",AAc] [AAa,AAl,AAf,AAe] (aC (top 94)):=fQS
theorem Hf(F:Fun K "_law_book" "_law_book" (top 94) f fd)(T:Mg mg)(c1:Cal P w K mg base 2 "_law_clips" [AAa,AAf] Aw)(c2:Cal P w K mg base 2 ABe [AAa,AAf,AAl] xT)(c3:Cal P w K mg base 3 "_law_sales" [AAa,AAc,AAf] Bp):FnOk P w K mg base CX0 4 f fd [AAa,AAl,AAf,AAe] Ha:=by refine F.oq sc40s λaf A outer s H vs Q E hr h=>?_;obtain⟨F,st,y,m,k,rfl,dP,fb,y1,y2,m1,m2,k1,k2,q⟩:=h;refine⟨_,aA (pss 4 sc40s.nd (aJ c1 hr (aq (pv 0) (aq (pv 1) aj)))) (aA (pss 5 sc40s.nd (aJ c2 hr (aq (pv 0) (aq (pv 2) (aq (aM aW rfl T.len PySem.boot_len (aq (pv 4) aj)) aj))))) (aF (aN (cJ (aq (pv 4) (aq (pv 5) (aq (aJ c3 hr (aq (pv 0) (aq (pv 5) (aq (pv 3) aj)))) aj))))))),?_⟩;refine aG (aU ?_);refine⟨_,rfl,_,rfl,st,y,rfl,dP,y1,y2,λvc H1 mc=>?_⟩;obtain⟨dc,Vk,Lo,xh,Vl,Vm⟩:=mc;have d1:Dr st H H1:=⟨Vk,Lo⟩;have xh:IsTh (λa=>¬F a) H1 vc (.tuple dc):=xh.keep (λ_ _ e=>e) (λ_ _ _ e=>e) λb o hb _ hF=>hb.2 (fb.new b hF hb.1);refine aK ?_;dsimp only;refine aG (aU ?_);cases xh with|@tup ac xc _ ec rc=>have lc:=rc.length;have lc2:=je dc;refine⟨_,rfl,_,rfl,_,rfl,ac,xc,rfl,.inr (SqT.of ec),st,m,_,rfl,Lo,m1,m2,z00,z00,λvp H2 mp=>?_⟩;obtain⟨ps,Vn,Fu,E4,lps,okp⟩:=mp;have d2:Dr st H1 H2:=⟨Vn,Fu⟩;obtain⟨ap,xp,rfl,rp⟩:=ik E4;have Lu:=d2.th Lo fb.st (.tup ec rc);refine aK ?_;dsimp only;refine⟨_,rfl,_,rfl,_,rfl,_,rfl,_,rfl,st,ap,xp,ps,k,rfl,Fu,rp,z00,okp,k1,k2,λai xs ss H3 d3 rs ls cx=>⟨zL,λa ha=>?_⟩⟩;have Lv:=(d1.trans d2).trans d3;have ma:=Same.upd (o:=.tup [V.ref ac,V.ref ap,V.ref ai]) ha;exact q a _ dc ap xp ps ai xs ss _ (Lv.new ha) ao ((d3.th Fu fb.st Lu).same ma) Vl Vm ((d3.rows Fu rp).same ma) z00 okp (rs.same ma) z00 cx
theorem MP(h:okP r):∀i∈r,-10<=i/\i<=2000000:=by obtain⟨h0,h1,h2,h3,h4,h5⟩:=h;rw[fM h0];intro i hi;simp only[List.mem_cons,List.not_mem_nil,or_false]at hi;rcases hi with rfl|rfl|rfl|rfl|rfl|rfl<;>lia
def dlw(cs ps ss:UV)(s m:Nat):Int:=aY (cW ps ss s m)-(cs.getD m []).getD s 0
def dS(cs ps ss:UV)(m:Nat):Nat->Int|0=>0|n+1=>dS cs ps ss m n+dlw cs ps ss n m
theorem Hg(m:Nat):∀n,aO cs ps ss (m+1) n=aO cs ps ss m n+dS cs ps ss m n+dn (xD (cs.getD m []) ps ss (oS cs ps ss m) m) n
 |0=>rfl|n+1=>by
  have ih:=Hg (cs:=cs) (ps:=ps) (ss:=ss) m n;have x:xD (cs.getD m []) ps ss (oS cs ps ss m) m n=dlw cs ps ss n m+oS cs ps ss m n:=by unfold xD dlw;lia
  show aO cs ps ss (m+1) n+max 0 (xD (cs.getD m []) ps ss (oS cs ps ss m) m n-dn _ n)=(aO cs ps ss m n+oS cs ps ss m n)+(dS cs ps ss m n+dlw cs ps ss n m)+max 0 (dn _ n-xD (cs.getD m []) ps ss (oS cs ps ss m) m n);lia
theorem MT(m n:Nat):aO cs ps ss (m+1) (n+1)=max (aO cs ps ss (m+1) n) (aO cs ps ss m (n+1)+dS cs ps ss m (n+1)):=by have a:=Hg (cs:=cs) (ps:=ps) (ss:=ss) m n;have b:=Hg (cs:=cs) (ps:=ps) (ss:=ss) m (n+1);have c:aO cs ps ss (m+1) (n+1)=aO cs ps ss (m+1) n+oS cs ps ss (m+1) n:=rfl;have d:dn (xD (cs.getD m []) ps ss (oS cs ps ss m) m) (n+1)=max 0 (dn (xD (cs.getD m []) ps ss (oS cs ps ss m) m) n-xD (cs.getD m []) ps ss (oS cs ps ss m) m n):=rfl;have e:oS cs ps ss (m+1) n=max 0 (xD (cs.getD m []) ps ss (oS cs ps ss m) m n-dn (xD (cs.getD m []) ps ss (oS cs ps ss m) m) n):=rfl;lia
structure BkO(cs ps ss:UV):Prop where
 okc:∀r∈cs,r.length=3/\∀x∈r,0<=x
 hl:ps.length<=10
 hu:un ps ss=none
 h5:∀s∈ss,s.length=5
 okp:∀r∈ps,okP r
theorem scKP:FnScope ["book","year","clips","promises","sales","pence","due","number","holder","sacks"] ["book","year"] (aC (top 71)):=fQS
theorem Hh(F:Fun K "pence_owed" "pence_owed" (top 71) f fd)(N:Nums mg)(c1:Cal P w K mg base 8 "refuse_no_year" ["book","year"] (jV yX))(c2:Cal P w K mg base 11 "owed_behind" ["book","year"] (qP qO)):FnOk P w K mg base CX0 12 f fd ["book","year"] (jV xP):=by
 refine F.oq scKP λaf A outer s H vs Q E hr h=>?_;obtain⟨S,bk,y,d,ac,xc,cs,ap,xp,ps,ai,xs,ss,rfl,th,hz,hb,B,y0,y1,q⟩:=h;obtain⟨t1,e1⟩:=N.holders;refine⟨_,aA (bf (aJ c1 hr (aq (pv 0) (aq (pv 1) aj)))) (aA (cO (pv 0) (bU rfl (az (pgn 2 scKP.nd) (az (pgn 3 scKP.nd) (az (pgn 4 scKP.nd) aX))))) (aA (pss 5 scKP.nd (aV Aj (cY (aq aB aj)) (bM (v:=.int 8) rfl e1 ⟨_,rfl⟩))) (aA (cP zB8 rfl (fG (aJ c2 hr (aq (pv 0) (aq (pv 1) aj)))) (bU rfl (az (pgn 6 scKP.nd) (az (pgn 7 scKP.nd) (az (pgn 8 scKP.nd) (az (pgn 9 scKP.nd) aX))))) (aF (lF (pv 5) (pv 8) gM (aV j6 (pv 9) (pX bQ (pX bQ (pv 3) (pv 7)) aB)) uo set_list))) (aF (aN (pv 5)))))),?_⟩;refine aG ?_;refine⟨_,rfl,_,rfl,S,bk,y,d,ac,xc,cs,ap,xp,ps,ai,xs,ss,rfl,th,hz,hb,B,y0,y1,λH1 s1=>?_⟩;dsimp only;have B1:=B.same s1;refine aG ?_;refine⟨_,rfl,bk,_,rfl,SqT.of B1.e,rfl,_,_,rfl,_,_,rfl,_,_,rfl,rfl,?_⟩;dsimp only;refine aG (aU ?_);refine⟨zL,λl0 rh=>⟨l0,8,_,rfl,rfl,ao,by decide,by decide,zL,λl1 de wc=>?_⟩⟩;have s2:Same H1 (upd (upd H1 l0 (.lst [V.int 0])) l1 (.lst (List.replicate (8:Int).toNat [V.int 0]).flatten)):=(Same.upd rh).updR de;have el1:upd (upd H1 l0 (.lst [V.int 0])) l1 (.lst (List.replicate (8:Int).toNat [V.int 0]).flatten) l1=some (.lst ((List.replicate 8 (0:Int)).map V.int)):=ao;have qh:H1 l1=none:=(Same.upd rh).free de;have fH:H l1=none:=s1.free qh;refine aK ?_;dsimp only;refine aG ?_;refine⟨_,rfl,_,rfl,bk,y,ac,xc,cs,ap,xp,ps,ai,xs,ss,rfl,B1.same s2,y0,y1,λk xk R H3 s3 nk Pe ek ij ow=>⟨k,rfl,⟨_,SqL.of ek⟩,?_⟩⟩;have fy:k≠l1:=λz=>by rw[z,el1]at nk;cases nk
 have B3:=(B1.same s2).same s3;have B0:∀b o,H b=some o->H3 b=some o:=λb o e=>s3 _ _ (s2 _ _ (s1 _ _ e));have el3:=s3 _ _ el1;refine iI (xs:=xk) (λi σ Hc=>∃x6 x7 x8 x9 L,σ=[some (.ref bk),some (.int y),some (.ref ac),some (.ref ap),some (.ref ai),some (.ref l1),x6,x7,x8,x9]/\(∀b o,b≠l1->H3 b=some o->Hc b=some o)/\Hc l1=some (.lst ((L:WF).map V.int))/\L.length=8) ?_ ?_ ?_ ?_;.exact⟨none,none,none,none,_,rfl,λ_ _ _ e=>e,el3,rfl⟩
 .rintro i σ Hc hi⟨x6,x7,x8,x9,L,rfl,sm,el,l8⟩;exact SqL.of (sm _ _ fy ek)
 .rintro i x σ Hc hx⟨x6,x7,x8,x9,L,rfl,sm,el,l8⟩;have hi:i<R.length:=by have:=(zAa.mp hx).1;rw[ij.1]at this;exact this
  obtain⟨tr,gx,eB⟩:=ij.2 i R[i] (zA0 hi);have:x=.ref tr:=by rw[hx]at gx;exact zAl gx
  subst this;have kU:=ow.ok _ (zAh hi);have o4:=kU.l;have o1:=kU.n0;have h0:=kU.h0;have h1:=kU.h1;have br:=kU.s1;have bs:=kU.s0;obtain⟨p,hp,ep,okp⟩:=gJ (n:=fl R[i] 1) B.okp o1 kU.n1;have Rp:RowsAt Hc ap xp ps:=B3.rp.keep λb l e=>sm _ _ (λz=>by rw[z,el3]at e;cases e) e;obtain⟨tp,dv,fI⟩:=ir Rp o1 hp;clear kU;generalize R[i]=r at eB h0 h1 o4 o1 br bs dv hp ep⊢;rw[gA o4]at eB;rw[fM okp.1]at fI;have Vo:tr≠l1:=λz=>by rw[z,el3]at eB;cases eB
  refine⟨tr,_,rfl,SqT.of (sm _ _ Vo eB),rfl,_,_,rfl,_,_,rfl,_,_,rfl,_,_,rfl,rfl,?_⟩;refine⟨_,rfl,_,rfl,l1,_,fl r 2,_,rfl,rfl,SqL.of el,h0,il z00,_,rfl,_,rfl,_,rfl,ap,xp,fl r 1,.ref tp,rfl,rfl,SqT.of Rp.e,dv,tp,_,5,.int (fl p 5),rfl,rfl,SqT.of fI,rfl,_,_,rfl,rfl,?_,_,_,rfl,rfl,l1,_,fl r 2,(fl r 2).toNat,rfl,rfl,el,tZ h0 (by rw[zA1];lia),?_⟩;.obtain⟨_,_,_,_,_,p5⟩:=okp;exact .inr z00
  rw[mQ];exact⟨_,_,_,_,_,rfl,λb o hb e=>by rw[aD hb];exact sm _ _ hb e,ao,(Zav ..).trans l8⟩
 .rintro σ Hc⟨x6,x7,x8,x9,L,rfl,sm,el,l8⟩;dsimp only;exact⟨_,rfl,q _ Hc λb o e=>sm _ _ (aH e fH) (B0 _ _ e)⟩
def clY(ps ss:UV)(y:Nat):Nat->UV|0=>[]|n+1=>clY ps ss y n++cW ps ss (n:Int) (y:Int)
def oV(ps ss:UV):Nat->UV|0=>[]|m+1=>oV ps ss m++clY ps ss m 3
theorem vD(h:ps.length<=10):∀n,(clY ps ss y n).length<=80*n|0=>zA3 _|n+1=>by show(clY ps ss y n++cW ps ss n y).length<=_;rw[zA2];have:=vD (ss:=ss) (y:=y) h n;have:=jh (ss:=ss) (sort:=(n:Int)) (year:=(y:Int)) h;lia
theorem uf(h:ps.length<=10):∀m,(oV ps ss m).length<=240*m|0=>zA3 _|m+1=>by show(oV ps ss m++clY ps ss m 3).length<=_;rw[zA2];have:=uf (ss:=ss) h m;have:=vD (ss:=ss) (y:=m) h 3;lia
theorem Hk(hu:un ps ss=none)(h5:∀s∈ss,s.length=5)(okp:∀r∈ps,okP r):∀n,∀r∈clY ps ss y n,okO ps r|0,r,hr=>nomatch hr|n+1,r,hr=>(zA6.mp hr).elim (Hk hu h5 okp n r) λz=>(oh hu h5 okp r z).1
theorem xU(hu:un ps ss=none)(h5:∀s∈ss,s.length=5)(okp:∀r∈ps,okP r):∀m,∀r∈oV ps ss m,okO ps r|0,r,hr=>nomatch hr|m+1,r,hr=>(zA6.mp hr).elim (xU hu h5 okp m r) (Hk hu h5 okp 3 r)
theorem okO.by{ps rs:UV}(h:∀r∈rs,okO ps r):∀r∈rs,r.length=4/\0<=fl r 2/\fl r 2<8:=λr hr=>⟨(h r hr).l,(h r hr).h0,(h r hr).h1⟩
def N5:UV->UV->UV->Int->VK->Hp->Prop:=λcs ps ss y Q H=>∀k xk H',Same H H'->H k=none->H' k=some (.lst xk)->Els H' xk (oV ps ss (y.toNat+1))->Q (.ref k) H'
theorem scO1:FnScope ["book","year","clips","promises","sales","claims","at","sort"] ["book","year"] (aC (top 68)):=fQS
theorem JW(F:Fun K "claims_to" "claims_to" (top 68) f fd)(N:Nums mg)(Tr:mg "range"=none)(c3:Cal P w K mg base 2 "claims_in" ["promises","sales","sort","year"] mW):FnOk P w K mg base CX0 3 f fd ["book","year"] (qP N5):=by
 refine F.oq scO1 λaf A outer s H vs Q E hr h=>?_;obtain⟨bk,y,ac,xc,cs,ap,xp,ps,ai,xs,ss,rfl,B,y0,y1,q⟩:=h;obtain⟨t1,e1⟩:=N.sorts;refine⟨_,aA (cO (pv 0) (bU rfl (az (pgn 2 scO1.nd) (az (pgn 3 scO1.nd) (az (pgn 4 scO1.nd) aX))))) (aA (pss 5 scO1.nd (cY aj)) (aA (cP zB8 rfl (bK rfl Tr (aq (aV bI (pv 1) aB) aj)) (pgn 6 scO1.nd) (aF (cP zB8 rfl (bK rfl Tr (aq (bM (v:=.int 3) rfl e1 ⟨_,rfl⟩) aj)) (pgn 7 scO1.nd) (aF (jW (i:=5) scO1.nd rfl (Or.inl rfl) (aJ c3 hr (aq (pv 3) (aq (pv 4) (aq (pv 7) (aq (pv 6) aj))))) nP))))) (aF (aN (pv 5))))),?_⟩;obtain⟨n,rfl⟩:∃n:Nat,y=n:=⟨y.toNat,z00⟩;unfold N5 at q;rw[zAi]at q;have hn:n<20:=by have:=B.lc;lia
 have cx:=vz B.un B.h5;refine aG ?_;refine⟨_,rfl,bk,_,rfl,SqT.of B.e,rfl,_,_,rfl,_,_,rfl,_,_,rfl,rfl,?_⟩;dsimp only;refine aG (aU ?_);refine⟨zL,λl hl=>?_⟩;have s0:=Same.upd (o:=.lst []) hl;have DJ:upd H l (.lst []) l=some (.lst []):=ao;refine aK ?_;dsimp only;refine aG ?_;refine⟨_,rfl,_,_,rfl,rfl,(n:Int)+1,rfl,z00,z00,?_⟩;refine d9 (lo:=0) (λi σ Hc=>∃x6 x7 xl,σ=[some (.ref bk),some (.int n),some (.ref ac),some (.ref ap),some (.ref ai),some (.ref l),x6,x7]/\Same H Hc/\Hc l=some (.lst xl)/\Els Hc xl (oV ps ss i)) ?_ ?_ ?_;.exact⟨none,none,[],rfl,s0,DJ,Els.nil⟩
 .rintro i σ Hc hi⟨x6,x7,xl,rfl,sc,el,cE⟩;refine aK ?_;refine Pg λDe Vp=>?_;refine⟨3,rfl,by decide,by decide,?_⟩;refine d9 (lo:=0) (n:=3) (λj σ Hd=>∃x7 xl,σ=[some (.ref bk),some (.int n),some (.ref ac),some (.ref ap),some (.ref ai),some (.ref l),some (.int (0+(i:Int))),x7]/\Same H Hd/\Hd l=some (.lst xl)/\Els Hd xl (oV ps ss i++clY ps ss i j)) ?_ ?_ ?_;.exact⟨_,xl,rfl,sc,el,by show Els Hc xl (oV ps ss i++[]);rw[zAn];exact cE⟩
  .rintro j σ Hd hj⟨x7,xl,rfl,sd,el,cE⟩;refine aK ?_;have B2:=B.same sd;refine⟨_,rfl,_,rfl,_,rfl,_,rfl,_,rfl,ap,xp,ps,ai,xs,ss,_,_,rfl,B2.rp,B.lp,B.okp,B2.rs,B.ls,cx,λk xk H3 s3 nk ek ij=>?_⟩;have i0:(0:Int)+(i:Int)=(i:Int):=Zbg _;have j0:(0:Int)+(j:Int)=(j:Int):=Zbg _;rw[i0,j0]at ij;have a1:=cE.1;have a2:=ij.1;have b1:=uf (ss:=ss) B.lp i;have b2:=vD (ss:=ss) (y:=i) B.lp j;have b3:=jh (ss:=ss) (sort:=(j:Int)) (year:=(i:Int)) B.lp;rw[zA2]at a1;refine⟨l,k,xl,xk,rfl,rfl,s3 _ _ el,ek,by rw[sizeLine_eq];lia,?_⟩;refine⟨_,xl++xk,rfl,λb o e=>?_,ao,?_⟩;.rw[aD (aH e hl)];exact s3 _ _ (sd _ _ e)
   .have e3:=((cE.same s3).app ij).keep (H':=upd H3 l (.lst (xl++xk))) λb z e=>by
     rw[aD λw=>?_];.exact e
     .rw[w,s3 _ _ el]at e;cases e
    rw[zAf]at e3;exact e3
  .rintro σ Hd⟨x7,xl,rfl,sd,el,cE⟩;exact Vp _ _ ⟨_,_,xl,rfl,sd,el,cE⟩
 .rintro σ Hc⟨x6,x7,xl,rfl,sc,el,cE⟩;dsimp only;exact⟨_,rfl,q l xl Hc sc hl el cE⟩
theorem scO2:FnScope ["book","year","given","gifts","owed","left"] ["book","year"] (aC (top 70)):=fQS
theorem JX(F:Fun K "sums_by" "sums_by" (top 70) f fd)(Tl:mg "list"=none)(Tz:mg "zip"=none)(c1:Cal P w K mg base 8 "refuse_no_year" ["book","year"] (jV yX))(c2:Cal P w K mg base 10 "years_given" ["book","year"] mX)(c3:Cal P w K mg base 3 "claims_to" ["book","year"] (qP N5))(c4:Cal P w K mg base 11 "owed_behind" ["book","year"] (qP qO))(c5:Cal P w K mg base 1 "by_holder" ["rows"] Kz):FnOk P w K mg base CX0 12 f fd ["book","year"] (jV xP):=by
 refine F.oq scO2 λaf A outer s H vs Q E hr h=>?_;obtain⟨S,bk,y,d,ac,xc,cs,ap,xp,ps,ai,xs,ss,rfl,th,hz,hb,B,y0,y1,q⟩:=h;refine⟨_,aA (bf (aJ c1 hr (aq (pv 0) (aq (pv 1) aj)))) (aA (pss 2 scO2.nd (cY aj)) (aA (cP zB8 rfl (fG (aJ c2 hr (aq (pv 0) (aq (pv 1) aj)))) (bU rfl (az (pgn 3 scO2.nd) (az (pgn 4 scO2.nd) (az (pgn 5 scO2.nd) aX)))) (aF (jW (i:=2) scO2.nd rfl (Or.inl rfl) (pv 3) nP))) (aF (aN (Z3.pe_lzip3 hr.hd rfl Tl rfl Tz (aq (aJ c5 hr (aq (aJ c3 hr (aq (pv 0) (aq (pv 1) aj))) aj)) (aq (aJ c5 hr (aq (pv 2) aj)) (aq (aJ c5 hr (aq (aJ c4 hr (aq (pv 0) (aq (pv 1) aj))) aj)) aj)))))))),?_⟩;obtain⟨n,rfl⟩:∃n:Nat,y=n:=⟨y.toNat,z00⟩;have hn:n<20:=by have:=B.lc;lia
 refine aG ?_;refine⟨_,rfl,_,rfl,S,bk,(n:Int),d,ac,xc,cs,ap,xp,ps,ai,xs,ss,rfl,th,hz,hb,B,y0,y1,λH1 s1=>?_⟩;dsimp only;refine aG (aU ?_);refine⟨zL,λl hl=>?_⟩;have s2:=s1.updR (o:=.lst []) hl;have Vq:H l=none:=s1.free hl;have el2:upd H1 l (.lst []) l=some (.lst []):=ao;generalize upd H1 l (.lst [])=H2 at s2 el2⊢;have B2:=B.same s2;refine aK ?_;dsimp only;refine aG ?_;refine⟨_,rfl,_,rfl,bk,(n:Int),ac,xc,cs,ap,xp,ps,ai,xs,ss,rfl,B2.e,B2.rc,B.okc,B.lc,y0,y1,B2.rp,B.lp,B.okp,B2.rs,B.ls,B.h5,B.un,λly ts H3 s3 PZ P1 lt hy=>⟨ly,rfl,⟨_,SqL.of P1⟩,?_⟩⟩;have el3:=s3 _ _ el2;have JY:ly≠l:=λz=>by rw[z,el2]at PZ;cases PZ
 refine iI (xs:=ts.map V.ref) (λi σ Hc=>∃x3 x4 x5 xl R,σ=[some (.ref bk),some (.int n),some (.ref l),x3,x4,x5]/\(∀b o,b≠l->H3 b=some o->Hc b=some o)/\Hc l=some (.lst xl)/\Els Hc xl R/\(∀r∈R,okO ps r)/\R.length<=i*4800) ?_ ?_ ?_ ?_;.exact⟨none,none,none,[],[],rfl,λ_ _ _ e=>e,el3,Els.nil,λ_ h=>(nomatch h),zAp _⟩
 .rintro i σ Hc hi⟨x3,x4,x5,xl,R,rfl,sc,el,cE,FA,lR⟩;exact SqL.of (sc _ _ JY P1)
 .rintro i x σ Hc hx⟨x3,x4,x5,xl,R,rfl,sc,el,cE,FA,lR⟩;rw[zAb]at hx;obtain⟨a,ha,rfl⟩:=Option.map_eq_some_iff.mp hx;have hi:i<n+1:=by have:=(zAa.mp ha).1;lia
  obtain⟨g,k,tl,xg,xk,G,_,_,e1,n1,n2,d1,d2,e2,e3,e4,e5,e6,e7,gk,gl,_⟩:=hy i a ha;have na:a≠l:=λz=>by rw[z,el3]at e1;cases e1
  have ng:g≠l:=λz=>by rw[z,el2]at n1;cases n1
  refine⟨a,_,rfl,SqT.of (sc _ _ na e1),rfl,_,_,rfl,_,_,rfl,_,_,rfl,rfl,?_⟩;have a1:=cE.1;have a2:=e3.1;refine⟨_,rfl,_,rfl,l,g,xl,xg,rfl,rfl,el,sc _ _ ng e2,by rw[sizeLine_eq];lia,?_⟩;have kp:∀b z,Hc b=some (.tup z)->upd Hc l (.lst (xl++xg)) b=some (.tup z):=λb z e=>by
   rw[aD λw=>?_];.exact e
   .rw[w,el]at e;cases e
  refine⟨_,_,_,xl++xg,R++G,rfl,λb o nb e=>by rw[aD nb];exact sc _ _ nb e,ao,?_,λr hr=>(zA6.mp hr).elim (FA r) (gk r),by rw[zA2];lia⟩;have ex:Els Hc xg G:=e3.keep λb z e=>sc _ _ (λw=>by rw[w,el3]at e;cases e) e;exact(cE.app ex).keep kp
 .rintro σ Hc⟨x3,x4,x5,xl,R,rfl,sc,el,cE,FA,lR⟩;have sH:Same H Hc:=λb o e=>sc _ _ (aH e Vq) (s3 _ _ (s2 _ _ e));have BC:=B.same sH;dsimp only;refine gQ ?_;refine⟨_,rfl,_,rfl,bk,(n:Int),ac,xc,cs,ap,xp,ps,ai,xs,ss,rfl,BC,y0,y1,λk1 Vr H4 s4 n4 e4 el4=>?_⟩;rw[zAi]at el4;refine⟨k1,Vr,_,rfl,e4,el4,okO.by (xU B.un B.h5 B.okp _),λr1 L1 H5 s5 n5 ns5 A1 e5=>?_⟩;have FC:=s4.trans s5;refine⟨_,rfl,l,xl,_,rfl,FC _ _ el,cE.same FC,okO.by FA,λr2 L2 H6 s6 n6 ns6 A2 e6=>?_⟩;have Vs:=FC.trans s6;refine⟨_,rfl,_,rfl,bk,(n:Int),ac,xc,cs,ap,xp,ps,ai,xs,ss,rfl,BC.same Vs,y0,y1,λk3 Vt R3 H7 s7 n7 ns7 e7 zk ow=>?_⟩;refine⟨k3,Vt,_,rfl,e7,zk,okO.by ow.ok,λr3 L3 H8 s8 n8 ns8 A3 e8=>?_⟩;have P2:=(s6.trans s7).trans s8;have Vu:=FC.trans P2;refine⟨r1,r2,r3,_,_,_,rfl,SqL.of (P2 _ _ e5),SqL.of (s8 _ _ (s7 _ _ e6)),SqL.of e8,by rw[zA1,zA1,A1,A2],by rw[zA1,zA1,A1,A3],by rw[zA1,A1];decide,λlz as H9 s9 nz nzs ez laz hz=>?_⟩;exact q _ H9 ((sH.trans Vu).trans s9)
theorem either(F:FnOk P w K mg base CX0 k f fd ps xi)(G:FnOk P w K mg base CX k f fd ps P4):FnOk P w K mg base CX k f fd ps (λvs H Q E=>xi vs H Q E\/P4 vs H Q E):=⟨λvs H Q E h=>h.elim (F.len vs H Q E) (G.len vs H Q E),λA outer s H args us vs Q E hr e b v h=>h.elim (λh=>codeAny_mono (F.run A outer s H args us vs Q E hr e b v h) λr s' hq=>by cases r with
 |ok o=>cases o with|ret u=>exact hq;|_=>exact(hq).elim
  |error x=>exact(hq).elim) λh=>G.run A outer s H args us vs Q E hr e b v h⟩
def Dm(Cs:Nat->Addr)(o:Option Nat)(R:VK->Hp->Prop)(H:Hp)(Q:VK)(E:XK):Prop:=(∀j,o=some j->∀a H',Same H H'->H' a=none->E (.ref a) (some (Cs j)) H')/\(o=none->R Q H)
def qR:VK->Hp->Prop:=λQ H=>∀H',Same H H'->Q .non H'
def kindB(d:PyData):Option Nat:=if gw d=false then some 3 else none
def j4(d y:PyData):Option Nat:=if gw d=false then some 3 else if dR y 0 ((items (part d 0)).length-1)=false then some 5 else none
def PP(Cs:Nat->Addr)(R:VK->Hp->Prop):Sp:=λvs H Q E=>∃S v d,vs=[v]/\IsTh S H v d/\sz d<=4000/\Dm Cs (kindB d) R H Q E
def jJ(Cs:Nat->Addr)(R:VK->Hp->Prop):Sp:=λvs H Q E=>∃S v d vy y,vs=[v,vy]/\IsTh S H v d/\sz d<=4000/\IsTh S H vy y/\sz y<=4000/\Dm Cs (j4 d y) R H Q E
def PQ(Cs:Nat->Addr):Sp:=λvs H Q E=>∃S ac xc vy y,vs=[.ref ac,vy]/\H ac=some (.tup xc)/\IsTh S H vy y/\sz y<=4000/\Dm Cs (if dR y 0 (xc.length-1)=false then some 5 else none) qR H Q E
def oW(Cs:Nat->Addr):Sp:=λvs H Q E=>∃S v d vy y j,vs=[v,vy]/\IsTh S H v d/\sz d<=4000/\IsTh S H vy y/\sz y<=4000/\j4 d y=some j/\∀a H',Same H H'->H' a=none->E (.ref a) (some (Cs j)) H'
theorem JZ(h:dR d lo hi=true):∃i,d=.int i/\lo<=i/\i<=hi:=by unfold dR at h;rw[zAc,zAc,z17,z17]at h;obtain⟨h0,h1,h2⟩:=h;cases d with|int i=>exact⟨i,rfl,h1,h2⟩;|_=>cases h0
section
theorem Hl(F:Fun K "refuse_no_book" "refuse_no_book" (top 44) f fd)(O3:PyProof.Rows.OwnCls "NoBook" (Cs 3) VE "ValueError.__new__" mg base)(c1:Cal P w K mg base 6 "is_book" ["thing"] (spT gw)):FnOk P w K mg base (CX1 P w) 7 f fd ["thing"] (PP Cs qR):=by refine F.oqX Ku λaf A outer s H vs Q E hr h=>?_;obtain⟨S,v,d,rfl,th,hz,q1,q2⟩:=h;refine⟨_,aF (bV (bH (bY (aJ c1 hr (aP (pv 0) aj)))) (aF (wQ O3 PySem.F.excBase_ValueError rfl rfl rfl (aq pM aj) eU)) bh),?_⟩;refine⟨_,rfl,S,v,d,rfl,th,hz,λH1 s1=>⟨_,rfl,?_⟩⟩;cases e:gw d with|true=>exact bx (q2 (zAy (by rw[e];decide)) _ s1);|false=>exact bw ⟨by decide,λa ha=>q1 3 (zAz e) a _ s1 ha⟩
theorem Hm(F:Fun K "refuse_no_year_of" "refuse_no_year_of" (top 61) f fd)(T:Mg mg)(O5:PyProof.Rows.OwnCls "NoYear" (Cs 5) VE "ValueError.__new__" mg base)(c1:Cal P w K mg base 2 "is_whole_from" ["thing","least","most"] (jC dR)):FnOk P w K mg base (CX1 P w) 3 f fd ["clips","year"] (PQ Cs):=by refine F.oqX Kv λaf A outer s H vs Q E hr h=>?_;obtain⟨S,ac,xc,vy,y,rfl,ec,ty,zy,q1,q2⟩:=h;refine⟨_,aF (bV (bH (bY (aJ c1 hr (aq (pv 1) (aq aB (aq (aV fU (aM aW rfl T.len PySem.boot_len (aq (pv 0) aj)) aB) aj)))))) (aF (wQ O5 PySem.F.excBase_ValueError rfl rfl rfl (aq pM aj) eU)) bh),?_⟩;refine⟨_,rfl,_,rfl,ac,_,rfl,.inr (SqT.of ec),_,_,rfl,rfl,S,vy,y,0,_,rfl,ty,zy,λH1 s1=>⟨_,rfl,?_⟩⟩;cases e:dR y 0 ((xc.length:Int)-1)with|true=>exact bx (q2 (zAy (by rw[e];decide)) _ s1);|false=>exact bw ⟨by decide,λa ha=>q1 5 (zAz e) a _ s1 ha⟩
theorem Dn(F:Fun K "refuse_no_year" "refuse_no_year" (top 62) f fd)(c1:iZ P w K mg base 7 "refuse_no_book" ["thing"] (PP Cs qR))(c2:iZ P w K mg base 3 "refuse_no_year_of" ["clips","year"] (PQ Cs)):FnOk P w K mg base (CX1 P w) 8 f fd ["book","year"] (jJ Cs qR):=by
 refine F.oqX Kw λaf A outer s H vs Q E hr h=>?_;obtain⟨S,v,d,vy,y,rfl,th,hz,ty,zy,q1,q2⟩:=h;refine⟨_,aA (bf (cQ (E:=E) c1 hr z02 rfl eU rfl (aq (pv 0) aj))) (aF (bf (cQ (E:=E) c2 hr z02 rfl eU rfl (aq (pX bQ (pv 0) aB) (aq (pv 1) aj))))),?_⟩;refine aG ?_;unfold j4 at q1 q2;refine⟨_,rfl,S,v,d,rfl,th,hz,λj hj a H' s' ha=>?_,λkn H1 s1=>?_⟩
 .unfold kindB at hj;split at hj;.rename_i e;exact q1 j (by rw[zAz e];exact hj) a H' s' ha
  .cases hj
 have hb:gw d=true:=by
  unfold kindB at kn;split at kn;.cases kn
  .rename_i h;simpa using h
 rw[zAy (by rw[hb];decide)]at q1 q2;obtain⟨bk,ac,xc,cs,ap,xp,ps,ai,xs,ss,rfl,rfl,B⟩:=vB (th.same s1) hb;have hl:(items (part (.tuple [cN cs,cN ps,cN ss]) 0)).length=xc.length:=by show(cs.map jn).length=_;rw[zA1,B.rc.l]
 rw[hl]at q1 q2;exact⟨_,rfl,bk,_,0,.ref ac,rfl,rfl,SqT.of B.e,rfl,_,rfl,S,ac,xc,vy,y,rfl,B.rc.e,ty.same s1,zy,λj hj a H' s' ha=>q1 j hj a H' (s1.trans s') ha,λk H' s'=>q2 k H' (s1.trans s')⟩
theorem Hn(F:Fun K "owed_by" "owed_by" (top 69) f fd)(c1:iZ P w K mg base 8 "refuse_no_year" ["book","year"] (jJ Cs qR)):FnOk P w K mg base (CX1 P w) 12 f fd ["book","year"] (oW Cs):=by refine F.oqX Ky λaf A outer s H vs Q E hr h=>?_;obtain⟨S,v,d,vy,y,j,rfl,th,hz,ty,zy,kj,q1⟩:=h;exact⟨_,aA (bf (cQ (E:=E) c1 hr z02 rfl eU rfl (aq (pv 0) (aq (pv 1) aj)))) dM,aG ⟨_,rfl,_,rfl,S,v,d,vy,y,rfl,th,hz,ty,zy,λj' hj a H' s' ha=>by rw[kj]at hj;cases hj;exact q1 a H' s' ha,λkn=>by rw[kj]at kn;cases kn⟩⟩
theorem Hq(F:Fun K "sums_by" "sums_by" (top 70) f fd)(c1:iZ P w K mg base 8 "refuse_no_year" ["book","year"] (jJ Cs qR)):FnOk P w K mg base (CX1 P w) 12 f fd ["book","year"] (oW Cs):=by refine F.oqX scO2 λaf A outer s H vs Q E hr h=>?_;obtain⟨S,v,d,vy,y,j,rfl,th,hz,ty,zy,kj,q1⟩:=h;exact⟨_,aA (bf (cQ (E:=E) c1 hr z02 rfl eU rfl (aq (pv 0) (aq (pv 1) aj)))) dM,aG ⟨_,rfl,_,rfl,S,v,d,vy,y,rfl,th,hz,ty,zy,λj' hj a H' s' ha=>by rw[kj]at hj;cases hj;exact q1 a H' s' ha,λkn=>by rw[kj]at kn;cases kn⟩⟩
theorem Do(F:Fun K "pence_owed" "pence_owed" (top 71) f fd)(c1:iZ P w K mg base 8 "refuse_no_year" ["book","year"] (jJ Cs qR)):FnOk P w K mg base (CX1 P w) 12 f fd ["book","year"] (oW Cs):=by refine F.oqX scKP λaf A outer s H vs Q E hr h=>?_;obtain⟨S,v,d,vy,y,j,rfl,th,hz,ty,zy,kj,q1⟩:=h;exact⟨_,aA (bf (cQ (E:=E) c1 hr z02 rfl eU rfl (aq (pv 0) (aq (pv 1) aj)))) dM,aG ⟨_,rfl,_,rfl,S,v,d,vy,y,rfl,th,hz,ty,zy,λj' hj a H' s' ha=>by rw[kj]at hj;cases hj;exact q1 a H' s' ha,λkn=>by rw[kj]at kn;cases kn⟩⟩
theorem ji(hR:∀cs ps ss y Q H,anyR Q H->R cs ps ss y Q H)(G:FnOk P w K mg base CX0 k f fd ["book","year"] (jV R))(B:FnOk P w K mg base (CX1 P w) k f fd ["book","year"] (oW Cs)):FnOk P w K mg base (CX1 P w) k f fd ["book","year"] (jJ Cs anyR):=by refine(either G B).imp λvs H Q E h=>?_;obtain⟨S,v,d,vy,y,rfl,th,hz,ty,zy,q1,q2⟩:=h;cases kk:j4 d y with|some j=>exact .inr ⟨S,v,d,vy,y,j,rfl,th,hz,ty,zy,kk,q1 j kk⟩;|none=>
  have q:=q2 kk;unfold j4 at kk;split at kk;.cases kk
  rename_i hb;split at kk;.cases kk
  rename_i hy;have hb:gw d=true:=by simpa using hb
  obtain⟨bk,ac,xc,cs,ap,xp,ps,ai,xs,ss,rfl,rfl,BA⟩:=vB th hb;obtain⟨i,rfl,i0,i1⟩:=JZ (by simpa using hy:dR y 0 _=true);have hl:(items (part (.tuple [cN cs,cN ps,cN ss]) 0)).length=cs.length:=zA1 _;cases ty;exact .inl ⟨S,bk,i,_,ac,xc,cs,ap,xp,ps,ai,xs,ss,rfl,th,hz,hb,BA,i0,z00,hR _ _ _ _ _ _ q⟩
end
def mY(ns:WF):WF:=(List.range (ns.length+1)).map λi=>(ns.drop i).sum
def pA(ns:WF)(j:Nat):WF:=(List.range (j+1)).map λi=>(ns.drop (ns.length-i)).sum
theorem Dp(ns:WF):pA ns 0=[0]:=by show[(ns.drop (ns.length-0)).sum]=[0];rw[Nat.sub_zero,List.drop_length];rfl
theorem ug(ns:WF)(j:Nat):pA ns j=(List.range j).map (λi=>(ns.drop (ns.length-i)).sum)++[(ns.drop (ns.length-j)).sum]:=by unfold pA;rw[Za8,zA4];rfl
theorem Dq(h:ns.reverse[j]?=some x):pA ns (j+1)=pA ns j++[(ns.drop (ns.length-j)).sum+x]:=by
 have hj:j<ns.length:=by have:=(zAa.mp h).1;rw[Zbf]at this;exact this
 rw[List.getElem?_reverse hj]at h;rw[ug ns (j+1)];congr 2;have e:ns.length-j=(ns.length-(j+1))+1:=z00;have hl:ns.length-(j+1)<ns.length:=z00;have hx:ns[ns.length-(j+1)]=x:=by rw[show ns.length-1-j=ns.length-(j+1)by lia,zA0 hl]at h;exact zAl h
 rw[Zbe hl,<-e,hx,Zag,Int.add_comm]
theorem Hr(ns:WF):(pA ns ns.length).reverse=mY ns:=by unfold pA mY;refine List.ext_getElem z01 λi h1 h2=>?_;rw[List.getElem_reverse,List.getElem_map,List.getElem_map,List.getElem_range,List.getElem_range];simp only[List.length_reverse,List.length_map,List.length_range]at h1 h2⊢;congr 2;lia
theorem Hs{α:Type}(xs:List α)(x:α):atI (xs++[x]) (-1)=some x:=by
 have e1:ixN (xs++[x]).length (-1)=some xs.length:=by unfold ixN;rw[zAy z02,zA2,List.length_singleton,zAz z00];congr 1;lia
 unfold atI;rw[e1];exact List.getElem?_concat_length
inductive SpFromI(vs:List V)(H:Hp)(Q:VK):Prop|mk:∀l ns,(vs=[.ref l])->(H l=some (.lst (ns.map V.int)))->(ns.length<=100)->(∀k H',Same H H'->H k=none->H' k=some (.lst ((mY ns).map V.int))->Q (.ref k) H')->SpFromI  vs H Q
def zf:Sp:=λvs H Q _=>SpFromI  vs H Q
structure TbAt(H:Hp)(L:Addr)(as:Qa9)(rs:UV):Prop where
 e:H L=some (.lst (as.map V.ref))l:as.length=rs.length
 g:∀i a,as[i]?=some a->H a=some (.lst ((rs.getD i []).map V.int))
theorem TbAt.same(h:TbAt H L as rs)(s:Same H H'):TbAt H' L as rs:=⟨s _ _ h.e,h.l,λi a e=>s _ _ (h.g i a e)⟩
def clT(ps ss:UV)(y s:Nat):WF:=(List.range (y+1)).map λ(i:Nat)=>aY (cW ps ss (s:Int) (i:Int))
def qT(ps ss:UV)(y n:Nat):UV:=(List.range n).map λs=>mY (clT ps ss y s)
def wlT(cs:UV)(y s:Nat):WF:=(List.range (y+1)).map λi=>fl (cs.getD i []) s
def qU(cs:UV)(y n:Nat):UV:=(List.range n).map λs=>mY (wlT cs y s)
def N6:UV->UV->UV->Int->VK->Hp->Prop:=λcs ps ss y Q H=>∀L as H',Same H H'->TbAt H' L as (qT ps ss y.toNat 3)->Q (.ref L) H'
def N7:UV->UV->UV->Int->VK->Hp->Prop:=λcs ps ss y Q H=>∀L as H',Same H H'->TbAt H' L as (qU cs y.toNat 3)->Q (.ref L) H'
theorem scKO1:FnScope ["numbers","sums","number"] ["numbers"] (aC (top 73)):=fQS
theorem K1(F:Fun K "from_each_on" "from_each_on" (top 73) f fd)(Tv:mg "reversed"=none):FnOk P w K mg base CX0 1 f fd ["numbers"] zf:=by
 refine F.oq scKO1 λaf A outer s H vs Q E hr h=>?_;obtain⟨l,ns,rfl,el,hl,q⟩:=h;refine⟨_,aA (pss 1 scKO1.nd (cY (aq aB aj))) (aA (cP zB8 rfl (Ma rfl Tv (aq (pv 0) aj)) (pgn 2 scKO1.nd) (aF (bf (eZ zB4 zBa zB9 cA (pv 1) (aq (aV bI (pX bF (pv 1) (sG nq aB)) (pv 2)) aj))))) (aF (aN (Jm (pv 1))))),?_⟩;refine aG (aU ?_);refine⟨zL,λl1 de=>?_⟩;have s1:=Same.upd (o:=.lst [V.int 0]) de;have e1:upd H l1 (.lst [V.int 0]) l1=some (.lst ((pA ns 0).map V.int)):=by rw[Dp];exact ao
 generalize upd H l1 (.lst [V.int 0])=H1 at s1 e1⊢;refine aK ?_;dsimp only;refine aG ?_;refine⟨_,rfl,l,_,rfl,SqL.of (s1 _ _ el),?_⟩;refine Jl (xs:=ns.map V.int) (λi σ Hc=>∃x2,σ=[some (.ref l),some (.ref l1),x2]/\Same H Hc/\Hc l1=some (.lst ((pA ns i).map V.int))) ?_ ?_ ?_ ?_;.exact⟨none,rfl,s1,e1⟩
 .rintro i σ Hc hi⟨x2,rfl,sc,e⟩;exact SqL.of (sc _ _ el)
 .rintro i x σ Hc hx⟨x2,rfl,sc,e⟩;rw[<-List.map_reverse,zAb]at hx;obtain⟨n,hn,rfl⟩:=Option.map_eq_some_iff.mp hx;have hi:i<ns.length:=by have:=(zAa.mp hn).1;rw[Zbf]at this;exact this
  rw[Dq hn];refine aK ?_;have zd:(pA ns i).length=i+1:=by unfold pA;rw[zA1,Zah]
  have dv:atI ((pA ns i).map V.int) (-1)=some (.int (ns.drop (ns.length-i)).sum):=by rw[ug,zA4];exact Hs _ _
  refine⟨_,rfl,.inl ⟨rfl,_,SqL.of e⟩,_,rfl,_,rfl,l1,_,-1,_,rfl,rfl,SqL.of e,dv,_,rfl,_,_,rfl,rfl,l1,_,_,rfl,rfl,e,?_,?_⟩;.rw[zA1,zd,sizeLine_eq];lia
  .refine⟨_,rfl,λb o e'=>?_,?_⟩;.rw[aD (aH e' de)];exact sc _ _ e'
   .rw[ao,zA4];rfl
 .rintro σ Hc⟨x2,rfl,sc,e⟩;dsimp only;rw[zA1]at e;refine⟨_,rfl,l1,_,rfl,SqL.of e,λk hk=>q k _ (sc.updR hk) (sc.free hk) ?_⟩;rw[ao,<-List.map_reverse,Hr]
theorem QS:(["sort","promises","sales","year"]:Qa7).Nodup:=by decide+kernel
theorem QT:(["at","promises","sales","sort"]:Qa7).Nodup:=by decide+kernel
theorem scKO2:FnScope ["book","year","clips","promises","sales"] ["book","year"] (aC (top 74)):=fQS
theorem zg(F:Fun K "claimed_since" "claimed_since" (top 74) f fd)(N:Nums mg)(Tr:mg "range"=none)(c1:Cal P w K mg base 1 "from_each_on" ["numbers"] zf)(c2:Cal P w K mg base 1 "sacks_of" ["rows"] pJ)(c3:Cal P w K mg base 2 "claims_in" ["promises","sales","sort","year"] mW):FnOk P w K mg base CX0 3 f fd ["book","year"] (qP N6):=by
 refine F.oq scKO2 λaf A outer s H vs Q E hr h=>?_;obtain⟨bk,y,ac,xc,cs,ap,xp,ps,ai,xs,ss,rfl,B,y0,y1,q⟩:=h;obtain⟨t1,e1⟩:=N.sorts;refine⟨_,aA (cO (pv 0) (bU rfl (az (pgn 2 scKO2.nd) (az (bC (i:=3) scKO2.nd rfl (Or.inr rfl)) (az (bC (i:=4) scKO2.nd rfl (Or.inr rfl)) aX))))) (aF (aN (wG (x₀:="sort") ["sort","promises","sales","year"] [none,some 3,some 4,some 1] rfl (bK rfl Tr (aq (bM (v:=.int 3) rfl e1 ⟨_,rfl⟩) aj)) (λC fp z06 s₂ H₂=>⟨bC (i:=0) QS rfl (Or.inr rfl) (Or.inl rfl),bB,aJ c1 hr (aq (bN ["at","promises","sales","sort"] [none,some 1,some 2,some 0] rfl (bK rfl Tr (aq (aV bI (pv 3) aB) aj)) (λC fp z06 s₂ H₂=>⟨pgn 0 QT,bB,aJ c2 hr (aq (aJ c3 hr (aq (pv 1) (aq (pv 2) (aq (pv 3) (aq (pv 0) aj))))) aj)⟩) (λC=>cI (cI (cI trivial))) ⟨rfl,rfl,rfl,rfl⟩) aj)⟩) (λC=>cI (cI (cI trivial))) ⟨rfl,rfl,rfl,rfl,λ_ _=>rfl,λ_=>rfl⟩))),?_⟩;obtain⟨n,rfl⟩:∃n:Nat,y=n:=⟨y.toNat,z00⟩;unfold N6 at q;rw[zAi]at q;have hn:n<20:=by have:=B.lc;lia
 refine aG ?_;refine⟨_,rfl,bk,_,rfl,SqT.of B.e,rfl,_,_,rfl,_,_,rfl,_,_,rfl,rfl,?_⟩;dsimp only;refine gQ ?_;refine⟨3,rfl,by decide,by decide,dG 3 (λi ys σ Hc=>Same H Hc/\(∃o1,σ=[o1,some (.ref ap),some (.ref ai),some (.int n)])/\∃as:Qa9,ys=as.map V.ref/\as.length=i/\∀j a,as[j]?=some a->Hc a=some (.lst (((qT ps ss n 3).getD j []).map V.int))) ⟨Same.refl H,⟨_,rfl⟩,[],rfl,rfl,λj a e=>by simp at e⟩ (by rw[sizeLine_eq];decide) ?_ ?_⟩
 .rintro i ys σ Hc hi hy⟨s1,⟨o1,rfl⟩,as,rfl,la,ga⟩;refine⟨hi,λv H' y' R hR=>?_⟩;obtain⟨eH,rfl⟩:=y';subst H';refine aK ?_;have cx:=vz B.un B.h5;have B1:=B.same s1;refine⟨_,rfl,_,_,rfl,rfl,(n:Int)+1,rfl,z00,z00,?_⟩;refine dG (n+1) (λj ys σ Hd=>Same Hc Hd/\(∃o1,σ=[o1,some (.ref ap),some (.ref ai),some (.int (0+(i:Int)))])/\ys=(((List.range j).map λ(k:Nat)=>aY (cW ps ss (i:Int) (k:Int))):WF).map V.int) ⟨Same.refl Hc,⟨_,rfl⟩,rfl⟩ z05 ?_ ?_;.rintro j ys σ Hd hj hy⟨s2,⟨o1,rfl⟩,rfl⟩;refine⟨by show j<_;lia,λv H' y' R' LA=>?_⟩;obtain⟨eH,rfl⟩:=y';subst H';refine aK ?_;have B2:=B1.same s2;refine⟨_,rfl,_,rfl,_,rfl,_,rfl,ap,xp,ps,ai,xs,ss,_,_,rfl,B2.rp,B.lp,B.okp,B2.rs,B.ls,cx,λl xl H3 s3 nl el cE=>?_⟩;have i0:(0:Int)+(i:Int)=(i:Int):=Zbg _;have j0:(0:Int)+(j:Int)=(j:Int):=Zbg _;rw[i0,j0]at cE;have lcl:=jh (ss:=ss) (sort:=(i:Int)) (year:=(j:Int)) B.lp;refine⟨l,xl,_,rfl,el,cE,λr hr=>(oh B.un B.h5 B.okp r hr).1.l,z00,λH4 s4=>LA _ _ _ ⟨(s2.trans s3).trans s4,⟨_,rfl⟩,?_⟩⟩;rw[Za8,zA4,zA4];rfl
  .rintro ys σ Hd hy⟨s2,_,rfl⟩;refine⟨by show _<=n+1;lia,λD hD=>?_⟩;have s3:=Same.upd (o:=.lst (((List.range (n+1)).map λ(k:Nat)=>aY (cW ps ss (i:Int) (k:Int))).map V.int)) hD;refine⟨D,_,rfl,ao,by rw[zA1,Zah];lia,λk H4 s4 nk ek=>hR _ _ _ ⟨((s1.trans s2).trans s3).trans s4,⟨_,rfl⟩,as++[k],by rw[zA4];rfl,by rw[zA2,la];rfl,λj a e=>?_⟩⟩;by_cases hj:j<as.length;.rw[zBb hj]at e;exact s4 _ _ (s3 _ _ (s2 _ _ (ga j a e)))
   .rw[zBc z00]at e;cases hk:j-as.length with
 |zero=>
     rw[hk]at e;injection e with e;subst e;have:j=i:=z00;rw[ek,this];have:(qT ps ss n 3).getD i []=mY (clT ps ss n i):=by unfold qT;rw[zA7,zAb,Zat hi];rfl
     rw[this];rfl;|succ m=>rw[hk]at e;simp at e
 .rintro ys σ Hc hy⟨s1,_,as,rfl,la,ga⟩;refine⟨by show _<=3;decide,λD hD=>?_⟩;have s2:=Same.upd (o:=.lst (as.map V.ref)) hD;exact q D as _ (s1.trans s2) ⟨ao,by rw[la];unfold qT;rw[zA1,Zah],λi a e=>s2 _ _ (ga i a e)⟩
def mnL:WF->Int|[]=>0|[x]=>x|x::y::r=>if x<=mnL (y::r)then x else mnL (y::r)
theorem vG:∀{ns:WF},ns≠[]->mnL ns∈ns
 |[],h=>absurd rfl h|[x],_=>Zad.mpr rfl|x::y::r,_=>by
  show(if x<=mnL (y::r)then x else mnL (y::r))∈_;split;.exact .head _
  .exact .tail _ (vG (λz=>nomatch z))
theorem Ht:∀{ns:WF},∀a∈ns,mnL ns<=a
 |[],a,h=>nomatch h|[x],a,h=>by rw[Zad.mp h];exact Za6 _;|x::y::r,a,h=>by
  show(if x<=mnL (y::r)then x else mnL (y::r))<=a;rcases zAo.mp h with z|z;.rw[z];split<;>lia
  .have:=Ht (ns:=y::r) a z;split<;>lia
theorem N8(h:M∈ns)(hl:∀a∈ns,M<=a):M=mnL ns:=by have h1:=hl _ (vG (λz=>by rw[z]at h;cases h));have h2:=Ht M h;lia
def tb(T:UV)(s:Nat)(i:Int):Int:=(T.getD s []).getD i.toNat 0
def shV(C W:UV)(p:WF):Int:=((List.range 3).map λs=>tb C s (fl p s)).sum-((List.range 3).map λs=>tb W s (mnL (p.drop s))).sum
def Hu(n:Int)(p:WF):Prop:=p.length=3/\∀x∈p,0<=x/\x<=n+1
inductive SpShownI(vs:List V)(H:Hp)(Q:VK):Prop|mk:∀lc ac C lw aw W t p n,(vs=[.ref lc,.ref lw,.ref t])->(TbAt H lc ac C)->(TbAt H lw aw W)->(C.length=3)->(W.length=3)->((∀r∈C,(r.length:Int)=n+2))->((∀r∈W,(r.length:Int)=n+2))->(H t=some (.tup (p.map V.int)))->(Hu n p)->(∀H',Same H H'->Q (.int (shV C W p)) H')->SpShownI  vs H Q
def Bq:Sp:=λvs H Q _=>SpShownI  vs H Q
def qW(cs ps ss:UV)(y:Nat)(p:WF):Int:=shV (qT ps ss y 3) (qU cs y 3) p
theorem Hv{T:UV}(h:∀r∈T,(r.length:Int)=m)(hs:s<T.length):((T.getD s []).length:Int)=m:=by rw[zA7,zA0 hs];exact h _ (zAh hs)
theorem PX(h:Hu n p)(hs:s<3):0<=fl p s/\fl p s<=n+1:=by
 have hl:s<p.length:=by rw[h.1];exact hs
 unfold fl;rw[zA7,zA0 hl];exact h.2 _ (zAh hl)
theorem Q0(h:Hu n p)(hs:s<3):0<=mnL (p.drop s)/\mnL (p.drop s)<=n+1:=by
 have hl:p.drop s≠[]:=λz=>by have:=congrArg List.length z;rw[Zap,h.1]at this;simp at this;lia
 exact h.2 _ (Zbd (vG hl))
theorem KD{T:UV}(h:∀r∈T,(r.length:Int)=n+2)(hs:s<T.length)(h0:0<=i)(h1:i<=n+1):atI ((T.getD s []).map V.int) i=some (.int (tb T s i)):=by have hl:=Hv h hs;have:=d7 (il (L:=T.getD s []) (i:=i.toNat) z00);rw[show((i.toNat:Nat):Int)=i by lia]at this;exact this
theorem TbAt.at(h:TbAt H L as T)(hs:s<T.length):∃a,atI (as.map V.ref) (s:Int)=some (.ref a)/\H a=some (.lst ((T.getD s []).map V.int)):=by
 have hl:s<as.length:=by rw[h.l];exact hs
 exact⟨as[s],d7 (by rw[zAb,zA0 hl];rfl),h.g s _ (zA0 hl)⟩
theorem QV:(["sort","clips","year"]:Qa7).Nodup:=by decide+kernel
theorem QW:(["at","clips","sort"]:Qa7).Nodup:=by decide+kernel
theorem scP2:FnScope ["book","year","clips","promises","sales"] ["book","year"] (aC (top 75)):=fQS
theorem xV(F:Fun K "wool_since" "wool_since" (top 75) f fd)(N:Nums mg)(Tr:mg "range"=none)(c1:Cal P w K mg base 1 "from_each_on" ["numbers"] zf):FnOk P w K mg base CX0 2 f fd ["book","year"] (qP N7):=by
 refine F.oq scP2 λaf A outer s H vs Q E hr h=>?_;obtain⟨bk,y,ac,xc,cs,ap,xp,ps,ai,xs,ss,rfl,B,y0,y1,q⟩:=h;obtain⟨t1,e1⟩:=N.sorts;refine⟨_,aA (cO (pv 0) (bU rfl (az (bC (i:=2) scP2.nd rfl (Or.inr rfl)) (az (pgn 3 scP2.nd) (az (pgn 4 scP2.nd) aX))))) (aF (aN (wG (x₀:="sort") ["sort","clips","year"] [none,some 2,some 1] rfl (bK rfl Tr (aq (bM (v:=.int 3) rfl e1 ⟨_,rfl⟩) aj)) (λC fp z06 s₂ H₂=>⟨bC (i:=0) QV rfl (Or.inr rfl) (Or.inl rfl),bB,aJ c1 hr (aq (bN ["at","clips","sort"] [none,some 1,some 0] rfl (bK rfl Tr (aq (aV bI (pv 2) aB) aj)) (λC fp z06 s₂ H₂=>⟨pgn 0 QW,bB,pX (K24P.ix_tupK (K:=K) rfl) (pX (K24P.ix_tupK (K:=K) rfl) (pv 1) (pv 0)) (pv 2)⟩) (λC=>cI (cI trivial)) ⟨rfl,rfl,rfl,rfl⟩) aj)⟩) (λC=>cI (cI trivial)) ⟨rfl,rfl,rfl,rfl,λ_ _=>rfl,λ_=>rfl⟩))),?_⟩;obtain⟨n,rfl⟩:∃n:Nat,y=n:=⟨y.toNat,z00⟩;unfold N7 at q;rw[zAi]at q;have hn:n<20:=by have:=B.lc;lia
 refine aG ?_;refine⟨_,rfl,bk,_,rfl,SqT.of B.e,rfl,_,_,rfl,_,_,rfl,_,_,rfl,rfl,?_⟩;dsimp only;refine gQ ?_;refine⟨3,rfl,by decide,by decide,dG 3 (λi ys σ Hc=>Same H Hc/\(∃o1,σ=[o1,some (.ref ac),some (.int n)])/\∃as:Qa9,ys=as.map V.ref/\as.length=i/\∀j a,as[j]?=some a->Hc a=some (.lst (((qU cs n 3).getD j []).map V.int))) ⟨Same.refl H,⟨_,rfl⟩,[],rfl,rfl,λj a e=>by simp at e⟩ (by rw[sizeLine_eq];decide) ?_ ?_⟩
 .rintro i ys σ Hc hi hy⟨s1,⟨o1,rfl⟩,as,rfl,la,ga⟩;refine⟨hi,λv H' y' R hR=>?_⟩;obtain⟨eH,rfl⟩:=y';subst H';refine aK ?_;have B1:=B.same s1;refine⟨_,rfl,_,_,rfl,rfl,(n:Int)+1,rfl,z00,z00,?_⟩;refine dG (n+1) (λj ys σ Hd=>Hd=Hc/\(∃o1,σ=[o1,some (.ref ac),some (.int (0+(i:Int)))])/\ys=(((List.range j).map λ(k:Nat)=>fl (cs.getD k []) i):WF).map V.int) ⟨rfl,⟨_,rfl⟩,rfl⟩ z05 ?_ ?_
  .rintro j ys σ Hd hj hy⟨rfl,⟨o1,rfl⟩,rfl⟩;refine⟨by show j<_;lia,λv H' y' R' LA=>?_⟩;obtain⟨eH,rfl⟩:=y';subst H';refine aK ?_;have LB:j<cs.length:=z00;obtain⟨t,ex,et⟩:=B1.rc.g j cs[j] (zA0 LB);have l3:=(B.okc _ (zAh LB)).1;have LD:atI xc (0+(j:Int))=some (.ref t):=by rw[Zbg];exact d7 ex
   have LF:atI (cs[j].map V.int) (0+(i:Int))=some (.int (fl (cs.getD j []) i)):=by rw[Zbg,getD_get LB];exact d7 (il z00)
   refine⟨_,rfl,_,rfl,ac,_,_,_,rfl,rfl,SqT.of B1.rc.e,LD,_,rfl,t,_,_,_,rfl,rfl,SqT.of et,LF,LA _ _ _ ⟨rfl,⟨_,rfl⟩,?_⟩⟩;rw[Za8,zA4,zA4];rfl
  .rintro ys σ Hd hy⟨rfl,_,rfl⟩;refine⟨by show _<=n+1;lia,λD hD=>?_⟩;have s3:=Same.upd (o:=.lst (((List.range (n+1)).map λ(k:Nat)=>fl (cs.getD k []) i).map V.int)) hD;refine⟨D,_,rfl,ao,by rw[zA1,Zah];lia,λk H4 s4 nk ek=>hR _ _ _ ⟨(s1.trans s3).trans s4,⟨_,rfl⟩,as++[k],by rw[zA4];rfl,by rw[zA2,la];rfl,λj a e=>?_⟩⟩;by_cases hj:j<as.length;.rw[zBb hj]at e;exact s4 _ _ (s3 _ _ (ga j a e))
   .rw[zBc z00]at e;cases hk:j-as.length with
 |zero=>
     rw[hk]at e;injection e with e;subst e;have:j=i:=z00;rw[ek,this];have:(qU cs n 3).getD i []=mY (wlT cs n i):=by unfold qU;rw[zA7,zAb,Zat hi];rfl
     rw[this];rfl;|succ m=>rw[hk]at e;simp at e
 .rintro ys σ Hc hy⟨s1,_,as,rfl,la,ga⟩;refine⟨by show _<=3;decide,λD hD=>?_⟩;have s2:=Same.upd (o:=.lst (as.map V.ref)) hD;exact q D as _ (s1.trans s2) ⟨ao,by rw[la];unfold qU;rw[zA1,Zah],λi a e=>s2 _ _ (ga i a e)⟩
theorem mF{xs:List V}(h:i<=xs.length):lG xs (some (i:Int)) none=xs.drop i:=by unfold lG;rw[HT.sIx_none,HT.sIx_nat,Nat.min_eq_left h,Zal (by rw[Zap];exact zA3 _)]
theorem sr(hK:X.K=K)(hc:X.calm=true):fK X (.builtin "min") (λxs H Q=>∃(p:Addr)(ns:WF),xs=[.ref p]/\SqT K H p (ns.map V.int)/\ns≠[]/\∀M,M∈ns->(∀a∈ns,M<=a)->Q (.int M) H):=by subst hK;exact uT hc
theorem Q3:(["sort","since","claimed"]:Qa7).Nodup:=by decide+kernel
theorem QX:(["sort","wool","paper"]:Qa7).Nodup:=by decide+kernel
theorem Ds:bootBuiltins "min"=some (.builtin "min"):=by decide+kernel
theorem scQ1:FnScope ["claimed","wool","paper","claims"] ["claimed","wool","paper"] (aC (top 76)):=fQS
theorem Hw(F:Fun K "shown" "shown" (top 76) f fd)(N:Nums mg)(Tr:mg "range"=none)(Ts:mg "sum"=none)(Te:mg "enumerate"=none)(Tn:mg "min"=none):FnOk P w K mg base CX0 1 f fd ["claimed","wool","paper"] Bq:=by
 refine F.oq scQ1 λaf A outer s H vs Q E hr h=>?_;obtain⟨lc,ac,C,lw,aw,W,t,p,n,rfl,tC,tW,lC,lW,rC,rW,et,okp,q⟩:=h;obtain⟨t1,e1⟩:=N.sorts;refine⟨_,aA (pss 3 scQ1.nd (aM (fj rfl) rfl Ts boot_sum (aq (bN (g:=lE K 2 (cG (bR 0) (cG (bR 1) mZ))) ["sort","since","claimed"] [none,none,some 0] rfl (ZT.pi_enum true rfl Te (aq (pv 2) aj)) (λC fp z06 s₂ H₂=>⟨eQ rfl rfl (az (pgn 0 Q3) (az (pgn 1 Q3) aX)),bB,pX (gU (K:=K) rfl) (pX (gU (K:=K) rfl) (pv 2) (pv 0)) (pv 1)⟩) (λC=>cI trivial) ⟨rfl,rfl,rfl,rfl⟩) aj))) (aF (aN (aV fU (pv 3) (aM (fj rfl) rfl Ts boot_sum (aq (bN ["sort","wool","paper"] [none,some 1,some 2] rfl (bK rfl Tr (aq (bM (v:=.int 3) rfl e1 ⟨_,rfl⟩) aj)) (λC fp z06 s₂ H₂=>⟨pgn 0 QX,bB,pX (gU (K:=K) rfl) (pX (gU (K:=K) rfl) (pv 1) (pv 0)) (aM (sr (K:=K) rfl rfl) rfl Tn Ds (aq (pQ JV (pv 2) (uw (pv 0)) uv) aj))⟩) (λC=>cI (cI trivial)) ⟨rfl,rfl,rfl,rfl⟩) aj))))),?_⟩;have l3:=okp.1;refine aG (aU ?_);refine⟨_,rfl,t,_,rfl,SqT.of et,dG 3 (λi ys σ Hc=>Same H Hc/\(∃o1 o2,σ=[o1,o2,some (.ref lc)])/\ys=((List.range i).map λs=>tb C s (fl p s)).map V.int) ⟨Same.refl H,⟨_,_,rfl⟩,rfl⟩ (by rw[sizeLine_eq];decide) ?_ ?_⟩;.rintro i ys σ Hc hi hy⟨s1,⟨o1,o2,rfl⟩,rfl⟩;have mw:SqT K Hc t (p.map V.int):=SqT.of (s1 _ _ et);have CU:(p.map V.int)[i]?=some (.int (fl p i)):=il z00;refine⟨⟨_,_,mw,CU⟩,λx H' yv R hR=>?_⟩;obtain⟨T1,CY,rfl,yv⟩:=yv;obtain⟨x',dQ,rfl⟩:=yv _ mw;rw[CU]at dQ;cases dQ;have s2:=s1.updR (o:=.tup [.int (i:Int),.int (fl p i)]) CY;obtain⟨f0,f1⟩:=PX okp hi;obtain⟨a,ha,ea⟩:=(tC.same s2).at (s:=i) z00;refine⟨T1,_,rfl,SqT.of ao,rfl,_,_,rfl,_,_,rfl,rfl,?_⟩;refine⟨_,rfl,_,rfl,lc,_,_,_,rfl,rfl,SqL.of (tC.same s2).e,ha,_,rfl,a,_,_,_,rfl,rfl,SqL.of ea,KD rC z00 f0 f1,hR _ _ _ ⟨s2,⟨_,_,rfl⟩,?_⟩⟩;rw[Za8,zA4,zA4];rfl
 .rintro ys σ Hc hy⟨s1,_,rfl⟩;refine⟨⟨_,SqT.of (s1 _ _ et),by rw[zA1];lia⟩,λD hD=>⟨D,_,rfl,.inl (SqL.of ao),?_⟩⟩;have s2:=s1.updR (o:=.lst (((List.range 3).map λs=>tb C s (fl p s)).map V.int)) hD;generalize upd Hc D (.lst (((List.range 3).map λs=>tb C s (fl p s)).map V.int))=H2 at s2⊢;refine aK ?_;dsimp only;refine gQ ?_;refine⟨_,rfl,3,rfl,by decide,by decide,dG 3 (λi ys σ Hc=>Same H2 Hc/\(∃o1,σ=[o1,some (.ref lw),some (.ref t)])/\ys=((List.range i).map λs=>tb W s (mnL (p.drop s))).map V.int) ⟨Same.refl H2,⟨_,rfl⟩,rfl⟩ (by rw[sizeLine_eq];decide) ?_ ?_⟩
  .rintro i ys σ Hd hi hy⟨s3,⟨o1,rfl⟩,rfl⟩;refine⟨hi,λv H' y' R hR=>?_⟩;obtain⟨eH,rfl⟩:=y';subst H';refine aK ?_;have si:=s2.trans s3;obtain⟨a,ha,ea⟩:=(tW.same si).at (s:=i) z00;rw[show((i:Nat):Int)=0+(i:Int)by lia]at ha;refine⟨_,rfl,_,rfl,lw,_,_,_,rfl,rfl,SqL.of (tW.same si).e,ha,_,rfl,_,rfl,_,rfl,t,_,rfl,si _ _ et,λc H4 s4 ec=>?_⟩;rw[Zbg,mF (by rw[zA1];lia),<-List.map_drop]at ec;have fy:p.drop i≠[]:=λz=>by have:=congrArg List.length z;rw[Zap,l3]at this;simp at this;lia
   refine⟨c,_,rfl,SqT.of ec,fy,λM hM hle=>?_⟩;have eM:=N8 hM hle;subst eM;obtain⟨m0,m1⟩:=Q0 okp hi;refine⟨a,_,_,_,rfl,rfl,SqL.of (s4 _ _ ea),KD rW z00 m0 m1,hR _ _ _ ⟨s3.trans s4,⟨_,rfl⟩,?_⟩⟩;rw[Za8,zA4,zA4];rfl
  .rintro ys σ Hd hy⟨s3,_,rfl⟩;refine⟨by show _<=3;decide,λD2 Vv=>⟨D2,_,rfl,.inl (SqL.of ao),_,_,rfl,rfl,q _ ((s2.trans s3).updR Vv)⟩⟩
theorem QZ:FnScope ["year","thing"] ["year","thing"] (aC (top 77)):=fQS
theorem xW(ns:WF):(mY ns).length=ns.length+1:=by unfold mY;rw[zA1,Zah]
def seg(f:Nat->Int)(a:Nat):Nat->Int|0=>0|m+1=>if a<=m then seg f a m+f m else 0
def val(δ:Nat->Nat->Int)(t:Nat->Nat)(m:Nat):Nat->Int|0=>0|n+1=>val δ t m n+seg (δ n) (t n) m
def Mono(t:Nat->Nat)(n:Nat):Prop:=∀s,s+1<n->t s<=t (s+1)
theorem Mono.le(h:Mono t n):∀{a b},a<=b->b<n->t a<=t b:=λ{a b}Vw=>by induction Vw with|refl=>exact λ_=>zA3 _;|step _ ih=>exact λhb=>Zaf (ih z00) (h _ hb)
theorem K4{f:Nat->Int}(h:m<=a):seg f a m=0:=by cases m with|zero=>rfl;|succ m=>show(if a<=m then _ else 0)=(0:Int);rw[zAy z00]
theorem Nb{f:Nat->Int}(h:a<=m):seg f a (m+1)=seg f a m+f m:=zAz h
theorem uh(ds:Nat->Int)(h0:ds 0=0)(hs:∀n,ds (n+1)=ds n+δ n m):∀i,(∀s,s<i->t s<=m)->val δ t (m+1) i=val δ t m i+ds i|0,_=>by rw[h0];rfl;|i+1,h=>by show val δ t (m+1) i+seg (δ i) (t i) (m+1)=(val δ t m i+seg (δ i) (t i) m)+ds (i+1);rw[uh ds h0 hs i λs hs=>h s z00,Nb (h i z00),hs];lia
theorem Nf(t:Nat->Nat)(m:Nat):∀n,Mono t n->∃i,i<=n/\(∀s,s<i->t s<=m)/\∀s,i<=s->s<n->m+1<=t s
 |0,_=>⟨0,zA3 _,λs h=>by lia,λs _ h=>by lia⟩|n+1,hm=>by
  by_cases h:t n<=m;.exact⟨n+1,zA3 _,λs hs=>Zaf (hm.le z00 z00) h,λs h1 h2=>by lia⟩
  .obtain⟨i,hi,h1,h2⟩:=Nf t m n λs hs=>hm s z00;refine⟨i,z00,h1,λs hs iN=>?_⟩;by_cases e:s=n;.rw[e];lia
   .exact h2 s hs z00
theorem Br:∀n,(∀s,s<n->t s=u s)->val δ t m n=val δ u m n|0,_=>rfl|n+1,h=>by show val δ t m n+seg (δ n) (t n) m=val δ u m n+seg (δ n) (u n) m;rw[Br n λs hs=>h s z00,h n z00]
theorem val_eq:∀m n,∃t,Mono t n/\(∀s,s<n->t s<=m)/\val (dlw cs ps ss) t m n=aO cs ps ss m n
 |0,n=>by
  refine⟨λ_=>0,λ_ _=>zA3 _,λ_ _=>zA3 _,?_⟩;have e:∀n,val (dlw cs ps ss) (λ_=>0) 0 n=0:=λn=>by induction n with|zero=>rfl;|succ n ih=>show val _ _ 0 n+0=0;rw[ih];rfl
  have e2:∀n,aO cs ps ss 0 n=0:=λn=>by induction n with|zero=>rfl;|succ n ih=>show aO cs ps ss 0 n+0=0;rw[ih];rfl
  rw[e,e2];|m+1,0=>⟨λ_=>0,λ_ _=>zA3 _,λs hs=>by lia,rfl⟩|m+1,n+1=>by
  rw[MT m n];by_cases h:aO cs ps ss (m+1) n<=aO cs ps ss m (n+1)+dS cs ps ss m (n+1);.obtain⟨t,t1,t2,t3⟩:=val_eq (cs:=cs) (ps:=ps) (ss:=ss) m (n+1);refine⟨t,t1,λs hs=>Nat.le_succ_of_le (t2 s hs),?_⟩;rw[uh (dS cs ps ss m) rfl (λ_=>rfl) (n+1) t2,t3];lia
  .obtain⟨t,t1,t2,t3⟩:=val_eq (cs:=cs) (ps:=ps) (ss:=ss) (m+1) n;refine⟨λs=>if s<n then t s else m+1,λs hs=>?_,λs hs=>?_,?_⟩
   .show(if s<n then t s else m+1)<=(if s+1<n then t (s+1)else m+1);by_cases h1:s+1<n;.rw[zAz h1,zAz z00];exact t1 s h1
    .rw[zAy h1,zAz z00];exact t2 s z00
   .show(if s<n then t s else m+1)<=m+1;split;.exact t2 s (by assumption)
    .exact zA3 _
   .show val _ _ (m+1) n+seg _ (if n<n then t n else m+1) (m+1)=_;rw[zAy (Zaj _),K4 (zA3 _),Br (u:=t) n λs hs=>zAz hs,t3];lia
theorem xX(f:Nat->Int)(a:Nat):∀m,(((List.range m).map f).drop a).sum=seg f a m
 |0=>by show(([]:WF).drop a).sum=0;rw[List.drop_nil];rfl;|m+1=>by
  rw[Za8,zA4];show(((List.range m).map f++[f m]).drop a).sum=if a<=m then seg f a m+f m else 0;by_cases h:a<=m;.rw[zAz h,List.drop_append_of_le_length (by rw[zA1,Zah];exact h),List.sum_append,xX f a m];show _+(f m+0)=_;rw[Int.add_zero]
  .rw[zAy h,List.drop_of_length_le (by rw[zA2,zA1,Zah];show m+1<=a;lia)];rfl
theorem Hy(h:k<=ns.length):(mY ns).getD k 0=(ns.drop k).sum:=by unfold mY;rw[zA7,zAb,Zat z00];rfl
theorem HF{f:Nat->Nat->Int}{Y s:Nat}{i:Int}(hs:s<3)(h1:i<=Y+1):tb ((List.range 3).map λs=>mY ((List.range (Y+1)).map (f s))) s i=seg (f s) i.toNat (Y+1):=by
 unfold tb;have e:((List.range 3).map λs=>mY ((List.range (Y+1)).map (f s))).getD s []=mY ((List.range (Y+1)).map (f s)):=by rw[zA7,zAb,Zat hs];rfl
 rw[e,Hy (by rw[zA1,Zah];lia),xX]
def cF(ps ss:UV)(s i:Nat):Int:=aY (cW ps ss (s:Int) (i:Int))
def wF(cs:UV)(s i:Nat):Int:=fl (cs.getD i []) s
theorem HJ{Y s:Nat}{i:Int}(hs:s<3)(h1:i<=Y+1):tb (qT ps ss Y 3) s i=seg (cF ps ss s) i.toNat (Y+1):=HF (f:=cF ps ss) hs h1
theorem HN{Y s:Nat}{i:Int}(hs:s<3)(h1:i<=Y+1):tb (qU cs Y 3) s i=seg (wF cs s) i.toNat (Y+1):=HF (f:=wF cs) hs h1
theorem Bs{f g:Nat->Int}:∀m,seg (λj=>f j-g j) a m=seg f a m-seg g a m|0=>rfl|m+1=>by have ih:=Bs (f:=f) (g:=g) (a:=a) m;show(if a<=m then seg (λj=>f j-g j) a m+(f m-g m)else 0)=(if a<=m then seg f a m+f m else 0)-(if a<=m then seg g a m+g m else 0);rw[ih];split<;>lia
def wS(cs:UV)(Y:Nat)(t:Nat->Nat):Int:=seg (wF cs 0) (t 0) (Y+1)+seg (wF cs 1) (t 1) (Y+1)+seg (wF cs 2) (t 2) (Y+1)
def cS(ps ss:UV)(Y:Nat)(t:Nat->Nat):Int:=seg (cF ps ss 0) (t 0) (Y+1)+seg (cF ps ss 1) (t 1) (Y+1)+seg (cF ps ss 2) (t 2) (Y+1)
theorem Ng:val (dlw cs ps ss) t (Y+1) 3=cS ps ss Y t-wS cs Y t:=by have e:∀s,seg (dlw cs ps ss s) (t s) (Y+1)=seg (cF ps ss s) (t s) (Y+1)-seg (wF cs s) (t s) (Y+1):=λs=>Bs (f:=cF ps ss s) (g:=wF cs s) (Y+1);show 0+seg (dlw cs ps ss 0) (t 0) (Y+1)+seg (dlw cs ps ss 1) (t 1) (Y+1)+seg (dlw cs ps ss 2) (t 2) (Y+1)=_;rw[e,e,e];unfold cS wS;lia
theorem HQ{tm:TM}{Fin:List V->St->Hp->Prop}(n:Nat)(Pv:Nat->List V->St->Hp->Prop)(h0:Pv 0 EH eC H0)(hz:∀i ys σ H,i<=n->Pv i ys σ H->ys.length<sizeLine)(step:∀i ys σ H,i<n->Pv i ys σ H->J.go i H/\∀x H',J.yld i H x H'->∀R:List V->St->Hp->Prop,(∀eI ay H4,Pv (i+1) eI ay H4->R eI ay H4)->g x σ H' λay H2=>tm ys ay H2 λeI ar H4=>R eI ar H4)(fin:∀ys σ H,Pv n ys σ H->J.stop n H/\Fin ys σ H):vQ J g vP tm Fin EH eC H0:=by
 refine⟨λi m ys σ H=>m=n-i/\i<=n/\Pv i ys σ H,⟨_,rfl,zAp _,h0⟩,?_⟩;rintro i m ys σ H⟨rfl,hi,p⟩;refine⟨hz i ys σ H hi p,?_⟩;by_cases aI:i<n;.obtain⟨go,st⟩:=step i ys σ H aI p;exact .inr ⟨go,λx H' y=>st x H' y _ λeI ay H4 p2=>⟨n-(i+1),z00,rfl,aI,p2⟩⟩
 .have e:i=n:=z00;subst e;exact .inl (fin ys σ H p)
def ppI(n i:Nat):WF:=[((i/(n*n):Nat):Int),((i/n%n:Nat):Int),((i%n:Nat):Int)]
theorem HR(hb:b<n)(hc:c<n):ppI n ((a*n+b)*n+c)=[(a:Int),(b:Int),(c:Int)]:=by
 have hn:0<n:=z00;have e1:((a*n+b)*n+c)/n=a*n+b:=by rw[Nat.add_comm,Nat.mul_comm,Nat.add_mul_div_left _ _ hn,Nat.div_eq_of_lt hc,Nat.zero_add]
 have e2:(a*n+b)%n=b:=by rw[Nat.add_comm,Nat.add_mul_mod_self_right,Nat.mod_eq_of_lt hb]
 have e3:(a*n+b)/n=a:=by rw[Nat.add_comm,Nat.mul_comm,Nat.add_mul_div_left _ _ hn,Nat.div_eq_of_lt hb,Nat.zero_add]
 have e4:((a*n+b)*n+c)%n=c:=by rw[Nat.add_comm,Nat.add_mul_mod_self_right,Nat.mod_eq_of_lt hc]
 unfold ppI;rw[<-Nat.div_div_eq_div_mul,e1,e3,e2,e4]
def Q4(n j:Nat)(as:Qa9)(H:Hp):Prop:=as.length=j/\∀i a,as[i]?=some a->H a=some (.tup ((ppI n i).map V.int))
inductive SpPapersI(vs:List V)(H:Hp)(Q:VK):Prop|mk:∀y:Nat,(vs=[.int y])->(y<=98)->(∀L as H',Same H H'->H' L=some (.lst (as.map V.ref))->Q4 (y+2) ((y+2)*(y+2)*(y+2)) as H'->Q (.ref L) H')->SpPapersI  vs H Q
def xY:Sp:=λvs H Q _=>SpPapersI  vs H Q
theorem Nh:(["best","middle","least","year"]:Qa7).Nodup:=by decide+kernel
theorem R0:FnScope ["year"] ["year"] (aC (top 78)):=fQS
theorem Dt(F:Fun K "papers_for" "papers_for" (top 78) f fd)(Tr:mg "range"=none):FnOk P w K mg base CX0 1 f fd ["year"] xY:=by
 refine F.oq R0 λaf A outer s H vs Q E hr h=>?_;obtain⟨y,rfl,hy,q⟩:=h;refine⟨_,aF (aN (FJ ["best","middle","least","year"] [none,none,none,some 0] rfl (bK rfl Tr (aq (aV bI (pv 0) aB) aj)) (λit D env=>zH rfl rfl) (λC fp z06 s₂ H₂=>⟨pgn 0 Nh,bB,λD ap=>Eb rfl rfl ap rfl (λit=>zH rfl rfl) (bK rfl Tr (aq (aV bI (pv 3) aB) aj)) (pgn 1 Nh) bB (Eb rfl rfl ap rfl (λit=>nF rfl rfl) (bK rfl Tr (aq (aV bI (pv 3) aB) aj)) (pgn 2 Nh) bB (yt ap rfl (cJ (aq (pv 0) (aq (pv 1) (aq (pv 2) aj))))))⟩) (λC=>cI trivial) ⟨rfl,rfl,rfl,rfl⟩)),?_⟩;refine gQ ?_;have hn:((y:Int)+2).toNat=y+2:=z00;have big:(y+2)*(y+2)*(y+2)<=1000000:=Zaf (Nat.mul_le_mul (Nat.mul_le_mul (show y+2<=100 by lia) (show y+2<=100 by lia)) (show y+2<=100 by lia)) z02;generalize hN:y+2=n at q hn big;have LG:((y:Int)+2).toNat=n:=z00;let Pv:Nat->List V->Hp->Prop:=λj ys Hc=>Same H Hc/\∃as,ys=as.map V.ref/\Q4 n j as Hc;have hz:∀j ys Hc,j<=n*n*n->Pv j ys Hc->ys.length<sizeLine:=λj ys Hc hj p=>by obtain⟨_,as,rfl,hl,_⟩:=p;rw[zA1,hl,sizeLine_eq];lia
 have Vx:∀{a b c:Nat},a<n->b<n->c<=n->(a*n+b)*n+c<=n*n*n:=λ{a b c}ha hb hc=>by
  have h1:a*n+b+1<=n*n:=by have:=Zar n (show a+1<=n from ha);rw[Nat.add_mul,Nat.one_mul]at this;lia
  have h2:=Zar n h1;rw[Nat.add_mul,Nat.one_mul]at h2;lia
 refine⟨_,rfl,_,_,rfl,rfl,(y:Int)+2,rfl,z00,z00,?_⟩;rw[LG];refine HQ n (λa ys σ Hc=>(∃o1 o2 o3,σ=[o1,o2,o3,some (.int y)])/\Pv (a*n*n) ys Hc) ⟨⟨_,_,_,rfl⟩,Same.refl H,[],rfl,by rw[Nat.zero_mul,Nat.zero_mul];rfl,λi a e=>by simp at e⟩ (λa ys σ Hc ha p=>hz _ _ _ (Zar n (Zar n ha)) p.2) ?_ ?_
 .rintro a ys σ Hc ha⟨⟨o1,o2,o3,rfl⟩,p⟩;refine⟨ha,λv H' y' R hR=>?_⟩;obtain⟨eH,rfl⟩:=y';subst H';refine aK ?_;refine⟨_,rfl,_,_,rfl,rfl,(y:Int)+2,rfl,z00,z00,?_⟩;rw[LG];refine HQ n (λb ys σ Hc=>(∃o2 o3,σ=[some (.int (0+(a:Int))),o2,o3,some (.int y)])/\Pv ((a*n+b)*n) ys Hc) ⟨⟨_,_,rfl⟩,p⟩ (λb ys σ Hc hb p=>hz _ _ _ ?_ p.2) ?_ ?_;.have h1:=Zar n (show a+1<=n from ha);rw[Nat.add_mul,Nat.one_mul]at h1;exact Zar n z00
  .rintro b ys σ Hc hb⟨⟨o2,o3,rfl⟩,p⟩;refine⟨hb,λv H' y' R hR=>?_⟩;obtain⟨eH,rfl⟩:=y';subst H';refine aK ?_;refine⟨_,rfl,_,_,rfl,rfl,(y:Int)+2,rfl,z00,z00,?_⟩;rw[LG];refine HQ n (λc ys σ Hc=>(∃o3,σ=[some (.int (0+(a:Int))),some (.int (0+(b:Int))),o3,some (.int y)])/\Pv ((a*n+b)*n+c) ys Hc) ⟨⟨_,rfl⟩,p⟩ (λc ys σ Hc hc p=>hz _ _ _ (Vx ha hb hc) p.2) ?_ ?_
   .rintro c ys σ Hc hc⟨⟨o3,rfl⟩,s1,as,rfl,l1,g1⟩;refine⟨hc,λv H' y' R hR=>?_⟩;obtain⟨eH,rfl⟩:=y';subst H';refine aK ?_;refine⟨_,rfl,_,rfl,_,rfl,by simp[sizeLine_eq],λt ht=>hR _ _ _ ⟨⟨_,rfl⟩,s1.updR ht,as++[t],by rw[zA4];rfl,?_⟩⟩;refine⟨by rw[zA2,l1];rfl,λi z e=>?_⟩;rcases Nat.lt_or_ge i as.length with hi|hi;.rw[zBb hi]at e;have:=g1 i z e;rw[aD (aH this ht)];exact this
    .rw[zBc hi]at e;have Vy:i=as.length:=by have:=zAa.mp e;obtain⟨h1,_⟩:=this;simp at h1;lia
     subst Vy;rw[Nat.sub_self]at e;cases e;rw[ao,l1,HR hb hc];simp only[Int.zero_add];rfl
   .rintro ys σ Hc⟨⟨o3,rfl⟩,p⟩;refine⟨zA3 _,hR _ _ _ ⟨⟨_,_,rfl⟩,?_⟩⟩;rw[show(a*n+(b+1))*n=(a*n+b)*n+n by rw[<-Nat.add_assoc,Nat.add_mul _ 1,Nat.one_mul]];exact p
  .rintro ys σ Hc⟨⟨o2,o3,rfl⟩,p⟩;refine⟨zA3 _,hR _ _ _ ⟨⟨_,_,_,rfl⟩,?_⟩⟩;rw[show(a+1)*n=a*n+n by rw[Nat.add_mul,Nat.one_mul]];exact p
 .rintro ys σ Hc⟨_,s1,as,rfl,p⟩;refine⟨zA3 _,λD hD=>q D as _ (s1.updR hD) ao ⟨p.1,λi a e=>?_⟩⟩;have:=p.2 i a e;rw[aD (aH this hD)];exact this
theorem BookAt.bko(b:BookAt H bk ac xc cs ap xp ps ai xs ss):BkO cs ps ss:=⟨b.okc,b.lp,b.un,b.h5,b.okp⟩
theorem Q5(B:BkO cs ps ss)(Y:Nat):∃a b c,a<=Y+1/\b<=Y+1/\c<=Y+1/\qW cs ps ss Y [(a:Int),(b:Int),(c:Int)]=aO cs ps ss (Y+1) 3:=by obtain⟨t,t1,t2,t3⟩:=val_eq (cs:=cs) (ps:=ps) (ss:=ss) (Y+1) 3;rw[Ng]at t3;have h0:=t2 0 z02;have h1:=t2 1 z02;have h2:=t2 2 z02;have m1:t 0<=t 1:=t1 0 z02;have m2:t 1<=t 2:=t1 1 z02;refine⟨t 0,t 1,t 2,h0,h1,h2,?_⟩;have e2:mnL [((t 2:Nat):Int)]=(t 2:Nat):=rfl;have e1:mnL [((t 1:Nat):Int),((t 2:Nat):Int)]=(t 1:Nat):=zAz (by rw[e2];lia);have e0:mnL [((t 0:Nat):Int),((t 1:Nat):Int),((t 2:Nat):Int)]=(t 0:Nat):=zAz (by rw[e1];lia);show(tb (qT ps ss Y 3) 0 (t 0:Nat)+(tb (qT ps ss Y 3) 1 (t 1:Nat)+(tb (qT ps ss Y 3) 2 (t 2:Nat)+0)))-(tb (qU cs Y 3) 0 (mnL [((t 0:Nat):Int),((t 1:Nat):Int),((t 2:Nat):Int)])+(tb (qU cs Y 3) 1 (mnL [((t 1:Nat):Int),((t 2:Nat):Int)])+(tb (qU cs Y 3) 2 (mnL [((t 2:Nat):Int)])+0)))=_;rw[e0,e1,e2,HJ z02 z00,HJ z02 z00,HJ z02 z00,HN z02 z00,HN z02 z00,HN z02 z00];unfold cS wS at t3;simp only[Int.toNat_natCast];lia
theorem KH{n i:Nat}(hi:i<(n+2)*(n+2)*(n+2)):Hu n (ppI (n+2) i):=by
 refine⟨rfl,λx hx=>?_⟩;have h1:i/((n+2)*(n+2))<n+2:=Nat.div_lt_of_lt_mul hi;have h2:i/(n+2)%(n+2)<n+2:=Nat.mod_lt _ z00;have h3:i%(n+2)<n+2:=Nat.mod_lt _ z00;unfold ppI at hx;rcases zAo.mp hx with z|z;.rw[z];exact⟨Zbi _,z00⟩
 rcases zAo.mp z with z|z;.rw[z];exact⟨Zbi _,z00⟩
 .rw[Zad.mp z];exact⟨Zbi _,z00⟩
theorem Q6{m a b c:Nat}(ha:a<m)(hb:b<m)(hc:c<m):(a*m+b)*m+c<m*m*m:=by
 have h1:a*m+b+1<=m*m:=by have:=Zar m (show a+1<=m from ha);rw[Nat.add_mul,Nat.one_mul]at this;lia
 have h2:=Zar m h1;rw[Nat.add_mul,Nat.one_mul]at h2;lia
def Ni:UV->UV->UV->Int->VK->Hp->Prop:=λcs ps ss y Q H=>∀t p H',Same H H'->H' t=some (.tup (p.map V.int))->Hu y p->qW cs ps ss y.toNat p=aO cs ps ss (y.toNat+1) 3->Q (.ref t) H'
abbrev Q7:Sp:=jV Ni
theorem R1:(["paper","lack","claimed","wool"]:Qa7).Nodup:=by decide+kernel
theorem scPG:FnScope ["book","year","lack","claimed","wool"] ["book","year"] (aC (top 81)):=fQS
theorem Nj(F:Fun K "paper_of" "paper_of" (top 81) f fd)(c1:Cal P w K mg base 12 "lack_by" ["book","year"] (jV GP))(c3:Cal P w K mg base 3 "claimed_since" ["book","year"] (qP N6))(c4:Cal P w K mg base 2 "wool_since" ["book","year"] (qP N7))(c5:Cal P w K mg base 1 "shown" ["claimed","wool","paper"] Bq)(c6:Cal P w K mg base 1 "papers_for" ["year"] xY):FnOk P w K mg base CX0 13 f fd ["book","year"] Q7:=by
 refine F.oq scPG λaf A outer s H vs Q E hr h=>?_;obtain⟨S,bk,y,d,ac,xc,cs,ap,xp,ps,ai,xs,ss,rfl,th,hz,hb,B,y0,y1,q⟩:=h;refine⟨_,aA (jo (i:=2) scPG.nd rfl (Or.inr rfl) (aJ c1 hr (aq (pv 0) (aq (pv 1) aj)))) (aA (jo (i:=3) scPG.nd rfl (Or.inr rfl) (aJ c3 hr (aq (pv 0) (aq (pv 1) aj)))) (aA (jo (i:=4) scPG.nd rfl (Or.inr rfl) (aJ c4 hr (aq (pv 0) (aq (pv 1) aj)))) (aF (aN (pX (gU (K:=K) rfl) (bN ["paper","lack","claimed","wool"] [none,some 2,some 3,some 4] rfl (K24P.pi_listK (K:=K) rfl (aJ c6 hr (aq (pv 1) aj))) (λC fp z06 s₂ H₂=>⟨pgn 0 R1,lJ (bz iJ (aJ c5 hr (aq (pv 2) (aq (pv 3) (aq (pv 0) aj)))) (pv 1) (bu _)),pv 0⟩) (λC=>cI (cI (cI trivial))) ⟨rfl,rfl,rfl,rfl⟩) aB))))),?_⟩;refine aG (aU ?_);refine⟨_,rfl,_,rfl,S,bk,y,d,ac,xc,cs,ap,xp,ps,ai,xs,ss,rfl,th,hz,hb,B,y0,y1,λH1 s1=>?_⟩;refine aK (cB ?_);dsimp only;refine aG (aU ?_);refine⟨_,rfl,_,rfl,bk,y,ac,xc,cs,ap,xp,ps,ai,xs,ss,rfl,B.same s1,y0,y1,λL1 a1 H2 s2 tC=>?_⟩;refine aK (cB ?_);dsimp only;refine aG (aU ?_);refine⟨_,rfl,_,rfl,bk,y,ac,xc,cs,ap,xp,ps,ai,xs,ss,rfl,(B.same s1).same s2,y0,y1,λL2 a2 H3 s3 tW=>?_⟩;refine aK (cB ?_);dsimp only;refine gQ ?_;obtain⟨n,rfl⟩:∃n:Nat,y=n:=⟨y.toNat,z00⟩;have lc:=B.lc;refine⟨_,rfl,n,rfl,z00,λL as H4 s4 eL pp=>⟨L,rfl,⟨_,SqL.of eL⟩,?_⟩⟩;have big:(n+2)*(n+2)*(n+2)<=1000000:=Zaf (Nat.mul_le_mul (Nat.mul_le_mul (show n+2<=100 by lia) (show n+2<=100 by lia)) (show n+2<=100 by lia)) z02;unfold Ni at q;rw[zAi]at tC tW q⊢;generalize w9:aO cs ps ss (n+1) 3=lk at q⊢;refine jH ((n+2)*(n+2)*(n+2)) (λi ys σ Hc=>Same H4 Hc/\(∃o1,σ=[o1,some (.int lk),some (.ref L1),some (.ref L2)])/\(∀v∈ys,∃j a,v=V.ref a/\as[j]?=some a/\j<(n+2)*(n+2)*(n+2)/\qW cs ps ss n (ppI (n+2) j)=lk)/\∀j,j<i->qW cs ps ss n (ppI (n+2) j)=lk->ys≠[]) ⟨Same.refl _,⟨_,rfl⟩,λv hv=>absurd hv z01,λj hj=>absurd hj z00⟩ z05 ?_ ?_
 .rintro i ys σ Hc hi hy⟨s5,⟨o1,rfl⟩,g1,g2⟩;have FD:i<as.length:=by rw[pp.1];exact hi
  have P5:=s5 _ _ eL;refine⟨⟨_,.ref as[i],SqL.of P5,by rw[zAb,zA0 FD];rfl⟩,λx H' y' R hR=>?_⟩;obtain⟨eH,hx⟩:=y';subst H';have hx:=hx _ (SqL.of P5);rw[zAb,zA0 FD]at hx;cases hx;refine aK ?_;have ea:=s5 _ _ (pp.2 i as[i] (zA0 FD));have P6:=s4.trans s5;refine⟨_,rfl,_,rfl,_,rfl,L1,a1,_,L2,a2,_,as[i],_,n,rfl,tC.same (s3.trans P6),tW.same P6,by unfold qT;rw[zA1,Zah],by unfold qU;rw[zA1,Zah],λr hr=>?_,λr hr=>?_,ea,?_,λH6 s6=>⟨_,rfl,rfl,_,rfl,?_⟩⟩;.obtain⟨k,_,rfl⟩:=zA5.mp hr;rw[xW];unfold clT;rw[zA1,Zah];lia
  .obtain⟨k,_,rfl⟩:=zA5.mp hr;rw[xW];unfold wlT;rw[zA1,Zah];lia
  .exact KH hi
  .dsimp only;by_cases e:qW cs ps ss n (ppI (n+2) i)=lk
   .rw[zAz (by rw[pB];exact beq_iff_eq.mpr e)];refine⟨_,rfl,hR _ _ _ (by rw[zA2];exact Nat.succ_le_succ hy) ⟨s5.trans s6,⟨_,rfl⟩,λv hv=>?_,λj hj ej=>by simp⟩⟩;rcases zA6.mp hv with z|z;.exact g1 v z
    .rw[Zad.mp z];exact⟨i,as[i],rfl,zA0 FD,hi,e⟩
   .rw[zAy (by rw[pB];exact λz=>e (beq_iff_eq.mp z))];refine hR _ _ _ z00 ⟨s5.trans s6,⟨_,rfl⟩,g1,λj hj ej=>?_⟩;rcases Nat.lt_or_ge j i with z|z;.exact g2 j z ej
    .have:j=i:=z00;subst this;exact absurd ej e
 .rintro ys σ Hc hy⟨s5,_,g1,g2⟩;refine⟨⟨_,SqL.of (s5 _ _ eL),by rw[zA1,pp.1];exact zA3 _⟩,λD hD=>?_⟩;obtain⟨a,b,c,ha,hb,hc,e⟩:=Q5 B.bko n;rw[w9]at e;have fy:=g2 ((a*(n+2)+b)*(n+2)+c) (Q6 z00 z00 z00) (by rw[HR z00 z00];exact e);cases ys with|nil=>exact absurd rfl fy;|cons v r=>obtain⟨j,t,rfl,ej,hj,eq⟩:=g1 v (.head _);have s6:=s5.updR (o:=.lst (V.ref t::r)) hD;exact⟨D,_,_,_,rfl,rfl,SqL.of ao,d7 (j:=0) rfl,q t _ _ ((((s1.trans s2).trans s3).trans s4).trans s6) (s6 _ _ (pp.2 j t ej)) (KH hj) eq⟩
def Q8(Cs:Nat->Addr):Sp:=λvs H Q E=>∃S v d vy y,vs=[v,vy,.non]/\IsTh S H v d/\sz d<=4000/\IsTh S H vy y/\sz y<=4000/\Dm Cs (j4 d y) anyR H Q E
section
theorem Du(F:Fun K "gifts_in" "gifts_in" (top 63) f fd)(c1:iZ P w K mg base 8 "refuse_no_year" ["book","year"] (jJ Cs qR)):FnOk P w K mg base (CX1 P w) 11 f fd ["book","year"] (oW Cs):=by refine F.oqX scYD2 λaf A outer s H vs Q E hr h=>?_;obtain⟨S,v,d,vy,y,j,rfl,th,hz,ty,zy,kj,q1⟩:=h;exact⟨_,aA (bf (cQ (E:=E) c1 hr z02 rfl eU rfl (aq (pv 0) (aq (pv 1) aj)))) dM,aG ⟨_,rfl,_,rfl,S,v,d,vy,y,rfl,th,hz,ty,zy,λj' hj a H' s' ha=>by rw[kj]at hj;cases hj;exact q1 a H' s' ha,λkn=>by rw[kj]at kn;cases kn⟩⟩
theorem HS(F:Fun K "left_in" "left_in" (top 64) f fd)(c1:iZ P w K mg base 8 "refuse_no_year" ["book","year"] (jJ Cs qR)):FnOk P w K mg base (CX1 P w) 11 f fd ["book","year"] (oW Cs):=by refine F.oqX scYE λaf A outer s H vs Q E hr h=>?_;obtain⟨S,v,d,vy,y,j,rfl,th,hz,ty,zy,kj,q1⟩:=h;exact⟨_,aA (bf (cQ (E:=E) c1 hr z02 rfl eU rfl (aq (pv 0) (aq (pv 1) aj)))) dM,aG ⟨_,rfl,_,rfl,S,v,d,vy,y,rfl,th,hz,ty,zy,λj' hj a H' s' ha=>by rw[kj]at hj;cases hj;exact q1 a H' s' ha,λkn=>by rw[kj]at kn;cases kn⟩⟩
theorem HW(F:Fun K "lack_by" "lack_by" (top 79) f fd)(c1:iZ P w K mg base 8 "refuse_no_year" ["book","year"] (jJ Cs qR)):FnOk P w K mg base (CX1 P w) 12 f fd ["book","year"] (oW Cs):=by refine F.oqX PK λaf A outer s H vs Q E hr h=>?_;obtain⟨S,v,d,vy,y,j,rfl,th,hz,ty,zy,kj,q1⟩:=h;exact⟨_,aA (bf (cQ (E:=E) c1 hr z02 rfl eU rfl (aq (pv 0) (aq (pv 1) aj)))) dM,aG ⟨_,rfl,_,rfl,S,v,d,vy,y,rfl,th,hz,ty,zy,λj' hj a H' s' ha=>by rw[kj]at hj;cases hj;exact q1 a H' s' ha,λkn=>by rw[kj]at kn;cases kn⟩⟩
theorem K6(F:Fun K "paper_of" "paper_of" (top 81) f fd)(c1:iZ P w K mg base 12 "lack_by" ["book","year"] (jJ Cs anyR)):FnOk P w K mg base (CX1 P w) 13 f fd ["book","year"] (oW Cs):=by refine F.oqX scPG λaf A outer s H vs Q E hr h=>?_;obtain⟨S,v,d,vy,y,j,rfl,th,hz,ty,zy,kj,q1⟩:=h;exact⟨_,aA (jo (i:=2) scPG.nd rfl (Or.inr rfl) (cQ (E:=E) c1 hr z02 rfl eU rfl (aq (pv 0) (aq (pv 1) aj)))) dM,aG (aU ⟨_,rfl,_,rfl,S,v,d,vy,y,rfl,th,hz,ty,zy,λj' hj a H' s' ha=>by rw[kj]at hj;cases hj;exact q1 a H' s' ha,λkn=>by rw[kj]at kn;cases kn⟩)⟩
theorem K7(F:Fun K "is_paper_for" "is_paper_for" (top 77) f fd)(N:Nums mg)(c1:Cal P w K mg base 2 "are_wholes" ["thing","many"] (FT bT)):FnOk P w K mg base CX0 3 f fd ["year","thing"] (λvs H Q _=>∃vy,vs=[vy,.non]/\∀H',Same H H'->Q (.bl false) H'):=by refine F.oq QZ λaf A outer s H vs Q E hr h=>?_;obtain⟨vy,rfl,q⟩:=h;obtain⟨t1,e1⟩:=N.sorts;exact⟨_,aF (aN (cC (aJ c1 hr (aq (pv 1) (aq (bM (v:=.int 3) rfl e1 ⟨_,rfl⟩) aj))) (dW xN))),⟨_,rfl,(λ_=>False),.non,.none,3,rfl,.non,z02,λH1 s1=>⟨_,rfl,bx (q H1 s1)⟩⟩⟩
theorem R4:FnScope ["book","year","thing"] ["book","year","thing"] (aC (top 80)):=fQS
theorem K8(F:Fun K "is_paper" "is_paper" (top 80) f fd)(c1:iZ P w K mg base 8 "refuse_no_year" ["book","year"] (jJ Cs qR))(c2:Cal P w K mg base 3 "is_paper_for" ["year","thing"] (λvs H Q _=>∃vy,vs=[vy,.non]/\∀H',Same H H'->Q (.bl false) H')):FnOk P w K mg base (CX1 P w) 9 f fd ["book","year","thing"] (Q8 Cs):=by refine F.oqX R4 λaf A outer s H vs Q E hr h=>?_;obtain⟨S,v,d,vy,y,rfl,th,hz,ty,zy,q1,q2⟩:=h;exact⟨_,aA (bf (cQ (E:=E) c1 hr z02 rfl eU rfl (aq (pv 0) (aq (pv 1) aj)))) (aF (aN (aJ c2 hr (aq (pv 1) (aq (pv 2) aj))))),aG ⟨_,rfl,_,rfl,S,v,d,vy,y,rfl,th,hz,ty,zy,q1,λkn H1 s1=>cB ⟨_,rfl,_,rfl,vy,rfl,λH2 s2=>q2 kn _ H2 (s1.trans s2)⟩⟩⟩
end
def jj(d:PyData):Bool:=cu d&&(decide ((items d).length=5)&&(items d).all bA)
def iu(d:PyData):Bool:=cu d&&(decide ((items d).length<=12)&&(items d).all jj)
def qX(d:PyData):Bool:=cu d&&(decide ((items d).length=3)&&(ie (part d 0)&&(ig (part d 1)&&(iu (part d 2)&&(un (rowsOf (part d 1)) (rowsOf (part d 2))).isNone))))
theorem K9(d:PyData):bT d 5=jj d:=by unfold bT bZ jj;rw[Bool.and_assoc];congr 2;rw[Zaw,zAc,z17,z17,z17];lia
theorem xZ(d:PyData):fX d=iu d:=by unfold fX bZ iu;rw[Bool.and_assoc];congr 1;have e:(items d).all (λx=>bT x 5)=(items d).all jj:=congrArg (items d).all (funext K9);rw[e];congr 1;rw[Zaw,zAc,z17,z17,z17];lia
theorem Ka(d:PyData):gw d=qX d:=by unfold gw bZ qX;rw[FW,xn,xZ,Bool.and_assoc];congr 2;rw[Zaw,zAc,z17,z17,z17];lia
theorem Q9:FnScope [AAb] [AAb] (aC (top 103)):=fQS
theorem yc(F:Fun K "_law_is_sale" "_law_is_sale" (top 103) f fd)(T:Mg mg)(c1:Cal P w K mg base 1 AAy [AAb] (spT bA)):FnOk P w K mg base CX0 2 f fd [AAb] (spT jj):=by
 refine F.oq Q9 λaf A outer s H vs Q E hr h=>?_;obtain⟨S,v,d,rfl,th,hz,q⟩:=h;refine⟨_,aF (aN (cC (aM bJ rfl T.isinstance boot_isinstance (aq (pv 0) (aq (dB rfl T.tuple boot_tuple (v:=.ty "tuple") rfl) aj))) (cC (fY iJ (aM aW rfl T.len PySem.boot_len (aq (pv 0) aj)) aB (bu _)) (dW (aM (dh rfl) rfl T.all boot_all (aq (bN [AAo] [none] rfl (fJ (pv 0)) (λC fp z06 s₂ H₂=>⟨bC (i:=0) (nd1 _) rfl (Or.inl rfl),bB,aJ c1 hr (aq (pv 0) aj)⟩) (λC=>trivial) ⟨rfl,rfl,rfl,rfl⟩) aj)))))),?_⟩;have fin:=λH'(s:Same H H')=>q H' s;unfold jj at fin;refine⟨_,rfl,v,_,"tuple",cu d,rfl,th.ty,fZ d,_,rfl,?_⟩
 cases e:cu d with|false=>rw[e]at fin;exact bx (fin H (Same.refl H));|true=>rw[e]at fin;refine bw ?_;cases th with|@tup a xs ds ea r=>
   have hl:=r.length;refine⟨_,rfl,a,xs,rfl,.inr (SqT.of ea),rfl,_,rfl,?_⟩;have fin:∀H',Same H H'->Q (.bl (true&&(decide (ds.length=5)&&ds.all bA))) H':=fin;by_cases e3:ds.length=5;.rw[zAw e3]at fin;rw[zAw (show V.int (xs.length:Int)=V.int 5 by rw[hl,e3]<;>rfl)];refine bw ?_;exact cD bA rfl ea r (dq r hz) (λv d H2 Q2 hm s2 t2 q2=>⟨_,rfl,S,v,d,rfl,t2,fQ hm hz,q2⟩) fin
   .rw[zB6 e3]at fin;rw[zB6 (λz:V.int (xs.length:Int)=V.int 5=>e3 (by injection z with z;lia))];exact bx (fin H (Same.refl H));|_=>cases e
theorem Qa:FnScope [AAb] [AAb] (aC (top 104)):=fQS
theorem sE(F:Fun K ABd ABd (top 104) f fd)(T:Mg mg)(c1:Cal P w K mg base 2 "_law_is_sale" [AAb] (spT jj)):FnOk P w K mg base CX0 3 f fd [AAb] (spT iu):=by refine F.oq Qa λaf A outer s H vs Q E hr h=>?_;obtain⟨S,v,d,rfl,th,hz,q⟩:=h;refine⟨_,aA (bV (PW.pt (gG (bH (bY (aM bJ rfl T.isinstance boot_isinstance (aq (pv 0) (aq (dB rfl T.tuple boot_tuple (v:=.ty "tuple") rfl) aj))))) (gC (bz oE (aM aW rfl T.len PySem.boot_len (aq (pv 0) aj)) aB (bu _))))) (aF (aN gj)) bh) (aF (aN (aM (dh rfl) rfl T.all boot_all (aq (bN [AAo] [none] rfl (fJ (pv 0)) (λC fp z06 s₂ H₂=>⟨bC (i:=0) (nd1 _) rfl (Or.inl rfl),bB,aJ c1 hr (aq (pv 0) aj)⟩) (λC=>trivial) ⟨rfl,rfl,rfl,rfl⟩) aj)))),?_⟩;have fin:=λH'(s:Same H H')=>q H' s;unfold iu at fin;refine⟨_,rfl,v,_,"tuple",cu d,rfl,th.ty,fZ d,_,rfl,?_⟩;cases e:cu d with
 |false=>rw[e]at fin;exact bw (bw (fin H (Same.refl H)))
 |true=>rw[e]at fin;refine bx ?_;cases th with|@tup a xs ds ea r=>
   have hl:=r.length;refine⟨_,rfl,a,xs,rfl,.inr (SqT.of ea),_,_,rfl,rfl,_,rfl,?_⟩;have fin:∀H',Same H H'->Q (.bl (true&&(decide (ds.length<=12)&&ds.all jj))) H':=fin;by_cases e3:ds.length<=12;.rw[zAw e3]at fin;rw[zB6 z00];refine bx ?_;exact cD jj rfl ea r (dq r hz) (λv d H2 Q2 hm s2 t2 q2=>⟨_,rfl,S,v,d,rfl,t2,fQ hm hz,q2⟩) fin
   .rw[zB6 e3]at fin;rw[zAw z00];exact bw (fin H (Same.refl H));|_=>cases e
theorem Qd:FnScope [AAb] [AAb] (aC (top 105)):=fQS
theorem yd(F:Fun K "_law_is_book" "_law_is_book" (top 105) f fd)(T:Mg mg)(c1:Cal P w K mg base 4 ABc [AAb] (spT ie))(c2:Cal P w K mg base 4 AAx [AAb] (spT ig))(c3:Cal P w K mg base 3 ABd [AAb] (spT iu))(c4:Cal P w K mg base 2 "_law_sold" [AAc,AAe] za):FnOk P w K mg base CX0 5 f fd [AAb] (spT qX):=by
 refine F.oq Qd λaf A outer s H vs Q E hr h=>?_;obtain⟨S,v,d,rfl,th,hz,q⟩:=h;refine⟨_,aA (bV (PW.pt (gG (bH (bY (aM bJ rfl T.isinstance boot_isinstance (aq (pv 0) (aq (dB rfl T.tuple boot_tuple (v:=.ty "tuple") rfl) aj))))) (gG (bz sI (aM aW rfl T.len PySem.boot_len (aq (pv 0) aj)) aB (bu _)) (gC (bH (bY (aJ c1 hr (aq (pX bQ (pv 0) aB) aj)))))))) (aF (aN gj)) bh) (aA (bV (PW.pt (gG (bH (bY (aJ c2 hr (aq (pX bQ (pv 0) aB) aj)))) (gC (bH (bY (aJ c3 hr (aq (pX bQ (pv 0) aB) aj))))))) (aF (aN gj)) bh) (aF (aN (fY ur (pX bQ (aJ c4 hr (aq (pX bQ (pv 0) aB) (aq (pX bQ (pv 0) aB) aj))) aB) iw (bu _))))),?_⟩;have fin:=q;unfold qX at fin;refine aG ?_;refine⟨_,rfl,v,_,"tuple",cu d,rfl,th.ty,fZ d,_,rfl,?_⟩
 cases e:cu d with|false=>rw[e]at fin;exact bw (bw (fin H (Same.refl H)));|true=>rw[e]at fin;refine bx ?_;cases th with|@tup a xs ds ea r=>
   have hl:=r.length;refine⟨_,rfl,a,xs,rfl,.inr (SqT.of ea),rfl,_,rfl,?_⟩;by_cases e3:ds.length=3;.refine DY (by rw[hl,e3]<;>rfl) ?_;obtain⟨v0,v1,v2,d0,d1,d2,rfl,rfl,h0,h1,h2⟩:=nR r e3;have z0:=fQ (d:=d0) z01 hz;have z1:=fQ (d:=d1) z01 hz;have z2:=fQ (d:=d2) z01 hz;have fin:∀H',Same H H'->Q (.bl (ie d0&&(ig d1&&(iu d2&&(un (rowsOf d1) (rowsOf d2)).isNone)))) H':=fin;refine⟨_,rfl,a,_,0,_,rfl,rfl,SqT.of ea,rfl,S,_,d0,rfl,h0,z0,λH2 s2=>⟨_,rfl,?_⟩⟩;cases e0:ie d0 with|false=>rw[e0]at fin;exact bw (fin _ s2);|true=>rw[e0]at fin;refine bx (cB ?_);dsimp only;refine aG ?_;refine⟨_,rfl,a,_,1,_,rfl,rfl,SqT.of (s2 _ _ ea),rfl,S,_,d1,rfl,h1.same s2,z1,λH3 s3=>⟨_,rfl,?_⟩⟩;cases e1:ig d1 with|false=>rw[e1]at fin;exact bw (bw (fin _ (s2.trans s3)));|true=>rw[e1]at fin;refine bx ?_;have si:=s2.trans s3;refine⟨_,rfl,a,_,2,_,rfl,rfl,SqT.of (si _ _ ea),rfl,S,_,d2,rfl,h2.same si,z2,λH4 s4=>⟨_,rfl,?_⟩⟩;cases e2:iu d2 with|false=>rw[e2]at fin;exact bw (fin _ (si.trans s4));|true=>rw[e2]at fin;refine bx (cB ?_);dsimp only;have pd:=si.trans s4;rw[<-xn]at e1;rw[<-xZ]at e2;obtain⟨ep,lp,okp⟩:=kZ e1;obtain⟨es,ls,cx⟩:=lq e2;have fA:=h1.same pd;have pb:=h2.same pd;rw[ep]at fA;rw[es]at pb;obtain⟨ap,xp,rfl,rp⟩:=ik fA;obtain⟨ai,GY,rfl,rs⟩:=ik pb;refine⟨_,rfl,a,_,1,_,rfl,rfl,SqT.of (pd _ _ ea),rfl,_,rfl,a,_,2,_,rfl,rfl,SqT.of (pd _ _ ea),rfl,?_⟩;refine⟨ap,xp,_,ai,GY,_,rfl,rp,lp,okp,rs,z00,cx,λt fo H5 s5 et=>?_⟩;refine⟨t,_,1,unV (un (rowsOf d1) (rowsOf d2)),rfl,rfl,SqT.of et,rfl,rfl,?_⟩;have:=fin H5 (pd.trans s5);cases eu:un (rowsOf d1) (rowsOf d2)with|none=>rw[eu]at this;exact this;|some i=>rw[eu]at this;exact this
   .have ne:¬(V.int (xs.length:Int)=V.int 3):=λz=>by injection z with z;lia
    rw[zB6 ne];have fin:∀H',Same H H'->Q (.bl (true&&(decide (ds.length=3)&&_))) H':=fin;rw[zB6 e3]at fin;exact bw (bw (fin H (Same.refl H)));|_=>cases e
def FoundAt(o:Option Nat)(H:Hp)(v:V):Prop:=match o with|some j=>∃p,v=.ref p/\H p=some (.tup [.str (words.getD j "")])|none=>∃p x,v=.ref p/\H p=some (.lst [x])
theorem FoundAt.keep(h:FoundAt o H v)(k:∀b xs,H b=some (.tup xs)->H' b=some (.tup xs))(kl:∀b xs,H b=some (.lst xs)->H' b=some (.lst xs)):FoundAt o H' v:=by cases o with|some j=>obtain⟨p,e,z⟩:=h;exact⟨p,e,k _ _ z⟩;|none=>obtain⟨p,x,e,z⟩:=h;exact⟨p,x,e,kl _ _ z⟩
def DueAt(o:Option Nat)(H:Hp)(v:V):Prop:=match o with|some j=>∃p,v=.ref p/\H p=some (.tup [.str (words.getD j "")])|none=>v=.non
theorem DueAt.keep(h:DueAt o H v)(k:∀b xs,H b=some (.tup xs)->H' b=some (.tup xs)):DueAt o H' v:=by cases o with|some j=>obtain⟨p,e,z⟩:=h;exact⟨p,e,k _ _ z⟩;|none=>exact h
theorem HX{fl:Addr}(kd:∀j,o=some j->Kind K Cs j)(L:LamObj H2 fl fd)(Z:LamAt fd body N)(C:CellsOf fd.closure N vs H2 cs)(hN:vs.length=N.length)(run:∀A outer E Q,Room kk A->Dm Cs o anyR H2 Q E->∃te,(∀s,PE (cxL P w K mg base N fd fl A outer s H2 E) body te)/\te (vs.map some) H2 Q)(q:∀v H3,Same (fz H2 cs) H3->FoundAt o H3 v->Q v H3):yU P w K mg base Cs kk [.ref fl] (fz H2 cs) Q E0:=by
 have no:NoC cs H2:=C.no;have P7:∀b o,H2 b=some o->fz H2 cs b=some o:=λb o e=>by cases z:cs.lookup b with|some u=>rw[no b u z]at e;cases e;|none=>rw[eG z];exact e
 refine⟨fl,λv' H3=>o=none/\Same (fz H2 cs) H3,λa C' H3=>∃j,o=some j/\C'=Cs j/\Same (fz H2 cs) H3,rfl,⟨fd,body,N,vs,cs,?_,Z,λb o e=>tU e,C.cell,C.val,hN,λA' bE Q' E' eW h1 h2=>?_⟩,?_,?_⟩;.obtain⟨⟨o,e1,e2⟩,c,oc,vs,t,a1,a2,a3⟩:=L;exact⟨⟨o,P7 _ _ e1,e2⟩,c,oc,vs,t,a1,P7 _ _ a2,a3⟩
 .rw[Ow no];refine run A' bE _ _ eW ⟨λj hj a H' s' na Vz=>?_,λkn v' H' s' Vz=>?_⟩;.exact h2 a (Cs j) (fz H' cs) ⟨j,hj,rfl,s'.fz⟩
  .exact h1 v' (fz H' cs) ⟨kn,s'.fz⟩
 .rintro v' H3⟨kn,s3⟩p hp np;refine q _ _ (s3.updR hp) ?_;rw[kn];exact⟨p,v',rfl,ao⟩
 .rintro a C' H3⟨j,hj,rfl,s3⟩;refine⟨j,rfl,kd j hj,λfa p H4 s4 e4=>q _ _ (s3.trans s4) ?_⟩;rw[hj];exact⟨p,rfl,e4⟩
theorem R5(j:Nat):PySem.SeqAt.shaped (.tuple [.str (words.getD j "")])=true:=by
 have:PyData.strOk (words.getD j "")=true:=by
  rcases Nat.lt_or_ge j 16 with h|h;.exact(by decide+kernel:∀i,i<16->PyData.strOk (words.getD i "")=true) j h
  .rw[zA7,Za1 (show words.length<=j from h)];decide+kernel
 simp only[PySem.SeqAt.shaped,PyData.canLay0,PyData.canLayAll0,PyData.depth,PyData.depthAll,this];rfl
theorem Kc(h2:σ[2]?=some (some u))(h6:σ[6]?=some (some v))(d:DueAt o H u)(f:FoundAt o H v)(q:Q false H):tOr (sJ (tOp rNe (tCB (λxs H Q=>∃x t n b,xs=[x,.ty n]/\TyOf K H x t/\PySem.W.kitOne K t (.type n)=some b/\Q (.bl b) H) (dU (oX 6) (dU (tC (.ty "list")) nA))) (tOp (λx y H Q=>y=.non/\Q (.bl (decide (x=.non))) H) (oX 2) (tC .non)))) (Nq (sJ (tOp (λx y H Q=>y=.non/\Q (.bl (!decide (x=.non))) H) (oX 2) (tC .non))) (sJ (tOp (λx y H Q=>∃d,IsTh (λ_=>True) H x d/\IsTh (λ_=>True) H y d/\PySem.SeqAt.shaped d=true/\PySem.SeqAt.noMix d d=true/\Q (.bl false) H) (oX 6) (oX 2)))) σ H Q:=by cases o with|some j=>obtain⟨p,rfl,ep⟩:=f;obtain⟨p',rfl,AM⟩:=d;refine⟨_,h6,.ref p,_,"list",false,rfl,.tup ep,rfl,_,h2,rfl,rfl,_,rfl,?_⟩;exact bx ⟨_,h2,rfl,_,rfl,bw ⟨_,h6,_,h2,.tuple [.str (words.getD j "")],.tup ep (.cons (.str _) .nil),.tup AM (.cons (.str _) .nil),R5 j,rfl,_,rfl,q⟩⟩;|none=>obtain⟨p,x,rfl,ep⟩:=f;cases(d:u=.non);refine⟨_,h6,.ref p,_,"list",true,rfl,.lst ep,rfl,_,h2,rfl,rfl,_,rfl,?_⟩;exact bx ⟨_,h2,rfl,_,rfl,bx q⟩
abbrev NL:Qa7:=[AAm,AAj]
abbrev NR:Qa7:=[AAm,AAj,"_law_due","_law_kept",AAg,AAw,AAq]
def qnT:Str:=(PyProof.Rows.envOfC AAh (aC (top 108)) 0 0 .none).qual++"<lambda>"
inductive SpRightI(T:Addr)(qn:Str)(vs:List V)(H:Hp)(Q:VK):Prop|mk:∀S v d vy y,(vs=[v,vy])->(¬S sysModules)->(IsTh S H v d)->(IsTh S H vy y)->(tame (.tuple [d,y])=true)->(sz (.tuple [d,y])<=1000)->(TabOk H T qn)->(∀H',(∀b o,b≠T->H b=some o->H' b=some o)->TabOk H' T qn->Q (.bl true) H')->SpRightI T qn vs H Q
def Bt(T:Addr)(qn:Str):Sp:=λvs H Q _=>SpRightI T qn vs H Q
def scLam:Scope:={kind:=.function,names:=[(AAm,.free),(AAj,.free)],isGenerator:=false,isCoroutine:=false,more:=[]}
structure LamK(P:Program)(w:World)(K:Frag)(mg:Qa0)(base:Heap)(Cs:Nat->Addr)(cl:List (Str×Addr))(d y:PyData)(v vy:V)(H:Hp)(x:V):Prop where ex:∃fl fd body,x=.ref fl/\LamObj H fl fd/\LamAt fd body NL/\fd.closure=cl/\∀H2,(∃S,IsTh S H2 v d/\IsTh S H2 vy y)->∀A outer E Q,Room 14 A->Dm Cs (j4 d y) anyR H2 Q E->∃te,(∀s,PE (cxL P w K mg base NL fd fl A outer s H2 E) body te)/\te [some v,some vy] H2 Q
structure CallsAt(T pS:Addr)(qn:Str)(R:Hp->V->Prop)(H0 H:Hp)(xs:List V):Prop where
 kp:∀b o,b≠T->H0 b=some o->H b=some o
 tb:TabOk H T qn
 el:H pS=some (.lst xs)nl:H0 pS=none
 it:∀x∈xs,R H x
theorem LamObj.keep{fl:Addr}(L:LamObj H fl fd)(k:∀b o,H b=some (held o)->H' b=some (held o)):LamObj H' fl fd:=by obtain⟨⟨o,e1,e2⟩,c,oc,vs,t,a1,a2,a3⟩:=L;exact⟨⟨o,k _ _ e1,e2⟩,c,oc,vs,t,a1,k _ _ a2,a3⟩
theorem LamK.keep(L:LamK P w K mg base Cs cl d y v vy H x)(k:∀b o,H b=some (held o)->H' b=some (held o)):LamK P w K mg base Cs cl d y v vy H' x:=by obtain⟨fl,fd,body,e,L,r⟩:=L.ex;exact⟨fl,fd,body,e,LamObj.keep L k,r⟩
theorem CallsAt.nt(c:CallsAt T pS qn R H0 H xs):pS≠T:=λz=>by obtain⟨ps,e,_⟩:=c.tb;have:=c.el;rw[z,e]at this;cases this
theorem CallsAt.push(hR:∀H H' x,R H x->(∀b o,H b=some (held o)->H' b=some (held o))->R H' x)(c:CallsAt T pS qn R H0 H xs)(k:∀b o,b≠T->H b=some o->H' b=some o)(tb:TabOk H' T qn)(hx:R H' x):H' pS=some (.lst xs)/\CallsAt T pS qn R H0 (upd H' pS (.lst (xs++[x]))) (xs++[x]):=by
 have e':=k _ _ c.nt c.el;have hh:∀b o,H' b=some (held o)->upd H' pS (.lst (xs++[x])) b=some (held o):=λb o e=>by rw[aD λz=>by rw[z,e']at e;cases e];exact e
 refine⟨e',λb o n e=>?_,tb.keep (λps e=>by rw[aD (Ne.symm c.nt)];exact e) hh,ao,c.nl,λz hz=>?_⟩;.rw[aD (aH e c.nl)];exact k b o n (c.kp b o n e)
 .rcases zA6.mp hz with hz|hz;.exact hR _ _ _ (c.it z hz) λb o e=>hh b o (k b _ (λz=>by obtain⟨ps,e2,_⟩:=c.tb;rw[z,e2]at e;cases e) e)
  .rw[Zad.mp hz];exact hR _ _ _ hx hh
theorem CallsAt.same(hR:∀H H' x,R H x->(∀b o,H b=some (held o)->H' b=some (held o))->R H' x)(c:CallsAt T pS qn R H0 H xs)(s:Same H H'):CallsAt T pS qn R H0 H' xs:=⟨λb o n e=>s _ _ (c.kp b o n e),c.tb.same s,s _ _ c.el,c.nl,λx hx=>hR _ _ _ (c.it x hx) λb o e=>s _ _ e⟩
theorem lB(gE:σ[4]?=some (some (.ref pS)))(ca:CallsAt T pS qn R H0 H xs)(hR:∀H H' x,R H x->(∀b o,H b=some (held o)->H' b=some (held o))->R H' x)(hl:xs.length<100)(hk:∀fl pm cv ct H1,LamObj H1 fl (PySem.W.kla_fn "<lambda>" qn params body scope cl pm cv ct)->LamAt (PySem.W.kla_fn "<lambda>" qn params body scope cl pm cv ct) body N->R H1 (.ref fl))(q:∀fl H',CallsAt T pS qn R H0 H' (xs++[.ref fl])->Q .non H'):tBM K "list" zG (oX 4) (dU (tMk T qn params body scope cl N) nA) σ H Q:=by refine⟨_,gE,.inl ⟨rfl,_,SqL.of ca.el⟩,?_⟩;refine⟨ca.tb,λfl pm cv ct H5 VA LH nf L Z=>?_⟩;obtain⟨e5,VB⟩:=ca.push hR VA LH (hk fl pm cv ct H5 L Z);exact⟨pS,_,.ref fl,rfl,rfl,e5,z05,q fl _ VB⟩
theorem scR:FnScope NR NL (aC (top 108)):=fQS
theorem Qe(hr:Room k A):A.units+64<cLine:=by have:=hr.un;lia
theorem HY(F:Fun K AAh AAh (top 108) f fd)(hc:fd.code=.ref cc)(hC:PySem.W.CodeHd base cc T0)(hB:base.BuiltinsAt mg T0)(T:Mg mg)(Tp:mg "repr"=none)(Tl:mg "list"=none)(kd:∀j,j=3\/j=5->Kind K Cs j)(c1:Cal P w K mg base 16 "_law_said" [AAw] (yU P w K mg base Cs 14))(c2:iZ P w K mg base 11 "gifts_in" ["book","year"] (jJ Cs anyR))(c3:iZ P w K mg base 11 "left_in" ["book","year"] (jJ Cs anyR))(c4:iZ P w K mg base 12 "owed_by" ["book","year"] (jJ Cs anyR))(c5:iZ P w K mg base 12 "sums_by" ["book","year"] (jJ Cs anyR))(c6:iZ P w K mg base 12 "pence_owed" ["book","year"] (jJ Cs anyR))(c7:iZ P w K mg base 12 "lack_by" ["book","year"] (jJ Cs anyR))(c8:iZ P w K mg base 13 "paper_of" ["book","year"] (jJ Cs anyR))(c9:iZ P w K mg base 9 "is_paper" ["book","year","thing"] (Q8 Cs))(ca:Cal P w K mg base 5 "_law_is_book" [AAb] (spT qX))(cb:Cal P w K mg base 2 AAt [AAb,AAr,AAp] (jC dR)):FnOk P w K mg base CX0 62 f fd [AAm,AAj] (Bt T0 qnT):=by
 refine F.oqC hc scR λA outer s H vs Q E hr h=>?_;obtain⟨S,v,d,vy,y,rfl,hS,th,ty,tm,hz,tab,q⟩:=h;obtain⟨f1,fd1,F1,m1,k1,b1⟩:=id c1;have xt:Room 16 (A.deeper (PyProof.Rows.envOfC AAh (aC (top 108)) s.heap.objs.size f (.ref cc))):=hr.mono z02;refine ok_b (aR ⟨yh (i:=2) (j:=3) rfl scR.nd rfl rfl z02 rfl rfl (aq (cJ (aq pM aj)) (aq (aM (tK (S:=S) hr.gd hS) rfl Tp qF (aq (cJ (aq (pv 0) (aq (pv 1) aj))) aj)) aj)) rfl⟩ (aR ⟨bV (bY (aJ ca hr (aq (pv 0) aj))) (aF (pss 2 scR.nd (pN (bY (aJ cb hr (aq (pv 1) (aq aB (aq (aV fU (aM aW rfl T.len PySem.boot_len (aq (pX bQ (pv 0) aB) aj)) aB) aj))))) iw (cJ (aq pM aj))))) bh⟩ (aR (gW 4 scR.nd (eF (aZ ⟨fu (N:=NL) (sc:=aC (top 108)) (NX:=NR) [0,1] rfl hC hB rfl rfl rfl (λ_ _ _ _ _=>rfl) z04⟩ bG ⟨λ_ _=>rfl⟩))) (aR ⟨bf (eZ zB4 zBa zB9 cA (pv 4) (aq (fu (N:=NL) (sc:=aC (top 108)) (NX:=NR) [0,1] rfl hC hB rfl rfl rfl (λ_ _ _ _ _=>rfl) z04) aj ⟨λ_ _=>rfl⟩))⟩ (aR ⟨bf (eZ zB4 zBa zB9 cA (pv 4) (aq (fu (N:=NL) (sc:=aC (top 108)) (NX:=NR) [0,1] rfl hC hB rfl rfl rfl (λ_ _ _ _ _=>rfl) z04) aj ⟨λ_ _=>rfl⟩))⟩ (aR ⟨bf (eZ zB4 zBa zB9 cA (pv 4) (aq (fu (N:=NL) (sc:=aC (top 108)) (NX:=NR) [0,1] rfl hC hB rfl rfl rfl (λ_ _ _ _ _=>rfl) z04) aj ⟨λ_ _=>rfl⟩))⟩ (aR ⟨bf (eZ zB4 zBa zB9 cA (pv 4) (aq (fu (N:=NL) (sc:=aC (top 108)) (NX:=NR) [0,1] rfl hC hB rfl rfl rfl (λ_ _ _ _ _=>rfl) z04) aj ⟨λ_ _=>rfl⟩))⟩ (aR ⟨bf (eZ zB4 zBa zB9 cA (pv 4) (aq (fu (N:=NL) (sc:=aC (top 108)) (NX:=NR) [0,1] rfl hC hB rfl rfl rfl (λ_ _ _ _ _=>rfl) z04) aj ⟨λ_ _=>rfl⟩))⟩ (aR ⟨bf (eZ zB4 zBa zB9 cA (pv 4) (aq (fu (N:=NL) (sc:=aC (top 108)) (NX:=NR) [0,1] rfl hC hB rfl rfl rfl (λ_ _ _ _ _=>rfl) z04) aj ⟨λ_ _=>rfl⟩))⟩ (aR ⟨bf (eZ zB4 zBa zB9 cA (pv 4) (aq (fu (N:=NL) (sc:=aC (top 108)) (NX:=NR) [0,1] rfl hC hB rfl rfl rfl (λ_ _ _ _ _=>rfl) z04) aj ⟨λ_ _=>rfl⟩))⟩ (aR ⟨cP zB8 rfl (fG (pv 4)) (pgn 5 scR.nd) (tQ (aR (gW 6 scR.nd ⟨FP scLam (N:=NL) (ix:=[0,1]) (sc:=aC (top 108)) (NX:=NR) F1 xt rfl m1 k1 b1 rfl (λ_=>rfl) rfl rfl z04 (pv 5)⟩) (dN (Gu ⟨PW.pt (gG (bz sI (aM bJ rfl T.isinstance boot_isinstance (aq (pv 6) (aq (dB rfl Tl qJ (v:=.ty "list") rfl) aj))) (fY ur (pv 2) iw (bu _)) (bu _)) (gC (PW.pt (yf (bz Ij (pv 2) iw (bu _)) (ul (bz (Mj (S:=λ_=>True) (Qe hr)) (pv 6) (pv 2) (bu _)))))))⟩ (dN (jy tM)) vA))))⟩ (dN (jy ⟨fY iJ (aM (tK (S:=S) hr.gd hS) rfl Tp qF (aq (cJ (aq (pv 0) (aq (pv 1) aj))) aj)) (pv 3) (bu _)⟩))))))))))))) ?_;have zz:sz d<=4000/\sz y<=4000:=by have:1+(sz d+(sz y+0))<=1000:=hz;lia
 refine aG ?_;refine⟨zL,λp1 nB=>?_⟩;have xi:=Same.upd (o:=.tup [.str "book"]) nB;have e1:=ao (H:=H) (a:=p1) (o:=.tup [.str "book"]);generalize upd H p1 (.tup [.str "book"])=H1 at xi e1⊢;refine⟨_,rfl,_,rfl,zL,λp0 EW=>?_⟩;have sj:=Same.upd (o:=.tup [v,vy]) EW;refine⟨.ref p0,.tuple [d,y],rfl,.tup ao (.cons ((th.same xi).same sj) (.cons ((ty.same xi).same sj) .nil)),tm,z00,An hr z02 hz,⟨_,_,rfl,?_⟩⟩;dsimp only;have e1:=sj _ _ e1;have sj:=xi.trans sj;generalize upd H1 p0 (.tup [v,vy])=H1 at sj e1⊢;refine jQ λc_ iL=>?_;have rest:∀H2 u,Same H H2->DueAt (j4 d y) H2 u->c_ [some v,some vy,some u,some (.str (PyData.tuple [d,y]).shown),none,none,none] H2:=by
  intro H2 u s2 du;have pb:=th.same s2;have P8:=ty.same s2;have fN:=TabOk.same tab s2;have VC:∀j,j4 d y=some j->Kind K Cs j:=λj hj=>kd j (by
   unfold j4 at hj;split at hj;.cases hj;lia
   .split at hj;.cases hj;lia
    .cases hj);have vals:∀(j' i':Nat)(z:V),([0,1]:List Nat)[j']?=some i'->([v,vy]:List V)[j']?=some z->∀(x:L2.St),(some v::some vy::x:L2.St)[i']?=some (some z):=by rintro(_|_|_)i z e1 e2 x<;>cases e1<;>cases e2<;>rfl
  refine iL _ _ ?_;refine aG (aU ?_);refine jB ?_;obtain⟨cl,gI⟩:∃cl,cl=cj (PyProof.Rows.envOfC AAh (aC (top 108)) s.heap.objs.size f (.ref cc)).cells scLam.names []:=⟨_,rfl⟩;have hR:∀H H' x,LamK P w K mg base Cs cl d y v vy H x->(∀b o,H b=some (held o)->H' b=some (held o))->LamK P w K mg base Cs cl d y v vy H' x:=λ_ _ _ h k=>h.keep k;refine⟨fN,λqh KA cv1 ct1 H3 vi xw VD L Z=>?_⟩;have k1:LamK P w K mg base Cs cl d y v vy H3 (.ref qh):=⟨_,_,_,rfl,L,Z,by rw[gI];rfl,λH2⟨S,t1,t2⟩A' bE E' Q' eW out=>⟨_,λs'=>cQ c2 (eW.deeper _) z02 rfl gr rfl (aq (pv 0) (aq (pv 1) aj)),⟨_,rfl,_,rfl,S,v,d,vy,y,rfl,t1,zz.1,t2,zz.2,out⟩⟩⟩;refine⟨zL,λpS sv=>?_⟩;refine aK ?_;dsimp only;have nS:H2 pS=none:=by cases e:H2 pS with|none=>rfl;|some o=>
    by_cases z:pS=T0;.obtain⟨ps,e3,_⟩:=xw;rw[z,e3]at sv;cases sv
    .rw[vi _ _ z e]at sv;cases sv
  refine gF (λHc=>CallsAt T0 pS qnT (LamK P w K mg base Cs cl d y v vy) H2 Hc [.ref qh]) ⟨λb o n e=>Same.upd sv _ _ (vi b o n e),xw.same (Same.upd sv),ao,nS,λx hx=>by rw[Zad.mp hx];exact k1.keep λb o e=>Same.upd sv _ _ e⟩ λH4 ca=>?_;clear k1 L Z vi xw sv VD;refine aG ?_;refine lB rfl ca hR (Zaq rfl) (λ_ _ _ _ _ L Z=>?_) λf0 H5 ca=>?_;.exact⟨_,_,_,rfl,L,Z,by rw[gI];rfl,λH2⟨S,t1,t2⟩A' bE E' Q' eW out=>⟨_,λs'=>cQ c3 (eW.deeper _) z02 rfl gr rfl (aq (pv 0) (aq (pv 1) aj)),⟨_,rfl,_,rfl,S,v,d,vy,y,rfl,t1,zz.1,t2,zz.2,out⟩⟩⟩
  dsimp only;refine aG ?_;refine lB rfl ca hR (Zaq rfl) (λ_ _ _ _ _ L Z=>?_) λf1 H5 ca=>?_;.exact⟨_,_,_,rfl,L,Z,by rw[gI];rfl,λH2⟨S,t1,t2⟩A' bE E' Q' eW out=>⟨_,λs'=>cQ c4 (eW.deeper _) z02 rfl gr rfl (aq (pv 0) (aq (pv 1) aj)),⟨_,rfl,_,rfl,S,v,d,vy,y,rfl,t1,zz.1,t2,zz.2,out⟩⟩⟩
  dsimp only;refine aG ?_;refine lB rfl ca hR (Zaq rfl) (λ_ _ _ _ _ L Z=>?_) λf2 H5 ca=>?_;.exact⟨_,_,_,rfl,L,Z,by rw[gI];rfl,λH2⟨S,t1,t2⟩A' bE E' Q' eW out=>⟨_,λs'=>cQ c5 (eW.deeper _) z02 rfl gr rfl (aq (pv 0) (aq (pv 1) aj)),⟨_,rfl,_,rfl,S,v,d,vy,y,rfl,t1,zz.1,t2,zz.2,out⟩⟩⟩
  dsimp only;refine aG ?_;refine lB rfl ca hR (Zaq rfl) (λ_ _ _ _ _ L Z=>?_) λf3 H5 ca=>?_;.exact⟨_,_,_,rfl,L,Z,by rw[gI];rfl,λH2⟨S,t1,t2⟩A' bE E' Q' eW out=>⟨_,λs'=>cQ c6 (eW.deeper _) z02 rfl gr rfl (aq (pv 0) (aq (pv 1) aj)),⟨_,rfl,_,rfl,S,v,d,vy,y,rfl,t1,zz.1,t2,zz.2,out⟩⟩⟩
  dsimp only;refine aG ?_;refine lB rfl ca hR (Zaq rfl) (λ_ _ _ _ _ L Z=>?_) λf4 H5 ca=>?_;.exact⟨_,_,_,rfl,L,Z,by rw[gI];rfl,λH2⟨S,t1,t2⟩A' bE E' Q' eW out=>⟨_,λs'=>cQ c7 (eW.deeper _) z02 rfl gr rfl (aq (pv 0) (aq (pv 1) aj)),⟨_,rfl,_,rfl,S,v,d,vy,y,rfl,t1,zz.1,t2,zz.2,out⟩⟩⟩
  dsimp only;refine aG ?_;refine lB rfl ca hR (Zaq rfl) (λ_ _ _ _ _ L Z=>?_) λf5 H5 ca=>?_;.exact⟨_,_,_,rfl,L,Z,by rw[gI];rfl,λH2⟨S,t1,t2⟩A' bE E' Q' eW out=>⟨_,λs'=>cQ c8 (eW.deeper _) z02 rfl gr rfl (aq (pv 0) (aq (pv 1) aj)),⟨_,rfl,_,rfl,S,v,d,vy,y,rfl,t1,zz.1,t2,zz.2,out⟩⟩⟩
  dsimp only;refine aG ?_;refine lB rfl ca hR (Zaq rfl) (λ_ _ _ _ _ L Z=>?_) λf6 H5 ca=>?_;.exact⟨_,_,_,rfl,L,Z,by rw[gI];rfl,λH2⟨S,t1,t2⟩A' bE E' Q' eW out=>⟨_,λs'=>cQ c9 (eW.deeper _) z02 rfl gr rfl (aq (pv 0) (aq (pv 1) (aq iw aj))),⟨_,rfl,_,rfl,S,v,d,vy,y,rfl,t1,zz.1,t2,zz.2,out⟩⟩⟩
  dsimp only;generalize[V.ref qh]++[.ref f0]++[.ref f1]++[.ref f2]++[.ref f3]++[.ref f4]++[.ref f5]++[.ref f6]=xs at ca;refine aG ?_;refine⟨_,rfl,pS,rfl,⟨_,SqL.of ca.el⟩,?_⟩;refine iI (xs:=xs) (λk σ Hc=>∃x5 x6,σ=[some v,some vy,some u,some (.str (PyData.tuple [d,y]).shown),some (.ref pS),x5,x6]/\CallsAt T0 pS qnT (LamK P w K mg base Cs cl d y v vy) H2 Hc xs) ?_ ?_ ?_ ?_;.exact⟨_,_,rfl,ca⟩
  .rintro k σ Hc hk⟨x5,x6,rfl,ca⟩;exact SqL.of ca.el
  .rintro k x σ Hc hx⟨x5,x6,rfl,ca⟩;obtain⟨fl,fd',body,rfl,L,Z,LI,run⟩:=(ca.it _ (zB5 hx)).ex;have xh:=pb.tbl fN ca.kp;have LJ:=P8.tbl fN ca.kp;have VF:=du.keep λb xs e=>ca.kp b _ (λz=>by obtain⟨ps,e3,_⟩:=fN;rw[z,e3]at e;cases e) e;refine aK (aG ?_);refine aU ?_;refine⟨_,rfl,[v,vy],rfl,λj' i' z e1 e2=>vals j' i' z e1 e2 _,λcs C=>?_⟩;refine HX (vs:=[v,vy]) (o:=j4 d y) VC L Z (by rw[LI,gI];exact C) rfl (λA' bE E' Q' eW out=>run Hc ⟨S,xh,LJ⟩ A' bE E' Q' eW out) λv1 H9 s9 f9=>?_;have no:NoC cs Hc:=C.no;have vF:=s9.er no;have P9:=f9.keep (λb xs e=>Ai s9 (λ_ _ z=>by cases z) e) (λb xs e=>Ai s9 (λ_ _ z=>by cases z) e);have DT:=ca.same hR vF;have Qb:=VF.keep λb xs e=>vF _ _ e;refine aK ?_;dsimp only;generalize er H9 cs=HB at vF P9 DT Qb⊢;refine Kc (K:=K) rfl rfl Qb P9 ?_;refine bx ?_;exact⟨_,_,rfl,DT⟩
  .rintro σ Hc⟨x5,x6,rfl,ca⟩;have xh:=pb.tbl fN ca.kp;have LJ:=P8.tbl fN ca.kp;dsimp only;refine gQ ?_;refine⟨_,rfl,_,rfl,zL,λp9 FE=>⟨.ref p9,.tuple [d,y],rfl,.tup ao (.cons (xh.same (Same.upd FE)) (.cons (LJ.same (Same.upd FE)) .nil)),tm,z00,An hr z02 hz,⟨_,rfl,rfl,?_⟩⟩⟩;rw[zAw rfl];exact q _ (λb o n e=>Same.upd FE _ _ (ca.kp b o n (s2 _ _ e))) (ca.tb.same (Same.upd FE))
 refine⟨_,rfl,S,v,d,rfl,th.same sj,zz.1,λH2 s2=>⟨_,rfl,?_⟩⟩;rw[<-Ka];have DU:=sj.trans s2;cases hb:gw d with|false=>refine bx (cB (rest H2 _ DU ?_));unfold j4;rw[zAz hb];exact⟨p1,rfl,s2 _ _ e1⟩;|true=>
  obtain⟨bk,ac,xc,cs,ap,xp,ps,ai,xs,ss,rfl,rfl,B⟩:=vB (th.same DU) hb;have hl:(items (part (.tuple [cN cs,cN ps,cN ss]) 0)).length=xc.length:=by show(cs.map jn).length=_;rw[zA1,B.rc.l]
  unfold j4 at rest;rw[hb,zAy z02,hl]at rest;refine bw (aU ?_);refine⟨_,rfl,_,rfl,bk,_,0,.ref ac,rfl,rfl,SqT.of B.e,rfl,ac,_,rfl,.inr (SqT.of B.rc.e),_,_,rfl,rfl,S,vy,y,0,_,rfl,ty.same DU,zz.2,λH3 s3=>⟨_,rfl,?_⟩⟩;cases e:dR y 0 ((xc.length:Int)-1)with|true=>rw[e,zAy z02]at rest;exact bw (aK (rest H3 _ (DU.trans s3) rfl));|false=>rw[e,zAz rfl]at rest;refine bx ⟨zL,λp5 sf=>aK (rest _ _ ((DU.trans s3).trans (Same.upd sf)) ⟨p5,rfl,ao⟩)⟩
inductive SpLawI(K:Frag)(T:Addr)(vs:List V)(H:Hp)(Q:VK):Prop|mk:∀a(ns:WF),(vs=[.ref a])->(SqL K H a (ns.map V.int))->(ns.length<=63)->(TabOk H T qnT)->(∀H',Q (.bl true) H')->SpLawI K T vs H Q
def Bu(K:Frag)(T:Addr):Sp:=λvs H Q _=>SpLawI K T vs H Q
theorem I9(t:TabOk H T q)(sa:gY H st)(g:Dr st H H'):TabOk H' T q:=by
 obtain⟨x,y,e,_⟩:=sa;refine t.keep (λps e'=>g.bt _ _ e' λz=>?_) λb o e'=>g.bt _ _ e' λz=>?_;.rw[z,e]at e';cases e'
 .rw[z,e]at e';cases e'
abbrev Fs(st:Addr)(a:Addr):Prop:=a=st\/a=sysModules
theorem Ia(g:gY H st):Fb (Fs st) st H:=⟨.inl rfl,.inr rfl,λb hb hn=>hb.elim (λz=>by obtain⟨u,v,e,_⟩:=g;rw[z,e]at hn;cases hn) id⟩
theorem Bv{rs:UV}(h:∀r∈rs,∀i∈r,-10<=i/\i<=2000000):tms (2^100) (rs.map jn)=true:=by refine tms_all.mpr λd hd=>?_;obtain⟨r,hr,rfl⟩:=zA5.mp hd;show tms (2^100) (r.map PyData.int)=true;refine tms_all.mpr λd hd=>?_;obtain⟨i,hi,rfl⟩:=zA5.mp hd;have:=h r hr i hi;exact zAw (show i.natAbs<2^100 by lia)
theorem vH:∀{rs:UV},(∀r∈rs,r.length=k)->szs (rs.map jn)=(k+1)*rs.length|[],_=>rfl|r::rs,h=>by show sz (jn r)+szs (rs.map jn)=(k+1)*(rs.length+1);rw[vH λx hx=>h x (Zai _ hx),Nat.mul_succ];show 1+szs (r.map PyData.int)+_=_;rw[iV,h r Zan];lia
theorem RowsAt.thF{F:Addr->Prop}(h:RowsAt H a xs rs):IsTh (λa=>¬F a) H (.ref a) (cN rs):=h.th.keep (λ_ _ e=>e) (λ_ _ z _=>z.elim) λ_ _ z _=>z.elim
def Sc(u:V):Prop:=∃d,(∀S H,IsTh S H u d)/\tame d=true/\sz d<=1
theorem Sc.int(h:i.natAbs<2^128):Sc (.int i):=⟨.int i,λ_ _=>.int i,zAw h,zA3 _⟩
theorem Sc.non:Sc .non:=⟨.none,λ_ _=>.non,rfl,zA3 _⟩
theorem Sc.bl(b:Bool):Sc (.bl b):=⟨.bool b,λ_ _=>.bl b,rfl,zA3 _⟩
theorem Sc.nil:Sc (.str "0"):=⟨.str "0",λ_ _=>.str _,by decide+kernel,zA3 _⟩
theorem Ib{xs:List V}{r:Int}(h0:0<=r)(h1:r<xs.length):∃u,atI xs r=some u/\u∈xs:=by have hr:r.toNat<xs.length:=z00;have e:xs[r.toNat]?=some xs[r.toNat]:=zA0 hr;have:=d7 e;rw[show((r.toNat:Nat):Int)=r by lia]at this;exact⟨_,this,zAh hr⟩
structure Bk(T st bk:Addr)(vc:V)(dc:Qa3)(ap:Addr)(xp:List V)(ps:UV)(ai:Addr)(xs:List V)(ss:UV)(H0 H:Hp):Prop where
 kp:∀b o,b≠T->b≠st->H0 b=some o->H b=some o
 sa:gY H st
 tb:TabOk H T qnT
 eb:H bk=some (.tup [vc,.ref ap,.ref ai])tc:IsTh (λa=>¬Fs st a) H vc (.tuple dc)rp:RowsAt H ap xp ps
 rs:RowsAt H ai xs ss
section
theorem Bk.dr(a:Bk T st bk vc dc ap xp ps ai xs ss H0 H)(g:Dr st H H'):Bk T st bk vc dc ap xp ps ai xs ss H0 H':=by refine⟨λb o n1 n2 e=>g.bt _ _ (a.kp b o n1 n2 e) n2,g.sa,I9 a.tb a.sa g,g.bt _ _ a.eb λz=>?_,g.th a.sa (.inl rfl) a.tc,g.rows a.sa a.rp,g.rows a.sa a.rs⟩;obtain⟨x,y,e,_⟩:=a.sa;have:=a.eb;rw[z,e]at this;cases this
theorem Bk.same(a:Bk T st bk vc dc ap xp ps ai xs ss H0 H)(s:Same H H'):Bk T st bk vc dc ap xp ps ai xs ss H0 H':=a.dr (Dr.same ⟨But.refl,a.sa⟩ s)
theorem Bk.right(a:Bk T st bk vc dc ap xp ps ai xs ss H0 H)(k:∀b o,b≠T->H b=some o->H' b=some o)(t:TabOk H' T qnT):Bk T st bk vc dc ap xp ps ai xs ss H0 H':=by
 obtain⟨qs,e',_⟩:=id a.tb;have nT:∀b l,H b=some (.tup l)->b≠T:=λb l e z=>by rw[z,e']at e;cases e
 refine⟨λb o n1 n2 e=>k b o n1 (a.kp b o n1 n2 e),?_,t,k _ _ (nT _ _ a.eb) a.eb,a.tc.tbl a.tb k,a.rp.keep λb l e=>k _ _ (nT _ _ e) e,a.rs.keep λb l e=>k _ _ (nT _ _ e) e⟩;obtain⟨x,y,e,r⟩:=a.sa;exact⟨x,y,k _ _ (λz=>by rw[z,e']at e;cases e) e,r⟩
theorem Bk.th(a:Bk T st bk vc dc ap xp ps ai xs ss H0 H):IsTh (λa=>¬Fs st a) H (.ref bk) (.tuple [.tuple dc,cN ps,cN ss]):=.tup a.eb (.cons a.tc (.cons a.rp.thF (.cons a.rs.thF .nil)))
end
theorem scLw:FnScope [AAd,AAs,AAa,AAm,"_law_turn",AAb,AAj] [AAd] (aC (top 109)):=fQS
theorem Nk(F:Fun K "law" "law" (top 109) f fd)(T:Mg mg)(Tr:mg "range"=none)(Tm:mg "max"=none)(Tn:mg "min"=none)(c1:Cal P w K mg base 2 "_law_state" [AAd,AAs] (Am K))(c2:Cal P w K mg base 4 "_law_book" [AAa,AAl,AAf,AAe] Ha)(c3:Cal P w K mg base 1 AAn [AAa,AAi] jD)(c4:Cal P w K mg base 8 ABa [AAa,AAb,AAv] (mL (5:Nat)))(c5:Cal P w K mg base 2 "_law_odd" [AAa] G5)(c6:Cal P w K mg base 62 AAh [AAm,AAj] (Bt T0 qnT)):FnOk P w K mg base CX0 63 f fd [AAd] (Bu K T0):=by
 refine F.oq scLw λaf A outer s H vs Q E hr h=>?_;obtain⟨a,ns,rfl,hS,hl,tab,q⟩:=h;refine ok_b (aR ⟨cP zB8 rfl (bK rfl Tr (aq (aM (sO rfl) rfl Tm ud (aq aB (aq (aM (jN rfl) rfl Tn boot_min (aq (aM aW rfl T.len PySem.boot_len (aq (pv 0) aj)) (aq aB aj))) aj))) aj)) (pgn 1 scLw.nd) (tQ (aR (gW 2 scLw.nd ⟨aJ (hjk:=z00) c1 hr (aq (pv 0) (aq (pv 1) aj))⟩) (aR (gW 3 scLw.nd ⟨aJ (hjk:=z00) c2 hr (aq (pv 2) (aq aB (aq aB (aq aB aj))))⟩) (dN ⟨cP zB8 rfl (bK rfl Tr (aq aB aj)) (pgn 4 scLw.nd) (tQ (aR (gW 5 scLw.nd (qj bF (eF (aZ ⟨pv 3⟩ (aZ ⟨pv 3⟩ (aZ ⟨aJ (hjk:=z00) c4 hr (aq (pv 2) (aq (pv 3) (aq aB aj)))⟩ (aZ ⟨aJ (hjk:=z00) c5 hr (aq (pv 2) aj)⟩ bG))))) ⟨aJ (hjk:=z00) c3 hr (aq (pv 2) (aq aB aj))⟩ (λ_ _=>rfl))) (aR (gW 6 scLw.nd (qj bF (eF (aZ iC (aZ ⟨aV fU (aM aW rfl T.len PySem.boot_len (aq (pX bQ (pv 3) aB) aj)) aB⟩ (aZ ⟨aM aW rfl T.len PySem.boot_len (aq (pX bQ (pv 3) aB) aj)⟩ (aZ El (aZ yD (aZ tM (aZ cR (aZ Em bG))))))))) ⟨aJ (hjk:=z00) c3 hr (aq (pv 2) (aq aB aj))⟩ (λ_ _=>rfl))) (dN (Gu (Gs (Bf ⟨aJ (hjk:=z00) c6 hr (aq (pv 5) (aq (pv 6) aj))⟩)) (dN (jy tM)) vA)))))⟩))))⟩ (dN (jy tM))) ?_;refine aG ?_;have fq:(ns.map V.int).length<=63:=by rw[zA1];exact hl
 refine⟨_,rfl,a,_,rfl,.inl hS,_,_,rfl,_,_,rfl,_,rfl,?_,?_,?_⟩;.split<;>split<;>lia
 .split<;>split<;>lia
 refine d9 (lo:=0) (λi σ Hc=>∃x1 x2 x3 x4 x5 x6,σ=[some (.ref a),x1,x2,x3,x4,x5,x6]/\(∀b o,b≠T0->H b=some o->Hc b=some o)/\TabOk Hc T0 qnT) ?_ ?_ ?_;.exact⟨none,none,none,none,none,none,rfl,λ_ _ _ e=>e,tab⟩
 .rintro i σ H1 hi⟨x1,x2,x3,x4,x5,x6,rfl,k1,xy⟩;have VG:SqL K H1 a (ns.map V.int):=by
   obtain⟨ps,eT,_⟩:=tab;rcases hS with(h|⟨o,h⟩)|h;.exact .inl (.inl (k1 _ _ (λz=>by rw[z,eT]at h;cases h) h))
   .exact .inl (.inr ⟨o,k1 _ _ (λz=>by rw[z,eT]at h;cases h) h⟩)
   .exact .inr h
  refine aK (aG ?_);refine aU ?_;refine⟨_,rfl,_,rfl,a,ns,_,rfl,VG,z00,λst x y hn IS VH wq=>?_⟩;have nT:st≠T0:=λz=>by obtain⟨ps,eT,_⟩:=xy;rw[z,eT]at hn;cases hn
  have DO:H st=none:=by cases e:H st with|none=>rfl;|some o=>rw[k1 st o nT e]at hn;cases hn
  have g1:gY (upd H1 st (.lst [.int x,.int y])) st:=⟨x,y,ao,IS,VH,wq⟩;have vv:∀b o,b≠T0->b≠st->H b=some o->upd H1 st (.lst [.int x,.int y]) b=some o:=λb o n1 n2 e=>by rw[aD n2];exact k1 b o n1 e
  have fN:=TabOk.same xy (Same.upd (o:=.lst [.int x,.int y]) hn);refine aK ?_;dsimp only;generalize upd H1 st (.lst [.int x,.int y])=H2 at g1 vv fN⊢;refine aG (aU ?_);refine⟨_,rfl,Fs st,st,6,6,4,rfl,g1,Ia g1,by decide,by decide,by decide,by decide,by decide,by decide,λbk vc dc ap xp ps ai xs ss H3 d3 eb tc mc zc rp lp okp rs ls cx=>?_⟩;obtain⟨ac,xc,rfl,LL,VI⟩:∃ac xc,vc=.ref ac/\H3 ac=some (.tup xc)/\xc.length<=81:=by cases tc with|tup e t=>exact⟨_,_,rfl,e,by have:=t.length;have:=je dc;lia⟩
  have B3:Bk T0 st bk (.ref ac) dc ap xp ps ai xs ss H H3:=⟨λb o n1 n2 e=>d3.bt _ _ (vv b o n1 n2 e) n2,d3.sa,I9 fN g1 d3,eb,tc,rp,rs⟩;have mb:tm (2^100) (.tuple [.tuple dc,cN ps,cN ss])=true:=by show(tm (2^100) (.tuple dc)&&(tm (2^100) (cN ps)&&(tm (2^100) (cN ss)&&true)))=true;rw[show tm (2^100) (.tuple dc)=true from mc,show tm (2^100) (cN ps)=true from Bv λr hr=>MP (okp r hr),show tm (2^100) (cN ss)=true from Bv λr hr=>(cx r hr).2];rfl
  have zb:sz (.tuple [.tuple dc,cN ps,cN ss])<=233:=by have zp:szs (ps.map jn)=7*ps.length:=vH (k:=6) λr hr=>(okp r hr).1;have zs:szs (ss.map jn)=6*ss.length:=vH (k:=5) λr hr=>(cx r hr).1;show 1+((1+szs dc)+((1+szs (ps.map jn))+((1+szs (ss.map jn))+0)))<=233;lia
  have tb:=uX mb z02;have ldc:dc.length<=81:=by have:=je dc;lia
  clear d3 eb tc mc zc rp rs g1 vv fN;refine aK ?_;dsimp only;refine⟨6,rfl,by decide,by decide,?_⟩;refine d9 (lo:=0) (λj σ Hc=>∃x4 x5 x6,σ=[some (.ref a),some (.int (0+i)),some (.ref st),some (.ref bk),x4,x5,x6]/\Bk T0 st bk (.ref ac) dc ap xp ps ai xs ss H Hc) ?_ ?_ ?_;.exact⟨_,_,_,rfl,B3⟩
  .clear B3;rintro j σ Hc hj⟨x4,x5,x6,rfl,B⟩;refine aK (aG ?_);refine aU ?_;refine⟨_,rfl,_,rfl,_,rfl,_,rfl,Fs st,st,.ref bk,(.tuple [.tuple dc,cN ps,cN ss]),4,2^100,rfl,B.sa,Ia B.sa,by decide,by decide,B.th,mb,zA3 _,z00,λv8 H8 d8 g8 t8 m8 z8=>⟨_,rfl,st,rfl,g8.sa,λvo Ho mo=>⟨zL,λL hL=>?_⟩⟩⟩;have B8:=B.dr g8;obtain⟨dO,go,tO,mO,zO⟩:=mo.dr (Ia B8.sa);have Qr:=go.th B8.sa (.inl rfl) t8;have Bo:=B8.dr go;have sL:=Same.upd (o:=.lst [.ref bk,.ref bk,v8,vo]) hL;have BL:=Bo.same sL;have FF:L≠st:=go.ne hL;refine⟨_,rfl,st,4,rfl,BL.sa,by decide,by decide,λr a' b' r0 r1 h1 h2 h3=>?_⟩;obtain⟨u,hu,mu⟩:=Ib (xs:=[.ref bk,.ref bk,v8,vo]) r0 r1;refine⟨L,_,r,u,rfl,rfl,SqL.of (by rw[aD FF];exact ao),hu,?_⟩;have gT:Dr st (upd Ho L (.lst [.ref bk,.ref bk,v8,vo])) (upd (upd Ho L (.lst [.ref bk,.ref bk,v8,vo])) st (.lst [.int a',.int b'])):=Dr.take ⟨But.refl,BL.sa⟩ h1 h2 h3;have au:∃du,IsTh (λa=>¬Fs st a) (upd (upd Ho L (.lst [.ref bk,.ref bk,v8,vo])) st (.lst [.int a',.int b'])) u du/\tame du=true/\sz du<=500:=by
    simp only[List.mem_cons,List.not_mem_nil,or_false]at mu;rcases mu with rfl|rfl|rfl|rfl;.exact⟨_,(BL.dr gT).th,tb,z00⟩
    .exact⟨_,(BL.dr gT).th,tb,z00⟩
    .exact⟨_,gT.th BL.sa (.inl rfl) (Qr.same sL),uX m8 z02,z00⟩
    .exact⟨_,gT.th BL.sa (.inl rfl) (tO.same sL),uX mO z02,z00⟩
   obtain⟨du,tu,mu,zu⟩:=au;refine aK ?_;dsimp only;refine gF (λHx=>Bk T0 st bk (.ref ac) dc ap xp ps ai xs ss H Hx/\IsTh (λa=>¬Fs st a) Hx u du) ⟨BL.dr gT,tu⟩ λHx=>?_;rintro⟨Bx,tu⟩;clear B B8 Bo BL tO t8 Qr g8 go gT hL sL hu mo;refine aG (aU ?_);obtain⟨LM,xA,eq,LL,VI⟩:∃LM xA,V.ref ac=.ref LM/\Hx LM=some (.tup xA)/\xA.length<=81:=by cases Bx.tc with|tup e t=>exact⟨_,_,rfl,e,by have:=t.length;lia⟩
   cases eq;refine⟨_,rfl,bk,_,0,.ref ac,rfl,rfl,SqT.of Bx.eb,rfl,ac,_,rfl,.inr (SqT.of LL),_,_,rfl,rfl,_,rfl,bk,_,0,.ref ac,rfl,rfl,SqT.of Bx.eb,rfl,ac,_,rfl,.inr (SqT.of LL),1,rfl,_,_,rfl,rfl,⟨by decide,by decide,by decide⟩,zL,λL hL=>?_⟩;have sL:=Same.upd (o:=.lst [.int 0,.int (xA.length-1),.int xA.length,.int (-1),.non,.bl true,.str "0",.int (10^(29:Int).toNat)]) hL;have BL:=Bx.same sL;have FF:L≠st:=Dr.ne ⟨But.refl,Bx.sa⟩ hL;refine⟨_,rfl,st,8,rfl,BL.sa,by decide,by decide,λr a' b' r0 r1 h1 h2 h3=>?_⟩;obtain⟨uy,EM,QA⟩:=Ib (xs:=[.int 0,.int (xA.length-1),.int xA.length,.int (-1),.non,.bl true,.str "0",.int (10^(29:Int).toNat)]) r0 r1;refine⟨L,_,r,uy,rfl,rfl,SqL.of (by rw[aD FF];exact ao),EM,?_⟩;have gT:=Dr.take ⟨But.refl,BL.sa⟩ h1 h2 h3;have QE:=gT.th BL.sa (.inl rfl) (tu.same sL);have sy:Sc uy:=by
    simp only[List.mem_cons,List.not_mem_nil,or_false]at QA;rcases QA with rfl|rfl|rfl|rfl|rfl|rfl|rfl|rfl;.exact Sc.int z02
    .exact Sc.int z00
    .exact Sc.int z00
    .exact Sc.int z02
    .exact Sc.non
    .exact Sc.bl true
    .exact Sc.nil
    .exact Sc.int z02
   refine aK ?_;dsimp only;refine gF (λHx=>Bk T0 st bk (.ref ac) dc ap xp ps ai xs ss H Hx/\IsTh (λa=>¬Fs st a) Hx u du) ⟨BL.dr gT,QE⟩ λHz=>?_;rintro⟨Bz,tu⟩;clear Bx BL QE gT hL sL EM FF;obtain⟨dy,ty,my,zy⟩:=sy;refine⟨_,rfl,_,rfl,λa=>¬Fs st a,u,du,uy,dy,rfl,λz=>z (.inr rfl),tu,ty _ _,?_,?_,Bz.tb,λH' k' t'=>⟨true,rfl,?_⟩⟩;.show(tame du&&(tame dy&&true))=true;rw[mu,my];rfl
   .show 1+(sz du+(sz dy+0))<=1000;lia
   .refine bx ?_;exact⟨_,_,_,rfl,Bz.right k' t'⟩
  .rintro σ Hc⟨x4,x5,x6,rfl,B⟩;exact⟨_,_,_,_,_,_,rfl,λb o n e=>B.kp b o n (aH e DO) e,B.tb⟩
 .rintro σ Hc⟨x1,x2,x3,x4,x5,x6,rfl,k1,xy⟩;exact q _
end K24
structure PySem.W.Fast:Prop where(tw2780946270756706432 tw15880554714153248960 tw8459461630107774144 tw17523852185138033856 tw16482697372507837664 tw14397148774824718560 tw1240797065925055712 tw15997447082783081792 tw5850361978189369664 tw6185456222763663840 tw217410539655989920 tw11969753087345836704 tw17032675662442558112 tw13906554236246916800 tw4117764576952040160 tw4985082763681740512 tw3866692947457109760 tw13121478766364291904 tw14094326059447971648 tw12938144176512516960 tw13430841780048193472 tw15300473219558810625 tw17171272425921702977 tw17136648490505316449 tw5559382063725263969 tw6744628180691316897 tw16360440246031512865 tw3419706859167106369 tw3137367103849544065 tw12059412995834887553 tw15364404206184121729 tw3646550616904022465 tw17765552327934008833 tw13791597511706336801 tw3364180160993965601 tw5180497454500288065 tw10994641331347781249 tw11021666214860613313 tw13818975333771353921 tw12859498498838001537 tw14380949425959693217 tw12239782895869996961 tw15833154332571746241 tw132997844815294401 tw505082972261236898 tw9420557866511035554 tw4383241614702214306 tw14680377721844143298 tw5672559960102337826 tw9154079766619452834 tw17958274878174296546 tw17484935603246966274 tw10591262625352621602 tw10230666117700146722 tw14622837332267960962 tw15149674430657086146 tw2265123946815567618 tw5817438587577160450 tw7486134454646635298 tw2422594097137000258 tw17522696739460823874 tw7062377177463397218 tw13797071335583357794 tw646829498349511586 tw12886903184979266851 tw17932624584963684675 tw1592603195288977763 tw13134575249404032387 tw6631357723030852003 tw3866308733522842051 tw12135776162643662307 tw12510616415923679779 tw6383370619066321475 tw15756903959220649603 tw12847332367668716227 tw4381540519643640547 tw17745340085479060291 tw5746662336269269987 tw9308123186617319428 tw11614675552580403332 tw5562919276814471300 tw14899917655117209956 tw4455784624646179204 tw10789009187218220452 tw9512024782205574692 tw15474046766668408388 tw6657368391666952772 tw12758408297983622852 tw9765480531220366116 tw6467057423156885316 tw17734076794796258116 tw1702150069813250980 tw9813613404445405124 tw8419498969157871653 tw11025814807491091493 tw11102739076632162373 tw7679973115742147653 tw7731247351293402213 tw6105992437723990149 tw13126744989616286917 tw1613752482160326885 tw15292855659328679173 tw12619927909458347301 tw8443257529604483429 tw10068472200883350885 tw16637220885342502405 tw584004131874515493 tw7168976335843845765 tw14993262550378390181 tw7115857622267418405 tw3213231316068813637 tw10669805240409586597 tw1747633584091522086 tw10509633132818501702 tw16694813123156744326 tw17494122391450564774 tw8738056974281862310 tw3986275616049714662 tw3110409351990334950 tw1505957663678232038 tw404917155670953542 tw12963322214321578662 tw17428448916617149126 tw7222810395333503718 tw4959768788579720006 tw3485055318744475462 tw6017966713965695846 tw17321361937608680358 tw5167264126368581703 tw3657459194333990983 tw1183195957633206407 tw15179149589958114471 tw15545999317431893159 tw6406320147196572839 tw3300057712300301511 tw17992647722103820487 tw17287199192989820103 tw9479775035468271879 tw10335856899155979655 tw12109037883215431079 tw17551860729024145895 tw9348461059333075591 tw4371260103733722759 tw11214958562607977095 tw15365499320328506087 tw12828041321642962695 tw16312321613148099431 tw3427287026049692519 tw5628058988657196935 tw8487718966491888615 tw527686349599360008 tw4545436280417091656 tw12762273550236594280 tw13981523438445748328 tw15868337631991259336 tw1372898715809587432 tw629539545645692168 tw15547635243362735624 tw4339348946737568392 tw17020256059972659848 tw13403868346112914120 tw14949547135482835752 tw5670074508798845768 tw17301618646989489481 tw2821654758626960841 tw15896937422842857001 tw16085628714928539209 tw10364867356635685449 tw9666589178720486025 tw3270430195155239561 tw17435034538692140713 tw1220844779644075881 tw14505467111931625321 tw10158378499465082793 tw10360091934812362697 tw4532520547041925546 tw9861463670415915530 tw4194489202075276842 tw12815122562357795370 tw13555874897738085002 tw18100360190564458122 tw2415706820869557930 tw167162447157820074 tw8370748113883292426 tw6887852268409673514 tw18119907221426385770 tw10958196979987554186 tw14110700295032164395 tw2906583382267296971 tw7922376875720165803 tw4060154289446621707 tw16616400915367252523 tw11718421381916147339 tw18312226085536685739 tw4260602050346183595 tw8375704601298737067 tw12226876693359204364 tw12077972757077516332 tw3938950044067308684 tw14464571920302080300 tw5570880302416130444 tw13702634125978203564 tw9541560628471058892 tw10977905057140142668 tw1424284097998142220 tw5826658986283702252 tw16476859280004873261 tw72018042513617101 tw277935432642643245 tw6434593469492818317 tw16744894838133518861 tw10184933323834712813 tw4122096503812796173 tw11977513717408116525 tw9910389990357074829 tw3513356049334457422 tw7109963016259559566 tw3797035013960504558 tw16804712808871953742 tw14311926780351471054 tw4862402363026402798 tw9035967385540876782 tw2314852848319107886 tw16402230247294316398 tw11362484844329849806 tw10627181225894315023 tw18436196450589675631 tw3614921991164196015 tw6641218410022842575 tw11181104149465798031 tw6883943227811407279 tw16790921848471631343 tw18006240162932932111 tw16585533659185424943 tw6903737842576399023 tw7162449546912671439 tw11899634528973143791 tw17400570549820767983 tw11770567767083361071 tw8077673168377169807 tw405764409447494575 tw17937935316779756463 tw398999551859100720 tw11971434602258515088 tw1093514615020180688 tw3267738983665723632 tw2318130464599485872 tw18426604183304123920 tw9567608488837962288 tw13975367367327532624 tw6416051687630196304 tw10233025166875565840 tw4889311284891147024 tw9820240561129582416 tw8076026876955788240 tw17095198558974379089 tw8291838385012768945 tw10730814043036198065 tw4061423406035645649 tw1367977935222421745 tw16037984943246046449 tw3257290626454295921 tw3218253311450789297 tw17174620882390103473 tw18231913014131779025 tw8593359578734401105 tw17806595257988453009 tw14370949284956871345 tw14589278764793967377 tw8559972207857586993 tw9310091238982002545 tw7456135667343931281 tw18326592682882052049 tw4406633671644936306 tw5833972294522758258 tw12638514294807263378 tw16589304235821162642 tw9143287515165598962 tw14079255812132713714 tw16332325970900340978 tw7253303196240598258 tw11059904828091288850 tw7393120202671926674 tw17331128089482249682 tw419546214673412562 tw4316652650176053842 tw13274209234143187538 tw17795341210456299090 tw7975984245663117906 tw17529719979108520562 tw8982894220391805554 tw4747490131565978258 tw3018100580066786994 tw387339786551828242 tw15939258299343510322 tw11453924431113599890 tw889822574974837714 tw15427078301747227634 tw3066264802733431859 tw823224045621988531 tw8888963583420068115 tw5046209883158667571 tw3126806772699536787 tw3628175975343839731 tw252324919404712851 tw3883610768433887155 tw928894270360421363 tw18083525347784830164 tw3411102898434826452 tw5449128027864798452 tw6162268310131575028 tw17352357376254284116 tw5516402013038386836 tw13210212563391410964 tw17642154466520918836 tw11542864664558879732 tw13950828715789407285 tw5059046969206953141 tw12063240212652013877 tw5452918689171438901 tw17870420212084857429 tw3126706609979580053 tw14048457637495598773 tw1752791278177895189 tw13149187324595562325 tw12437629717255821269 tw10729855397002724309 tw8631149362155422742 tw10353055938571217942 tw1264392006811522230 tw8586467858320181494 tw5249932791850893622 tw11710078783110493558 tw1759136378842183062 tw2550045788757735894 tw6892249168780558806 tw11181716343589550582 tw17789812538544036438 tw6436279801937144470 tw16511747637650089686 tw11794501041637951286 tw17926747062793669430 tw9055581591247663958 tw2161340929859109911 tw1428733146305338423 tw16309886159452281015 tw8488346819010118999 tw12477013740269089207 tw10650139569418383799 tw11995397268293105079 tw16435199156447529591 tw2570645244766966615 tw7373614762246824887 tw16794299226327951384 tw2802408870411207832 tw12660538507453844632 tw1938284929016376600 tw12037774131904535896 tw16546976324101359032 tw17763854652681940408 tw10730487941298605528 tw13051166282064536120 tw11480498680644216472 tw1429935808334967448 tw13961886614635323064 tw5285409323609871224 tw16791809927582419864 tw8145903994926542744 tw5445625797895748568 tw14448397937719136216 tw12500329764845927416 tw14943389984755726425 tw6297824608500727897 tw16275835542085404761 tw11110798771553086681 tw14632787626002413849 tw54361555970415033 tw16741927794137675225 tw228811798713940601 tw6375591837865370265 tw18113917837686347417 tw4413631102472429337 tw9437049695569009433 tw14147861356371601337 tw8740823073146543258 tw10438609366005621978 tw1178553849278021850 tw11073809400670580986 tw6466769027667473658 tw8906103295431413114 tw1395943482861386138 tw11808729237093681754 tw3371379334333854394 tw8539498613184643994 tw79488977285082267 tw4828968752018328731 tw14174126592488992987 tw17359049040344463611 tw11478937132654210331 tw10372512884441391483 tw1909011799937555867 tw12021351844034817467 tw514235740791308955 tw3363130654758652571 tw1229087792057429723 tw7886989195934061403 tw3361852044836105244 tw2924754815573880124 tw13794968175739612508 tw1018849937492312572 tw8102659334609534524 tw15011710436400214652 tw11327476226151077564 tw17829616964205715132 tw8918905664923798236 tw2111601954999653084 tw4856341843632532316 tw12908493596446319452 tw6190393180946095996 tw10108272946160361404 tw6396732828583867453 tw13534260604819241117 tw11175219413192638781 tw9175859795695704541 tw4988913301646860765 tw3325731941668244989 tw7014630992450435581 tw13767244123756776125 tw18170815822448802589 tw503323140106417278 tw16004721800795911326 tw13369641376469963934 tw7237125938758142302 tw10975496404118261214 tw7567514020445923902 tw15542480439293801054 tw12144396008836303518 tw11479433865974070942 tw390396800822684446 tw13033834762421395390 tw13425258669610348510 tw2970934149337392126 tw13197740747004641311 tw547781716359779583 tw4828683096981800223 tw14283444283265211903 tw12115446487684799007 tw6238373312194206271 tw9482639782300871359 tw5006804506271083231 tw15013878033312499455 tw637369529289233151 tw17104043584554698495 tw17959301967428557599 tw11088561382855592831 tw818681993404934047 tw7223489666993154015 tw11838288977209971216:True)
namespace K24
open PySem L2
theorem elZ{C:Qa4->Prop}(h:C []):∀us,us.length=0->C us:=by intro us e;cases us with|nil=>exact h;|cons _ _=>cases e
theorem elS{C:Qa4->Prop}(h:∀a,∀us,us.length=n->C (a::us)):∀us,us.length=n+1->C us:=by intro us e;cases us with|nil=>cases e;|cons a r=>exact h a r (Nat.succ.inj e)
theorem el1{C:Qa4->Prop}(h:∀a0,C [a0]):∀us,us.length=1->C us:=elS (λa0=>elZ (h a0))
theorem el2{C:Qa4->Prop}(h:∀a0 a1,C [a0,a1]):∀us,us.length=2->C us:=elS (λa0=>elS (λa1=>elZ (h a0 a1)))
theorem el3{C:Qa4->Prop}(h:∀a0 a1 a2,C [a0,a1,a2]):∀us,us.length=3->C us:=elS (λa0=>elS (λa1=>elS (λa2=>elZ (h a0 a1 a2))))
theorem el4{C:Qa4->Prop}(h:∀a0 a1 a2 a3,C [a0,a1,a2,a3]):∀us,us.length=4->C us:=elS (λa0=>elS (λa1=>elS (λa2=>elS (λa3=>elZ (h a0 a1 a2 a3)))))
theorem el5{C:Qa4->Prop}(h:∀a0 a1 a2 a3 a4,C [a0,a1,a2,a3,a4]):∀us,us.length=5->C us:=elS (λa0=>elS (λa1=>elS (λa2=>elS (λa3=>elS (λa4=>elZ (h a0 a1 a2 a3 a4))))))
def Has(K:Frag)(x:Str)(st:Stmt):Prop:=∃f od an sl oc kV dc pm cd ct,PySem.W.nsIn K mainGlobals x=some (some (.ref f))/\K.lookup f=some ⟨oc,od,.func (PySem.W.fnOf x x (gH st) (cV st) (aC st) .none kV dc pm an cd ct),sl⟩/\PySem.W.codeIn K cd x=true/\PySem.W.keepIn K (.ref f)=true
theorem has_mk{oc kV dc pm cd ct:Value}(a:PySem.W.nsIn K mainGlobals x=some (some (.ref f)))(l:K.lookup f=some ⟨oc,od,.func (PySem.W.fnOf x x (gH st) (cV st) (aC st) .none kV dc pm an cd ct),sl⟩)(c:PySem.W.codeIn K cd x=true)(k:PySem.W.keepIn K (.ref f)=true):Has K x st:=⟨f,od,an,sl,oc,kV,dc,pm,cd,ct,a,l,c,k⟩
theorem Has.get(H:Has K x st)(X:K.In h)(G:h.Ns mainGlobals mg):∃f fd,Fun K x x st f fd/\mg x=some (.ref f):=by obtain⟨f,od,an,sl,oc,kV,dc,pm,cd,ct,a,l,c,k⟩:=H;exact⟨f,_,DX (st:=st) l c k,PySem.W.mg_of X G a⟩
abbrev Bd(x:Str)(st:Stmt)(ps:Qa7)(us:Qa4):Prop:=∀kV doc pm an af ct,bindArgs (PySem.W.fnOf x x (gH st) (cV st) (aC st) .none kV doc pm an af ct) ⟨us,[]⟩=pure (ps.zip us)
theorem Has.g(H:Has K x st)(X:K.In h)(G:h.Ns mainGlobals mg)(ps:Qa7)(hb:∀us,us.length=ps.length->Bd x st ps us):∃f fd,Fun K x x st f fd/\mg x=some (.ref f)/\Binds K fd ps []:=by obtain⟨f,fd,F,m⟩:=H.get X G;exact⟨f,fd,F,m,F.binds λa b c d e g us l=>hb us l a b c d e g⟩
theorem aQ(P:Program)(w:World)(base:Heap)(F:FnOk P w K mg base CX0 k f fd ps sp)(m:mg x=some (.ref f))(kp:PySem.W.keepIn K (.ref f)=true)(b:Binds K fd ps []):Cal P w K mg base k x ps sp:=⟨f,fd,F,m,kp,b⟩
theorem fP(F:FnOk P w K mg base (CX1 P w) k f fd ps sp)(m:mg x=some (.ref f))(kp:PySem.W.keepIn K (.ref f)=true)(b:Binds K fd ps []):iZ P w K mg base k x ps sp:=⟨f,fd,F,m,kp,b⟩
theorem Kd(F:FnOkU P w K mg base CX0 k f fd ps sp)(m:mg x=some (.ref f))(kp:PySem.W.keepIn K (.ref f)=true)(b:Binds K fd ps []):MJ P w K mg base k x ps sp:=⟨f,fd,F,m,kp,b⟩
theorem Ke(X:K.In h)(G:h.Ns mainGlobals mg)(F:Fun K x qual st f fd)(m:mg x=some (.ref f))(t:PySem.W.tabIn K x=some (c,T)):fd.code=.ref c:=by obtain⟨oc,od,kV,doc,pm,an,af,ct,kP,rfl,lk,_⟩:=F.ex;exact PySem.W.law_code X G t m (X _ _ lk) rfl
theorem Has.g1(H:Has K x st)(X:K.In h)(G:h.Ns mainGlobals mg)(a0:Str)(hb:∀u0,Bd x st [a0] [u0]:=by exact λ_ _ _ _ _ _ _=>rfl):∃f fd,Fun K x x st f fd/\mg x=some (.ref f)/\Binds K fd [a0] []:=H.g X G [a0] (el1 hb)
theorem Has.g2(H:Has K x st)(X:K.In h)(G:h.Ns mainGlobals mg)(a0 a1:Str)(hb:∀u0 u1,Bd x st [a0,a1] [u0,u1]:=by exact λ_ _ _ _ _ _ _ _=>rfl):∃f fd,Fun K x x st f fd/\mg x=some (.ref f)/\Binds K fd [a0,a1] []:=H.g X G [a0,a1] (el2 hb)
theorem Has.g3(H:Has K x st)(X:K.In h)(G:h.Ns mainGlobals mg)(a0 a1 a2:Str)(hb:∀u0 u1 u2,Bd x st [a0,a1,a2] [u0,u1,u2]:=by exact λ_ _ _ _ _ _ _ _ _=>rfl):∃f fd,Fun K x x st f fd/\mg x=some (.ref f)/\Binds K fd [a0,a1,a2] []:=H.g X G [a0,a1,a2] (el3 hb)
theorem Has.g4(H:Has K x st)(X:K.In h)(G:h.Ns mainGlobals mg)(a0 a1 a2 a3:Str)(hb:∀u0 u1 u2 u3,Bd x st [a0,a1,a2,a3] [u0,u1,u2,u3]:=by exact λ_ _ _ _ _ _ _ _ _ _=>rfl):∃f fd,Fun K x x st f fd/\mg x=some (.ref f)/\Binds K fd [a0,a1,a2,a3] []:=H.g X G [a0,a1,a2,a3] (el4 hb)
theorem Has.g5(H:Has K x st)(X:K.In h)(G:h.Ns mainGlobals mg)(a0 a1 a2 a3 a4:Str)(hb:∀u0 u1 u2 u3 u4,Bd x st [a0,a1,a2,a3,a4] [u0,u1,u2,u3,u4]:=by exact λ_ _ _ _ _ _ _ _ _ _ _=>rfl):∃f fd,Fun K x x st f fd/\mg x=some (.ref f)/\Binds K fd [a0,a1,a2,a3,a4] []:=H.g X G [a0,a1,a2,a3,a4] (el5 hb)
theorem all_mk{l:PySem.W.OpenLaw}(X:K.In h)(G:h.Ns mainGlobals mg)(VN:mg "law"=some (.ref fa))(h20:Has K "is_whole" (top 20))(h21:Has K "is_whole_from" (top 21))(h22:Has K "is_tuple_of" (top 22))(h23:Has K "are_wholes" (top 23))(h34:Has K "is_clip" (top 34))(h35:Has K "are_clips" (top 35))(h36:Has K "is_promise" (top 36))(h37:Has K "are_promises" (top 37))(h38:Has K "are_sales" (top 38))(h39:Has K "held_in" (top 39))(h40:Has K "is_sale_between" (top 40))(h41:Has K "sale_holds" (top 41))(h42:Has K "first_unheld" (top 42))(h43:Has K "is_book" (top 43))(h44:Has K "refuse_no_book" (top 44))(h48:Has K "are_weights" (top 48))(h49:Has K "refuse_unpartable" (top 49))(h50:Has K "places_by_rest" (top 50))(h51:Has K "parts_of" (top 51))(h52:Has K "parted" (top 52))(h54:Has K "sacks_of" (top 54))(h55:Has K "claims_in" (top 55))(h56:Has K "shares_of" (top 56))(h57:Has K "made_good" (top 57))(h58:Has K "sort_given" (top 58))(h59:Has K "year_given" (top 59))(h60:Has K "years_given" (top 60))(h61:Has K "refuse_no_year_of" (top 61))(h62:Has K "refuse_no_year" (top 62))(h63:Has K "gifts_in" (top 63))(h64:Has K "left_in" (top 64))(h66:Has K "owed_behind" (top 66))(h67:Has K "by_holder" (top 67))(h68:Has K "claims_to" (top 68))(h69:Has K "owed_by" (top 69))(h70:Has K "sums_by" (top 70))(h71:Has K "pence_owed" (top 71))(h73:Has K "from_each_on" (top 73))(h74:Has K "claimed_since" (top 74))(h75:Has K "wool_since" (top 75))(h76:Has K "shown" (top 76))(h77:Has K "is_paper_for" (top 77))(h78:Has K "papers_for" (top 78))(h79:Has K "lack_by" (top 79))(h80:Has K "is_paper" (top 80))(h81:Has K "paper_of" (top 81))(h83:Has K "_law_cell_at" (top 83))(h84:Has K "_law_state" (top 84))(h85:Has K AAn (top 85))(h86:Has K "_law_clips" (top 86))(h87:Has K ABe (top 87))(h88:Has K "_law_begun" (top 88))(h89:Has K "_law_holds" (top 89))(h90:Has K "_law_sell" (top 90))(h91:Has K "_law_sold" (top 91))(h92:Has K ABf (top 92))(h93:Has K "_law_sales" (top 93))(h94:Has K "_law_book" (top 94))(h95:Has K "_law_kind" (top 95))(h96:Has K "_law_said" (top 96))(h97:Has K AAy (top 97))(h98:Has K AAt (top 98))(h99:Has K "_law_is_clip" (top 99))(h100:Has K ABc (top 100))(h101:Has K AAz (top 101))(h102:Has K AAx (top 102))(h103:Has K "_law_is_sale" (top 103))(h104:Has K ABd (top 104))(h105:Has K "_law_is_book" (top 105))(h106:Has K "_law_odd" (top 106))(h107:Has K ABa (top 107))(h108:Has K AAh (top 108))(aL:PySem.W.nsIn K mainGlobals "law"=some (some (.ref fL)))(lL:K.lookup fL=some ⟨VM,VJ,.func (PySem.W.fnOf "law" "law" (gH (top 109)) (cV (top 109)) (aC (top 109)) .none QN QO yY QI LN QP),VL⟩)(cL:PySem.W.codeIn K LN "law"=true)(kL:PySem.W.keepIn K (.ref fL)=true)(n0:PySem.W.nsIn K mainGlobals "SORTS"=some (some (.int 3 t0)))(n1:PySem.W.nsIn K mainGlobals "HOLDERS"=some (some (.int 8 t1)))(n2:PySem.W.nsIn K mainGlobals "LAST_YEAR"=some (some (.int 19 t2)))(n3:PySem.W.nsIn K mainGlobals "MOST_CLIPS"=some (some (.int 20 t3)))(n4:PySem.W.nsIn K mainGlobals "MOST_PROMISES"=some (some (.int 10 t4)))(n5:PySem.W.nsIn K mainGlobals "MOST_WOOL"=some (some (.int 999 t5)))(n6:PySem.W.nsIn K mainGlobals "MOST_SACKS"=some (some (.int 99 t6)))(n7:PySem.W.nsIn K mainGlobals "MOST_PRICE"=some (some (.int 1000000 t7)))(n8:PySem.W.nsIn K mainGlobals "MOST_SALES"=some (some (.int 12 t8)))(n9:PySem.W.nsIn K mainGlobals "MOST_WEIGHTS"=some (some (.int 80 t9)))(n10:PySem.W.nsIn K mainGlobals "MOST_WEIGHT"=some (some (.int 99 QU)))(dE:PySem.W.nsIn K mainGlobals "isinstance"=some none)(sx:PySem.W.nsIn K mainGlobals "int"=some none)(mM:PySem.W.nsIn K mainGlobals "bool"=some none)(ku:PySem.W.nsIn K mainGlobals "tuple"=some none)(sA:PySem.W.nsIn K mainGlobals "len"=some none)(sC:PySem.W.nsIn K mainGlobals "all"=some none)(av:PySem.W.nsIn K mainGlobals "range"=some none)(cq:PySem.W.nsIn K mainGlobals "list"=some none)(sF:PySem.W.nsIn K mainGlobals "max"=some none)(ip:PySem.W.nsIn K mainGlobals "min"=some none)(mP:PySem.W.nsIn K mainGlobals "zip"=some none)(aE:PySem.W.nsIn K mainGlobals "enumerate"=some none)(iq:PySem.W.nsIn K mainGlobals "sorted"=some none)(gy:PySem.W.nsIn K mainGlobals "sum"=some none)(jv:PySem.W.nsIn K mainGlobals "reversed"=some none)(xB:PySem.W.nsIn K mainGlobals "repr"=some none)(gL:PySem.W.nsIn K mainGlobals "ValueError"=some none)(k0:PySem.W.nsIn K mainGlobals "NoClips"=some (some (.ref C0)))(k1:PySem.W.nsIn K mainGlobals "NoPromises"=some (some (.ref C1)))(k2:PySem.W.nsIn K mainGlobals "NoSales"=some (some (.ref C2)))(k3:PySem.W.nsIn K mainGlobals "NoBook"=some (some (.ref C3)))(k4:PySem.W.nsIn K mainGlobals "NoNumber"=some (some (.ref C4)))(k5:PySem.W.nsIn K mainGlobals "NoYear"=some (some (.ref C5)))(k6:PySem.W.nsIn K mainGlobals "NoWeights"=some (some (.ref C6)))(k7:PySem.W.nsIn K mainGlobals "NoPaper"=some (some (.ref C7)))(k8:PySem.W.nsIn K mainGlobals "NoGrowth"=some (some (.ref C8)))(k9:PySem.W.nsIn K mainGlobals "NoPromise"=some (some (.ref C9)))(k10:PySem.W.nsIn K mainGlobals "NoSort"=some (some (.ref zS)))(k11:PySem.W.nsIn K mainGlobals "NoClip"=some (some (.ref Ap)))(k12:PySem.W.nsIn K mainGlobals "NoSale"=some (some (.ref As)))(k13:PySem.W.nsIn K mainGlobals "NoDeed"=some (some (.ref Au)))(k14:PySem.W.nsIn K mainGlobals "NoText"=some (some (.ref AB)))(k15:PySem.W.nsIn K mainGlobals "NoLine"=some (some (.ref AD)))(k16:PySem.W.nsIn K mainGlobals "TooMany"=some (some (.ref AE)))(k17:PySem.W.nsIn K mainGlobals "WoolError"=some (some (.ref AF)))(e3:PySem.W.excIn K C3 VE "ValueError.__new__"=true)(d3:JK K [C0,C1,C2,C3,C4,C5,C6,C7,C8,C9,zS,Ap,As,Au,AB,AD,AE,AF] 3=true)(e5:PySem.W.excIn K C5 VE "ValueError.__new__"=true)(d5:JK K [C0,C1,C2,C3,C4,C5,C6,C7,C8,C9,zS,Ap,As,Au,AB,AD,AE,AF] 5=true)(tb:PySem.W.tabIn K AAh=some (cT,T0)):∃fd,(∀s v,BindsTo s fd ⟨[v],[]⟩ [(AAd,v)])/\∀base,K.In base->base.Ns mainGlobals mg->PySem.W.CodeHd base cT T0->base.BuiltinsAt mg T0->FnOk l.prog w K mg base CX0 63 fa fd [AAd] (Bu K T0):=by have e:=VN.symm.trans (PySem.W.mg_of X G aL);cases e;have FL:=DX (st:=top 109) lL cL kL;obtain⟨f20,VO,QY,VP,VQ⟩:=h20.g1 X G "thing";obtain⟨f21,VR,Ra,VS,VT⟩:=h21.g3 X G "thing" "least" "most";obtain⟨f22,VU,Rb,VW,VX⟩:=h22.g3 X G "thing" "fewest" "most";obtain⟨f23,VY,Rc,VZ,V0⟩:=h23.g2 X G "thing" "many";obtain⟨f34,V1,Rf,V2,V3⟩:=h34.g1 X G "thing";obtain⟨f35,V4,Rg,V5,V6⟩:=h35.g1 X G "thing";obtain⟨f36,V7,Rh,V8,V9⟩:=h36.g1 X G "thing";obtain⟨f37,Wa,Ri,Wb,Wc⟩:=h37.g1 X G "thing";obtain⟨f38,Wd,Rj,We,Wf⟩:=h38.g1 X G "thing";obtain⟨f39,Wg,Rk,Wh,Wi⟩:=h39.g4 X G "promises" "sales" "number" "year";obtain⟨f40,Wj,Rl,Wk,Wl⟩:=h40.g2 X G "promises" "sale";obtain⟨f41,Wm,Rm,Wn,Wo⟩:=h41.g3 X G "promises" "ahead" "sale";obtain⟨f42,Wq,Rn,Wr,Ws⟩:=h42.g2 X G "promises" "sales";obtain⟨f43,Wt,Ro,Wu,Wv⟩:=h43.g1 X G "thing";obtain⟨f44,Ww,FG,Rq,Rr⟩:=h44.g1 X G "thing";obtain⟨f48,Wx,Rt,Wy,Wz⟩:=h48.g1 X G "thing";obtain⟨f49,WA,Ru,WB,WC⟩:=h49.g2 X G "sacks" "weights";obtain⟨f50,WD,Rv,WE,WG⟩:=h50.g1 X G "rests";obtain⟨f51,WH,Rw,WI,WJ⟩:=h51.g2 X G "sacks" "weights";obtain⟨f52,WK,Rx,WL,WM⟩:=h52.g2 X G "sacks" "weights";obtain⟨f54,WN,Ry,WO,WQ⟩:=h54.g1 X G "rows";obtain⟨f55,WR,Rz,WS,WT⟩:=h55.g4 X G "promises" "sales" "sort" "year";obtain⟨f56,WU,RA,WV,WW⟩:=h56.g2 X G "wool" "claims";obtain⟨f57,WX,RB,WY,WZ⟩:=h57.g2 X G "wool" "owed";obtain⟨f58,W0,RC,W2,W3⟩:=h58.g3 X G "wool" "claims" "owed";obtain⟨f59,W4,RD,W5,W6⟩:=h59.g3 X G "book" "year" "owed";obtain⟨f60,W7,RE,W8,W9⟩:=h60.g2 X G "book" "year";obtain⟨f61,Xa,FH,RF,RG⟩:=h61.g2 X G "clips" "year";obtain⟨f62,Xb,FI,RH,RI⟩:=h62.g2 X G "book" "year";obtain⟨f63,Xc,LO,Xd,Xe⟩:=h63.g2 X G "book" "year";obtain⟨f64,Xf,LP,Xg,Xh⟩:=h64.g2 X G "book" "year";obtain⟨f66,Xi,RJ,Xj,Xk⟩:=h66.g2 X G "book" "year";obtain⟨f67,Xl,RK,Xm,Xn⟩:=h67.g1 X G "rows";obtain⟨f68,Xo,RL,Xp,Xq⟩:=h68.g2 X G "book" "year";obtain⟨f69,Xr,LS,Xs,Xt⟩:=h69.g2 X G "book" "year";obtain⟨f70,Xu,LU,Xv,Xw⟩:=h70.g2 X G "book" "year";obtain⟨f71,Xx,LV,Xy,Xz⟩:=h71.g2 X G "book" "year";obtain⟨f73,XA,RM,XC,XD⟩:=h73.g1 X G "numbers";obtain⟨f74,XE,RN,XF,XH⟩:=h74.g2 X G "book" "year";obtain⟨f75,XI,RO,XJ,XM⟩:=h75.g2 X G "book" "year";obtain⟨f76,XN,RP,XO,XQ⟩:=h76.g3 X G "claimed" "wool" "paper";obtain⟨f77,XR,RQ,XS,XT⟩:=h77.g2 X G "year" "thing";obtain⟨f78,XU,RS,XW,XX⟩:=h78.g1 X G "year";obtain⟨f79,XY,DV,RT,RU⟩:=h79.g2 X G "book" "year";obtain⟨f80,XZ,RV,X0,X1⟩:=h80.g3 X G "book" "year" "thing";obtain⟨f81,X2,LW,X3,X4⟩:=h81.g2 X G "book" "year";obtain⟨f83,X5,RW,X6,X7⟩:=h83.g2 X G AAd AAs;obtain⟨f84,X8,RX,X9,Ya⟩:=h84.g2 X G AAd AAs;obtain⟨f85,Yb,RY,Yc,Yd⟩:=h85.g2 X G AAa AAi;obtain⟨f86,Ye,RZ,Yf,Yg⟩:=h86.g2 X G AAa AAf;obtain⟨f87,Yh,R6,Yi,Yj⟩:=h87.g3 X G AAa AAf AAl;obtain⟨f88,Yk,R7,Yl,Ym⟩:=h88.g1 X G AAc;obtain⟨f89,Yn,R8,Yo,Yp⟩:=h89.g3 X G AAc AAg AAk;obtain⟨f90,Yq,R9,Yr,Ys⟩:=h90.g3 X G AAc AAg AAk;obtain⟨f91,Yt,Sa,Yu,Yv⟩:=h91.g2 X G AAc AAe;obtain⟨f92,Yw,Sb,Yx,Yy⟩:=h92.g2 X G AAa AAc;obtain⟨f93,Yz,Sd,YA,YB⟩:=h93.g3 X G AAa AAc AAf;obtain⟨f94,YC,Se,YD,YE⟩:=h94.g4 X G AAa AAl AAf AAe;obtain⟨f95,YF,Sf,YG,YH⟩:=h95.g1 X G "_law_e";obtain⟨f96,YJ,Sg,YK,YL⟩:=h96.g1 X G AAw;obtain⟨f97,YM,Sh,YN,YO⟩:=h97.g1 X G AAb;obtain⟨f98,YQ,Si,YR,YS⟩:=h98.g3 X G AAb AAr AAp;obtain⟨f99,YT,Sj,YU,YV⟩:=h99.g1 X G AAb;obtain⟨YW,Sk,DZ,LX,LY⟩:=h100.g1 X G AAb;obtain⟨YX,Sl,D0,LZ,L5⟩:=h101.g1 X G AAb;obtain⟨YY,Sn,D1,L6,L7⟩:=h102.g1 X G AAb;obtain⟨YZ,Sr,D3,L8,L9⟩:=h103.g1 X G AAb;obtain⟨Y0,Ss,D4,Mb,Mc⟩:=h104.g1 X G AAb;obtain⟨Y1,Su,D5,Md,Me⟩:=h105.g1 X G AAb;obtain⟨Y2,Sv,D6,Mn,Mo⟩:=h106.g1 X G AAa;obtain⟨MA,D7,fw,kH,kK⟩:=h107.g3 X G AAa AAb AAv;obtain⟨Y3,Sw,xC,D8,MB⟩:=h108.g2 X G AAm AAj;have T:Mg mg:=⟨(zAv X G dE),(zAv X G sx),(zAv X G mM),(zAv X G ku),(zAv X G sA),(zAv X G sC)⟩;have TP:K24.Mg mg:=⟨(zAv X G dE),(zAv X G sx),(zAv X G mM),(zAv X G ku),(zAv X G sA),(zAv X G sC)⟩;have N:Nums mg:=⟨⟨t0,PySem.W.mg_of X G n0⟩,⟨t1,PySem.W.mg_of X G n1⟩,⟨t2,PySem.W.mg_of X G n2⟩,⟨t3,PySem.W.mg_of X G n3⟩,⟨t4,PySem.W.mg_of X G n4⟩,⟨t5,PySem.W.mg_of X G n5⟩,⟨t6,PySem.W.mg_of X G n6⟩,⟨t7,PySem.W.mg_of X G n7⟩⟩;have NP:K24P.Nums mg:=⟨⟨t9,PySem.W.mg_of X G n9⟩,⟨QU,PySem.W.mg_of X G n10⟩⟩;have N2:MS mg:=⟨⟨t8,PySem.W.mg_of X G n8⟩⟩;refine⟨PySem.W.fnOf "law" "law" (gH (top 109)) (cV (top 109)) (aC (top 109)) .none QN QO yY QI LN QP,λs v=>.of_eq rfl,λbase kb _ hC hB=>?_⟩;have L:Clss mg (λi=>[C0,C1,C2,C3,C4,C5,C6,C7,C8,C9,zS,Ap,As,Au,AB,AD,AE,AF].getD i 0):=⟨PySem.W.mg_of X G k0,PySem.W.mg_of X G k1,PySem.W.mg_of X G k2,PySem.W.mg_of X G k3,PySem.W.mg_of X G k4,PySem.W.mg_of X G k5,PySem.W.mg_of X G k6,PySem.W.mg_of X G k7,PySem.W.mg_of X G k8,PySem.W.mg_of X G k9,PySem.W.mg_of X G k10,PySem.W.mg_of X G k11,PySem.W.mg_of X G k12,PySem.W.mg_of X G k13,PySem.W.mg_of X G k14,PySem.W.mg_of X G k15,PySem.W.mg_of X G k16,PySem.W.mg_of X G k17⟩;have O3:=Fj (mg:=mg) kb L.n3 e3;have K3:=Ks d3;have O5:=Fj (mg:=mg) kb L.n5 e5;have K5:=Ks d5;have gu:=Ke X G xC D8 tb;have Sx:=aQ l.prog w base (xf QY T) VP QY.kp VQ;have FK:=aQ l.prog w base (rZ Ra Sx) VS Ra.kp VT;have AG:=aQ l.prog w base (qC Rb T) VW Rb.kp VX;have FO:=aQ l.prog w base (rP Rc T Sx AG) VZ Rc.kp V0;have Y4:=aQ l.prog w base (yN Rf T N FO) V2 Rf.kp V3;have Y5:=aQ l.prog w base (uU Rg T N Y4 AG) V5 Rg.kp V6;have Y6:=aQ l.prog w base (rQ Rh T N FO) V8 Rh.kp V9;have Sy:=aQ l.prog w base (ph Ri T N Y6 AG) Wb Ri.kp Wc;have Sz:=aQ l.prog w base (v6 Rj T N2 FO AG) We Rj.kp Wf;have SA:=aQ l.prog w base (Jv Rk N) Wh Rk.kp Wi;have Y7:=aQ l.prog w base (Jw Rl T N) Wk Rl.kp Wl;have Y8:=aQ l.prog w base (G9 Rm T (zAv X G av) Y7 SA) Wn Rm.kp Wo;have Y9:=aQ l.prog w base (Ga Rn (zAv X G aE) Sy Sz Y8) Wr Rn.kp Ws;have SD:=aQ l.prog w base (Jx Ro AG Y5 Sy Sz Y9) Wu Ro.kp Wv;have Za:=aQ l.prog w base (JL FG SD) Rq FG.kp Rr;have XB:=fP (P:=l.prog) (w:=w) (base:=base) (Hl (Cs:=λi=>[C0,C1,C2,C3,C4,C5,C6,C7,C8,C9,zS,Ap,As,Au,AB,AD,AE,AF].getD i 0) FG O3 SD) Rq FG.kp Rr;have Zb:=aQ l.prog w base (K24P.ok_are_weights Rt TP NP FK AG) Wy Rt.kp Wz;have Zc:=aQ l.prog w base (K24P.ok_refuse Ru (zAv X G gy) Zb FK) WB Ru.kp WC;have Zd:=aQ l.prog w base (K24P.ok_places Rv (zAv X G aE) (zAv X G iq)) WE Rv.kp WG;have Ze:=aQ l.prog w base (K24P.ok_parts Rw TP (zAv X G gy) Zd) WI Rw.kp WJ;have Zf:=aQ l.prog w base (K24P.ok_parted Rx Zc Ze) WL Rx.kp WM;have FR:=aQ l.prog w base (Gb Ry (zAv X G gy)) WO Ry.kp WQ;have MC:=aQ l.prog w base (Dh Rz (zAv X G aE) SA) WS Rz.kp WT;have Zg:=aQ l.prog w base (Dg RA T (zAv X G gy) Zf) WV RA.kp WW;have Zh:=aQ l.prog w base (Jz RB (zAv X G ip)) WY RB.kp WZ;have Zi:=aQ l.prog w base (Gh RC (zAv X G gy) (zAv X G cq) (zAv X G mP) Zg Zh) W2 RC.kp W3;have Zj:=aQ l.prog w base (JC RD T N (zAv X G av) (zAv X G iq) MC Zi FR) W5 RD.kp W6;have FU:=aQ l.prog w base (Gz RE (zAv X G av) Zj) W8 RE.kp W9;have Zk:=aQ l.prog w base (JM FH T FK) RF FH.kp RG;have Zl:=fP (P:=l.prog) (w:=w) (base:=base) (Hm (Cs:=λi=>[C0,C1,C2,C3,C4,C5,C6,C7,C8,C9,zS,Ap,As,Au,AB,AD,AE,AF].getD i 0) FH T O5 FK) RF FH.kp RG;have xE:=aQ l.prog w base (GF FI Za Zk) RH FI.kp RI;have xI:=fP (P:=l.prog) (w:=w) (base:=base) (Dn FI XB Zl) RH FI.kp RI;have XG:=fP (P:=l.prog) (w:=w) (base:=base) (ji (R:=xP) (λ_ _ _ _ _ _ h=>h) (GJ LO xE FU) (Du LO xI)) Xd LO.kp Xe;have XL:=fP (P:=l.prog) (w:=w) (base:=base) (ji (R:=xP) (λ_ _ _ _ _ _ h=>h) (JN LP xE FU) (HS LP xI)) Xg LP.kp Xh;have D9:=aQ l.prog w base (GK RJ FU) Xj RJ.kp Xk;have Zm:=aQ l.prog w base (MK RK N) Xm RK.kp Xn;have Zn:=aQ l.prog w base (JW RL N (zAv X G av) MC) Xp RL.kp Xq;have Zo:=fP (P:=l.prog) (w:=w) (base:=base) (ji (R:=qO) (λ_ _ _ _ _ _ h _ _ _ H' s' _ _ _ _ _=>h _ H' s') (JP LS xE D9) (Hn LS xI)) Xs LS.kp Xt;have Zp:=fP (P:=l.prog) (w:=w) (base:=base) (ji (R:=xP) (λ_ _ _ _ _ _ h=>h) (JX LU (zAv X G cq) (zAv X G mP) xE FU Zn D9 Zm) (Hq LU xI)) Xv LU.kp Xw;have Zq:=fP (P:=l.prog) (w:=w) (base:=base) (ji (R:=xP) (λ_ _ _ _ _ _ h=>h) (Hh LV N xE D9) (Do LV xI)) Xy LV.kp Xz;have SE:=aQ l.prog w base (K1 RM (zAv X G jv)) XC RM.kp XD;have Zr:=aQ l.prog w base (zg RN N (zAv X G av) SE FR MC) XF RN.kp XH;have Zs:=aQ l.prog w base (xV RO N (zAv X G av) SE) XJ RO.kp XM;have Zt:=aQ l.prog w base (Hw RP N (zAv X G av) (zAv X G gy) (zAv X G aE) (zAv X G ip)) XO RP.kp XQ;have Zu:=aQ l.prog w base (K7 RQ N FO) XS RQ.kp XT;have Zv:=aQ l.prog w base (Dt RS (zAv X G av)) XW RS.kp XX;have Zw:=aQ l.prog w base (Bh DV xE D9 FR) RT DV.kp RU;have SF:=fP (P:=l.prog) (w:=w) (base:=base) (ji (R:=GP) (λ_ _ _ _ _ _ h H' s'=>h _ H' s') (Bh DV xE D9 FR) (HW DV xI)) RT DV.kp RU;have Zx:=fP (P:=l.prog) (w:=w) (base:=base) (K8 RV xI Zu) X0 RV.kp X1;have Zy:=fP (P:=l.prog) (w:=w) (base:=base) (ji (R:=Ni) (λ_ _ _ _ _ _ h _ _ H' s' _ _ _=>h _ H' s') (Nj LW Zw Zr Zs Zt Zv) (K6 LW SF)) X3 LW.kp X4;have Zz:=aQ l.prog w base (Jq RW T) X6 RW.kp X7;have ZA:=aQ l.prog w base (G3 RX Zz) X9 RX.kp Ya;have mS:=aQ l.prog w base (Jr RY) Yc RY.kp Yd;have ZC:=aQ l.prog w base (G6 RZ T (zAv X G av) mS) Yf RZ.kp Yg;have ZD:=aQ l.prog w base (vC R6 T (zAv X G av) (zAv X G ip) mS) Yi R6.kp Yj;have ZE:=aQ l.prog w base (GQ R7 (zAv X G aE) (zAv X G av)) Yl R7.kp Ym;have ZF:=aQ l.prog w base (Dj R8 T (zAv X G av) (zAv X G ip)) Yo R8.kp Yp;have ZG:=aQ l.prog w base (JS R9 (zAv X G av)) Yr R9.kp Ys;have SO:=aQ l.prog w base (JT (GZ Sa (zAv X G aE) ZE ZF ZG)) Yu Sa.kp Yv;have ZH:=aQ l.prog w base (MN Sb T (zAv X G sF) mS) Yx Sb.kp Yy;have ZI:=aQ l.prog w base (Hb Sd T (zAv X G av) mS ZH SO) YA Sd.kp YB;have ZJ:=aQ l.prog w base (Hf Se T ZC ZD ZI) YD Se.kp YE;have ZK:=Kd (P:=l.prog) (w:=w) (base:=base) (JF Sf T (zAv X G gL) L) YG Sf.kp YH;have ZL:=aQ l.prog w base (JH (kk:=14) Sg L ZK) YK Sg.kp YL;have xS:=aQ l.prog w base (CZ Sh T) YN Sh.kp YO;have MD:=aQ l.prog w base (xj Si xS) YR Si.kp YS;have ZM:=aQ l.prog w base (xm Sj T MD) YU Sj.kp YV;have ME:=aQ l.prog w base (rR DZ T ZM) LX DZ.kp LY;have MG:=aQ l.prog w base (qD D0 T (zAv X G mP) MD) LZ D0.kp L5;have MH:=aQ l.prog w base (nU D1 T MG) L6 D1.kp L7;have MI:=aQ l.prog w base (yc D3 T xS) L8 D3.kp L9;have ML:=aQ l.prog w base (sE D4 T MI) Mb D4.kp Mc;have MM:=aQ l.prog w base (yd D5 T ME MH ML SO) Md D5.kp Me;have kM:=aQ l.prog w base (Mp D6 mS) Mn D6.kp Mo;have S0:=aQ l.prog w base (yO (f:=MA) (fd:=D7)) kH fw.kp kK;have S1:=aQ l.prog w base (iW (k:=0) fw T (zAv X G cq) mS xS kM S0) kH fw.kp kK;have S2:=aQ l.prog w base (iW (k:=1) fw T (zAv X G cq) mS xS kM S1) kH fw.kp kK;have S3:=aQ l.prog w base (iW (k:=2) fw T (zAv X G cq) mS xS kM S2) kH fw.kp kK;have S4:=aQ l.prog w base (iW (k:=3) fw T (zAv X G cq) mS xS kM S3) kH fw.kp kK;have S5:=aQ l.prog w base (iW (k:=4) fw T (zAv X G cq) mS xS kM S4) kH fw.kp kK;have MO:=aQ l.prog w base (HY xC gu hC hB T (zAv X G xB) (zAv X G cq) (λj hj=>by rcases hj with rfl|rfl;exact K3;exact K5) ZL XG XL Zo Zp Zq SF Zy Zx MM MD) D8 xC.kp MB;exact Nk FL T (zAv X G av) (zAv X G sF) (zAv X G ip) ZA ZJ mS S5 kM MO
theorem walk{l:PySem.W.OpenLaw}{K:Params->Frag}(hn:l.most=some 63)(tN:d.params.defaults=[])(hY:∀w h,YP w h->(K w.params).In h)(IG:(PyProof.Rows.recsOf q).find? (λe=>e.name==(AAh:Str))=some dr)(B6:∀p,PySem.W.tabIn (K p) AAh=some (c,T0))(IH:∀p,PySem.W.noTabs (K p)=true)(F:∀w mg fa h,(K w.params).In h->h.Ns mainGlobals mg->mg d.name=some (.ref fa)->∃fd,(∀s u,BindsTo s fd ⟨[u],[]⟩ [(AAd,u)])/\∀base,(K w.params).In base->base.Ns mainGlobals mg->PySem.W.CodeHd base c T0->base.BuiltinsAt mg T0->FnOk l.prog w (K w.params) mg base CX0 63 fa fd [AAd] (Bu (K w.params) T0)):PySem.W.WalkO q loose XP YP l.row.toRowW d [] (λf vs=>PySem.call f vs):=L2.walk_ofT (n:=63) (k:=63) (x:=AAd) (nm:=AAh) (qn:=qnT) (CX:=λ_=>CX0) (sp:=λw=>Bu (K w.params) T0) hn z02 tN ⟨rfl,by decide,by decide,rfl⟩ hY IG B6 IH F (λ_ _ a ns hl hS hT=>⟨a,ns,rfl,hS,hl,hT,λ_=>rfl⟩) λ_ _ _ _ _ z=>z
end K24
open PySem PySem.W PyProof.Rows
set_option maxRecDepth 100000 in
set_option maxHeartbeats 0 in
theorem PySem.Challenge.cw_woolyears_k24_what_is_refused_of_years_holds : PySem.Challenge.rw_woolyears_k24_what_is_refused_of_years.Holds := by
 w_on;o_law;k_head;(case hw=>w_witness2);k_fill;refine' K24.walk (l:=PySem.Challenge.rw_woolyears_k24_what_is_refused_of_years) rfl rfl (λw h Y=>PySem.W.km_in_of Y) ?fd ?tb ?nt ?F;case fd=>exact rfl
 case tb=>intro p;refine' K24.tab_mk ?a ?l ?c ?m ?v;(case a=>k_is);(case l=>k_is);(case c=>exact rfl);(case m=>k_is);(case v=>exact rfl)
 case nt=>intro p;kernel_rfl
 case F=>
  intro w mg fa h KX G hmg;refine' K24.all_mk KX G hmg ?h20 ?h21 ?h22 ?h23 ?h34 ?h35 ?h36 ?h37 ?h38 ?h39 ?h40 ?h41 ?h42 ?h43 ?h44 ?h48 ?h49 ?h50 ?h51 ?h52 ?h54 ?h55 ?h56 ?h57 ?h58 ?h59 ?h60 ?h61 ?h62 ?h63 ?h64 ?h66 ?h67 ?h68 ?h69 ?h70 ?h71 ?h73 ?h74 ?h75 ?h76 ?h77 ?h78 ?h79 ?h80 ?h81 ?h83 ?h84 ?h85 ?h86 ?h87 ?h88 ?h89 ?h90 ?h91 ?h92 ?h93 ?h94 ?h95 ?h96 ?h97 ?h98 ?h99 ?h100 ?h101 ?h102 ?h103 ?h104 ?h105 ?h106 ?h107 ?h108 ?aL ?lL ?cL ?kL ?n0 ?n1 ?n2 ?n3 ?n4 ?n5 ?n6 ?n7 ?n8 ?n9 ?n10 ?z0 ?z1 ?z2 ?z3 ?z4 ?z5 ?z6 ?z7 ?z8 ?z9 ?z10 ?z11 ?z12 ?z13 ?z14 ?z15 ?z16 ?k0 ?k1 ?k2 ?k3 ?k4 ?k5 ?k6 ?k7 ?k8 ?k9 ?k10 ?k11 ?k12 ?k13 ?k14 ?k15 ?k16 ?k17 ?e3 ?d3 ?e5 ?d5 ?tb;case h20|h21|h22|h23|h34|h35|h36|h37|h38|h39|h40|h41|h42|h43|h44|h48|h49|h50|h51|h52|h54|h55|h56|h57|h58|h59|h60|h61|h62|h63|h64|h66|h67|h68|h69|h70|h71|h73|h74|h75|h76|h77|h78|h79|h80|h81|h83|h84|h85|h86|h87|h88|h89|h90|h91|h92|h93|h94|h95|h96|h97|h98|h99|h100|h101|h102|h103|h104|h105|h106|h107|h108=>refine' K24.has_mk ?a ?l ?c ?k;case a|l|c|k=>k_is
  case aL|lL|cL|kL|n0|n1|n2|n3|n4|n5|n6|n7|n8|n9|n10|z0|z1|z2|z3|z4|z5|z6|z7|z8|z9|z10|z11|z12|z13|z14|z15|z16|k0|k1|k2|k3|k4|k5|k6|k7|k8|k9|k10|k11|k12|k13|k14|k15|k16|k17=>k_is
  case e3|d3|e5|d5=>kernel_rfl
  case tb=>refine' K24.tab_mk ?a ?l ?c ?m ?v;(case a=>k_is);(case l=>k_is);(case c=>exact rfl);(case m=>k_is);(case v=>exact rfl)
