import PyProof.Rows.All
import Wide.All
import OpenK.AllK
import Wide.FinOn
import Lean
import PyProof.EqAt
import PyProof.EqKinds
import PyProof.TupleCall
import PyProof.StrLawsRepr
import PyProof.ZipIter
import PySem.Challenge.RW_woolyears_k60_what_a_promise_moves
import PyProof.Rows.SortRunsK
import PyProof.AttrMissHeap
import PyProof.SeqRoads
import PyProof.ListOps
import PyProof.SetKind
import KE.KDictList
import PyProof.TupleKey
import PyProof.DictUpdate
import PyProof.Rows.SetFrom
import PyProof.FactsAll.subtypes_5
import PyProof.FactsAll.set_1
import PyProof.FactsAll.set_2
import PyProof.DictWalks
import KE.KItemsList
import PyProof.ListNew
import KE.KDictOf
import PyProof.ListRange
import PyProof.Rows.SortWalk
set_option compiler.extract_closed false
set_option Elab.async false
set_option linter.all false
set_option maxRecDepth 100000
set_option maxHeartbeats 4000000
local macro_rules|`(tactic|show $t)=>`(tactic|refine $t)
set_option hygiene false
local macro_rules
|`(tactic|show`e)=>`(tactic|(show aF λc_ ab=>?_))
|`(tactic|show`k)=>`(tactic|(intro X hP hw hK hc i Á s σ H E I hf st hg;subst hP hw hK))
local macro_rules
|`(`a)=>`(model prog w)
|`(`b)=>`(λav A outer s H vs Q E hr h=>?_)
|`(`c)=>`(É X Á σ H s)
|`(`d)=>`(model X.prog X.w)
|`(`f)=>`((aK ps ss i y++aN ps ow i).zip (Ę (c.getD i 0+(Ý c ps ss ow y i).d) (aK ps ss i y) (aN ps ow i)))
|`(`g)=>`(.ref s.heap.objs.size)
|`(`h)=>`(Array Keyed)
|`(`i)=>`(⟨_,O⟩)
|`(`j)=>`(by decide+kernel)
|`(`l)=>`({s with heap:=h'})
theorem O{α:Sort _}{a:α}:a=a:=rfl
noncomputable section
abbrev Ry:=PySem.Value->PySem.Shared->Prop
abbrev UW:=PySem.Str->Option PySem.Value
abbrev gV:=List (PySem.Addr×PySem.Obj)
abbrev Ś:=PyProof.Rows.KeyKind
abbrev Ż:=List PySem.PyData
abbrev ó:=List PySem.Value
abbrev Qa3:=Array PySem.Value
abbrev Qa4:=List PySem.Expr
abbrev Đ:=List PySem.Str
abbrev ø:=List PySem.Addr
def Þ:=@PyProof.Rows.wpS_bind
def ã:=@PyProof.Rows.wpS_pure
def Η:=@PySem.wpAny_newObj_type
def ĸ:=@List.mem_singleton
def ı:=@List.mem_range
def ň:=@List.pairwise_map
def ŵ:=@List.getElem?_toArray
def ź:=@List.pairwise_append
def θ:=@List.take_of_length_le
def Ŵ:=@List.filter_append
def η:=@List.getElem?_eq_none
def ϲ:=@List.pairwise_iff_getElem
def Ζ:=@List.mem_cons_self
def Ϗ:=@List.length_filter_le
def ώ:=@List.mem_cons_of_mem
def ϱ:=@Array.getElem?_toList
def Ε:=@List.all_eq_true
def ύ:=@Array.toList_append
def ζ:=@List.length_drop
def š:=@List.sum_cons
def ř:=@Nat.le_trans
def Zav:=@List.mem_append_left
def Zaw:=@List.getElem_of_mem
def ϰ:=@Nat.lt_succ_self
def Zay:=@List.length_range
def Zaz:=@List.mem_of_mem_take
def Θ:=@Nat.ne_of_gt
def ϴ:=@List.of_mem_zip
def Za2:=@List.take_sublist
def Za3:=@List.drop_sublist
def Za4:=@List.getElem?_of_mem
def Za5:=@Option.map_eq_some_iff
def ϳ:=@List.nodup_nil
def Za7:=@List.nodup_cons
def Za8:=@Array.getElem?_eq_getElem
def Za9:=@List.nodup_append
def Zba:=@Bool.not_eq_true'
def Zbb:=@List.perm_append_comm
def ϯ:=@Nat.lt_irrefl
def Zbd:=@List.getElem?_cons_succ
def Zbe:=@List.getElem_take
def Zbf:=@List.filter_congr
def Zbg:=@List.mergeSort_perm
def Zbh:=@List.drop_eq_getElem_cons
def Zbi:=@List.getElem?_take_of_lt
def Zbj:=@List.foldl_append
def Ϯ:=@Int.le_refl
def Zbl:=@List.map_congr_left
def Zbm:=@List.drop_of_length_le
def Zbn:=@Nat.lt_or_ge
def Zbo:=@List.filter_filter
def Zbp:=@List.singleton_append
def Zbq:=@List.getElem?_zip_eq_some
def Zbr:=@List.mem_of_mem_drop
def Zbs:=@Nat.not_lt_zero
def Zbt:=@List.length_set
def Zbu:=@List.length_nil
def Zbv:=@List.filter_nil
def Zbw:=@List.ext_getElem?
def Zbx:=@Nat.sub_self
def Zby:=@Nat.le_of_lt
def Zbz:=@List.filterMap_cons
def Zb0:=@List.length_eq_zero_iff
def Zb1:=@List.filter_eq_nil_iff
def Zb2:=@List.zip_cons_cons
def Zb3:=@Int.emod_lt_of_pos
def Zb4:=@Nat.lt_trichotomy
def Zb5:=@Array.perm_iff_toList_perm
def Zb6:=@List.take_zero
def Zb7:=@List.nodup_range
def Zb8:=@List.any_eq_true
def Zb9:=@List.map_id
def Zca:=@Nat.zero_add
def Zcb:=@Option.isSome_iff_exists
def Zcc:=@Array.size_setIfInBounds
def Zcd:=@Bool.true_and
def Zce:=@List.nil_append
def Zcf:=@List.foldl_cons
def Zcg:=@Int.emod_nonneg
def Zch:=@List.mem_filterMap
def Zci:=@List.getElem?_drop
def Zcj:=@List.pairwise_mergeSort
def Zck:=@List.filter_append_perm
def Zcl:=@List.getElem?_set_self
abbrev ī:PySem.Str:="_law_state_here"
abbrev ł:PySem.Str:="_law_promises"
abbrev ż:PySem.Str:="_law_script"
abbrev Ϻ:PySem.Str:="_law_clips_here"
abbrev ū:PySem.Str:="_law_year"
abbrev Ω:PySem.Str:="_law_sales"
abbrev AAg:PySem.Str:="_law_years_here"
abbrev Ū:PySem.Str:="_law_one"
abbrev υ:PySem.Str:="_law_sacks"
abbrev AAj:PySem.Str:="_law_rows_here"
abbrev AAk:PySem.Str:="_law_number"
abbrev Ϲ:PySem.Str:="_law_sort"
abbrev AAm:PySem.Str:="_law_found"
abbrev AAn:PySem.Str:="_law_most"
abbrev AAo:PySem.Str:="_law_holder"
abbrev AAp:PySem.Str:="_law_many"
abbrev AAq:PySem.Str:="_law_lacks"
abbrev AAr:PySem.Str:="_law_choice"
abbrev AAs:PySem.Str:="_law_k"
abbrev AAt:PySem.Str:="_law_due"
abbrev AAu:PySem.Str:="_law_promise"
abbrev AAv:PySem.Str:="_law_weights"
abbrev AAw:PySem.Str:="_law_some"
abbrev UV:=List (List Int)
abbrev VV:=List Int
theorem À{p:Prop}(h:p:=by lia):p:=h
theorem Õ{p:Prop}(h:p:=by simp):p:=h
theorem á{p:Prop}(h:p:=by decide):p:=h
theorem ž{p:Prop}(h:p:=by decide+kernel):p:=h
theorem ϟ{p:Prop}(h:p:=by rw[sizeLine_eq];lia):p:=h
def Ĥ:=@decide_eq_true_eq
open PySem.W (Frag)
def ç:=@decide_eq_true
def Ã:=@PySem.wpAny_bind
def ï:=@PySem.W.mg_none_of
def ò:=@PySem.Heap.get?_push_of_some
def Ç:=@if_neg
def Ê:=@if_pos
def Ì:=@PySem.wpAny_pure
def č:=@decide_eq_false
def î:=@PySem.Heap.lt_size
def Ļ:=@List.mem_append_right
def ń:=@List.mem_of_getElem?
def Ģ:=@PySem.Heap.get?_push_size
def Ů:=@List.getElem?_append_right
def ŭ:=@List.getElem?_append_left
def Ń:=@PySem.PassesOwn.never
def ŕ:=@of_decide_eq_true
def δ:=@List.filter_cons_of_neg
def μ:=@List.filter_cons_of_pos
def Ŭ:=@Nat.lt_of_lt_of_le
def ĵ:=@Nat.ne_of_lt
def γ:=@List.take_append_drop
def zBe:=@PySem.F.plainAttrs_list
def zBf:=@PySem.F.type_list_append
def zBg:=@PySem.F.slot_list_append
def Ô:=@List.getElem?_eq_getElem
def Ï:=@List.length_map
def à:=@List.length_append
def Ø:=@Nat.le_refl
def é:=@List.map_append
def Ù:=@List.mem_map
def è:=@List.mem_append
def ě:=@List.getD_eq_getElem?_getD
def ă:=@List.size_toArray
def Ğ:=@Array.length_toList
def ĉ:=@List.getElem?_eq_some_iff
def ì:=@List.getElem?_map
def ŉ:=@Bool.and_eq_true
def ė:=@List.length_take
def İ:=@List.length_cons
def Ġ:=@List.append_assoc
def Ō:=@Bool.false_ne_true
def ĕ:=@List.getElem_mem
def Ž:=@Int.toNat_natCast
def ġ:=@List.take_add_one
def Ľ:=@List.map_cons
def ģ:=@Option.some.inj
def Ņ:=@List.take_length
def Ĕ:=@List.append_nil
def ļ:=@List.mem_cons
def Ė:=@Nat.zero_le
def ķ:=@List.mem_filter
def Ě:=@List.map_map
def ν:=@List.length_zip
namespace L2
open PySem PySem.Spec PyProof.Rows
abbrev Key:=Sum Int Str
def oR:Key->Value->Bool|.inl k,v=>Value.isInt k v|.inr x,v=>Value.isStrOf x v
def PQ(w:World):Key->Int|.inl k=>hashInt k|.inr x=>hashStr w x
theorem cu:∀{k:Key}{v:Value},oR k v=true->(∃i t,k=Sum.inl i/\v=Value.int i t)\/(∃x t,k=Sum.inr x/\v=Value.str x t)|.inl i,v,h=>by obtain⟨t,e⟩:=Value.isInt_shape (k:=i) (v:=v) h;exact .inl ⟨i,t,O,e⟩;|.inr x,v,h=>by obtain⟨t,e⟩:=Value.isStrOf_shape (x:=x) (v:=v) h;show .inr ⟨x,t,O,e⟩
theorem Ce(i:Int)(t:Tok):oR (.inl i) (.int i t)=true:=by simp[oR,Value.isInt]
theorem Cg(x:Str)(t:Tok):oR (.inr x) (.str x t)=true:=by simp[oR,Value.isStrOf]
theorem KC(a b:Int):decide ((Sum.inl a:Key)=Sum.inl b)=(a==b):=by grind
theorem KD(a b:Str):decide ((Sum.inr a:Key)=Sum.inr b)=decide (a=b):=by simp
theorem KH(a:Int)(b:Str):decide ((Sum.inl a:Key)=Sum.inr b)=false:=č (λq=>nomatch q)
theorem KJ(a:Str)(b:Int):decide ((Sum.inr a:Key)=Sum.inl b)=false:=č (λq=>nomatch q)
def aZ(prog:Program)(w:World):PySem.KeyKind prog w Key where
 is:=oR;hash:=PQ w;inj:=λv a b ha hb=>by
  rcases cu ha with⟨i,t,rfl,rfl⟩|⟨x,t,rfl,rfl⟩
  .rcases cu hb with⟨j,u,rfl,e⟩|⟨y,u,rfl,e⟩;.injection e with e1 _;rw[e1]
   .exact nomatch e
  .rcases cu hb with⟨j,u,rfl,e⟩|⟨y,u,rfl,e⟩;.exact nomatch e
   .injection e with e1 _;rw[e1]
 byValue:=λk v h=>by rcases cu h with⟨i,t,rfl,rfl⟩|⟨x,t,rfl,rfl⟩<;>rfl
 pyHash:=λhv h=>by
  rcases cu hv with⟨i,t,rfl,rfl⟩|⟨x,t,rfl,rfl⟩;.exact wpAny_pyHash_int h
  .exact wpAny_pyHash_str h
 eqBool:=λhu hv h=>by
  rcases cu hu with⟨i,t,rfl,rfl⟩|⟨x,t,rfl,rfl⟩
  .rcases cu hv with⟨j,u,rfl,rfl⟩|⟨y,u,rfl,rfl⟩;.rw[KC]at h;show wpAny_eqBool_int h
   .rw[KH]at h;show SeqAt.EqAt.int_str i t y u _ _ _ _ h
  .rcases cu hv with⟨j,u,rfl,rfl⟩|⟨y,u,rfl,rfl⟩;.rw[KJ]at h;show SeqAt.EqAt.str_int x t j u _ _ _ _ h
   .rw[KD]at h;show wpAny_eqBool_str h
 «strs»:=λk x t v h=>by
  rcases cu h with⟨i,u,rfl,e⟩|⟨y,u,rfl,e⟩;.exact nomatch e
  .injection e with e1 _;subst e1;cases v<;>rfl
theorem vJ(prog:Program)(w:World)(i:Int)(t:Tok):(aZ prog w).is (.inl i) (.int i t)=true:=Ce i t
theorem vK(prog:Program)(w:World)(x:Str)(t:Tok):(aZ prog w).is (.inr x) (.str x t)=true:=Cg x t
inductive V where|non|bl(b:Bool)|int(i:Int)|str(x:Str)|byt(b:Array UInt8)|flt(b:UInt64)|ref(a:Addr)|ty(n:String)deriving DecidableEq
def Ò:V->Value->Prop|.non,u=>u=Value.none|.bl b,u=>u=Value.bool b|.int i,u=>∃t,u=Value.int i t|.str x,u=>∃t,u=Value.str x t|.byt b,u=>∃t,u=Value.bytes b t|.flt b,u=>∃t,u=Value.float b t|.ref a,u=>u=Value.ref a|.ty n,u=>u=Value.type n
abbrev Î:List V->ó->Prop:=Paired Ò
theorem Î.length(r:Î xs us):xs.length=us.length:=Paired.length r
theorem Î.get:∀{xs:List V}{us:ó}{i:Nat}{x:V},Î xs us->xs[i]?=some x->∃u,us[i]?=some u/\Ò x u|_,_,_,_,.nil,e=>by simp at e;|_,_,0,_,.cons r _,e=>by simp at e;subst e;exact⟨_,O,r⟩;|_,_,i+1,x,.cons _ t,e=>by obtain⟨u,h1,h2⟩:=Î.get (i:=i) (x:=x) t (by simpa using e);show⟨u,by simpa using h1,h2⟩
theorem Î.set(r:Ò x u):∀{xs:List V}{us:ó}i,Î xs us->Î (xs.set i x) (us.set i u)|_,_,_,.nil=>.nil|_,_,0,.cons _ t=>.cons r t|_,_,i+1,.cons q t=>.cons q (Î.set r i t)
theorem Î.append:∀{xs ys:List V}{us ws:ó},Î xs us->Î ys ws->Î (xs++ys) (us++ws)|_,_,_,_,.nil,s=>s|_,_,_,_,.cons r t,s=>.cons r (Î.append t s)
theorem Î.take:∀{xs:List V}{us:ó}n,Î xs us->Î (xs.take n) (us.take n)|_,_,0,_=>.nil|_,_,_+1,.nil=>.nil|_,_,n+1,.cons r t=>.cons r (Î.take n t)
theorem Î.drop:∀{xs:List V}{us:ó}n,Î xs us->Î (xs.drop n) (us.drop n)|_,_,0,r=>r|_,_,_+1,.nil=>.nil|_,_,n+1,.cons _ t=>Î.drop n t
def Ł:Option V->Option Value->Prop|some v,some u=>Ò v u|none,none=>True|_,_=>False
def KV:List (κ×V)->List (κ×Value)->Prop:=Paired λp q=>p.1=q.1/\Ò p.2 q.2
def kV:Key->V|.inl i=>.int i|.inr x=>.str x
inductive HO where|lst(xs:List V)|tup(xs:List V)|dK(Ä:List (Key×V))|dT(Ä:List (List Key×V))|set(S:Int->Bool)(n:Nat)|ins(C dx:Addr)(fs:List (Str×V))|own(x:Addr)|xd(fs:List (Str×V))|met(f x:Addr)|rng(lo hi:Int)|frz(o:Obj)(u:HO)|tbl(ps:Qa3)|ext(φ:Heap->Prop)
abbrev Hp:=Addr->Option HO
def upd(H:Hp)(a:Addr)(o:HO):Hp:=λb=>if b=a then some o else H b
theorem aa:upd H a o a=some o:=by unfold upd;rw[Ê O]
theorem au(h:b≠a):upd H a o b=H b:=by unfold upd;rw[Ç h]
theorem K5{H:Hp}(h:H a=some o)(h':H b=some u)(d:o≠u):a≠b:=by intro e;subst e;rw[h]at h';show d (ģ h')
theorem az{H:Hp}(h:H a=some o)(h':H b=none):a≠b:=by intro e;subst e;rw[h]at h';cases h'
section
variable(P:Program)(w:World)
def Ö(H:Hp)(h:Heap)(a:Addr):HO->Prop|.lst xs=>xs.length<=sizeLine/\∃È n,Î xs È/\h.get? a=some {cls:=.type "list",data:=.seq È.toArray n}|.tup xs=>xs.length<=sizeLine/\∃È,Î xs È/\IsTup h a È.toArray|.dK Ä=>Ä.length<=sizeLine/\(a==sysModules)=false/\∃vs,KV Ä vs/\h.DictOf (aZ P w) a vs|.dT Ä=>Ä.length<=sizeLine/\(a==sysModules)=false/\∃xs,Paired (λp q=>p.1=q.1/\H q.2.1=some (.tup (p.1.map kV))/\Ò p.2 q.2.2) Ä xs/\∃o es ep,h.get? a=some o/\o.ExactDict/\o.data=.dict es ep/\es.toList=xs.map (entryOfKey (tupleKind (aZ P w)))/\(xs.map (·.1)).Nodup|.set S n=>h.SetOf (intKind P w) a S n|.ins C dx fs=>H dx=some (.own a)/\fs.length<=1000/\dx≠a/\h.get? a=some (PySem.W.instObj C dx)/\∃mA,h.Ns1 dx mA/\(∀f,Ł (fs.lookup f) (mA f))/\PySem.Within mA (fs.map (·.1))|.own _=>∃o,h.get? a=some o|.xd fs=>∃mA,h.Ns1 a mA/\∀f,Ł (fs.lookup f) (mA f)|.rng lo hi=>∃t u v,h.get? a=some {cls:=.type "range",data:=.fields #[.int lo t,.int hi u,.int 1 v]}|.frz o u=>h.get? a=some o/\Ö H h a u|.tbl ps=>h.get? a=some {cls:=.none,data:=.fields ps}|.met f x=>h.get? a=some (PySem.W.methodObj (.ref f) (.ref x))|.ext φ=>φ h/\(∃o,h.get? a=some o)/\∀h1 h2,φ h1->(∀o,h1.get? a=some o->h2.get? a=some o)->φ h2
def Ĳ(H:Hp)(h:Heap):Prop:=∀a o,H a=some o->Ö P w H h a o
end
section
variable{a:Addr}
theorem Ö.lt(x:Ö P w H h a o):a<h.objs.size:=by cases o with|lst xs=>obtain⟨_,_,_,_,e⟩:=x;exact î e;|tup xs=>obtain⟨_,_,_,p⟩:=x;exact p.lt;|dK Ä=>obtain⟨_,_,_,_,o,_,_,e,_⟩:=x;exact î e;|dT Ä=>obtain⟨_,_,_,_,o,_,_,e,_⟩:=x;exact î e;|set S n=>obtain⟨o,_,_,_,e,_⟩:=x;exact î e;|ins C dx fs=>obtain⟨_,_,_,e,_⟩:=x;exact î e;|own y=>obtain⟨_,e⟩:=x;exact î e;|xd fs=>obtain⟨_,⟨_,_,_,e,_⟩,_⟩:=x;exact î e;|rng lo hi=>obtain⟨_,_,_,e⟩:=x;exact î e;|frz ob u=>obtain⟨e,_⟩:=x;exact î e;|tbl ps=>exact î (x);|met f y=>exact î (x);|ext φ=>obtain⟨_,⟨_,e⟩,_⟩:=x;show î e
theorem Paired.mapP:∀{l₁:List α}{Cs:List β},Paired F l₁ Cs->(∀a b,F a b->G a b)->Paired G l₁ Cs|_,_,.nil,_=>.nil|_,_,.cons r t,f=>.cons (f _ _ r) (Paired.mapP t f)
theorem Ö.stay(x:Ö P w H h a o)(k:∀b u,(b=a\/H b=some (.own a))->h.get? b=some u->h'.get? b=some u)(ho:∀b,H b=some (.own a)->H' b=some (.own a))(ht:∀b xs,H b=some (.tup xs)->H' b=some (.tup xs)):Ö P w H' h' a o:=by induction o with|lst xs=>obtain⟨z,È,n,r,e⟩:=x;exact⟨z,È,n,r,k _ _ (.inl O) e⟩;|tup xs=>obtain⟨z,È,r,ob,e,c⟩:=x;exact⟨z,È,r,ob,k _ _ (.inl O) e,c⟩;|dK Ä=>obtain⟨z,y,vs,r,ob,es,ep,e,c⟩:=x;exact⟨z,y,vs,r,ob,es,ep,k _ _ (.inl O) e,c⟩;|dT Ä=>obtain⟨z,y,xs,r,ob,es,ep,e,c⟩:=x;exact⟨z,y,xs,Paired.mapP r λp q z=>⟨z.1,ht _ _ z.2.1,z.2.2⟩,ob,es,ep,k _ _ (.inl O) e,c⟩;|set S n=>obtain⟨ob,es,ep,t,e,c⟩:=x;exact⟨ob,es,ep,t,k _ _ (.inl O) e,c⟩;|ins C dx fs=>obtain⟨d,z,ne,e,mA,⟨od,es,ep,e2,c⟩,r⟩:=x;exact⟨ho _ d,z,ne,k _ _ (.inl O) e,mA,⟨od,es,ep,k _ _ (.inr d) e2,c⟩,r⟩;|own y=>obtain⟨ob,e⟩:=x;exact⟨ob,k _ _ (.inl O) e⟩;|xd fs=>obtain⟨mA,⟨od,es,ep,e,c⟩,r⟩:=x;exact⟨mA,⟨od,es,ep,k _ _ (.inl O) e,c⟩,r⟩;|rng lo hi=>obtain⟨t,u,v,e⟩:=x;exact⟨t,u,v,k _ _ (.inl O) e⟩;|frz ob u ih=>obtain⟨e,q⟩:=x;exact⟨k _ _ (.inl O) e,ih q⟩;|tbl ps=>have e:h.get? a=some {cls:=.none,data:=.fields ps}:=x;exact k a _ (.inl O) e;|met f y=>have e:h.get? a=some (PySem.W.methodObj (.ref f) (.ref y)):=x;exact k a _ (.inl O) e;|ext φ=>obtain⟨p,⟨o,e⟩,st⟩:=x;show⟨st _ _ p λo q=>k _ _ (.inl O) q,⟨o,k _ _ (.inl O) e⟩,st⟩
theorem Ĳ.lt(x:Ĳ P w H h)(e:H a=some o):a<h.objs.size:=(x a o e).lt
theorem Ĳ.fresh(x:Ĳ P w H h)(e:h.objs.size<=a):H a=none:=by cases q:H a with|none=>rfl;|some u=>show absurd (Ŭ (x.lt q) e) (ϯ _)
theorem Ĳ.kept(x:Ĳ P w H h)(k:∀b u,h.get? b=some u->h'.get? b=some u):Ĳ P w H h':=λa o e=>(x a o e).stay (λb u _ q=>k b u q) (λ_ q=>q) λ_ _ q=>q
theorem Ĳ.laid(x:Ĳ P w H h)(k:∀b u,h.get? b=some u->h'.get? b=some u)(hp:h.objs.size<=a)(new:Ö P w (upd H a o) h' a o):Ĳ P w (upd H a o) h':=λb u e=>by
 have hn:=x.fresh hp;by_cases hb:b=a;.subst hb;rw[aa]at e;cases e;show new
 .rw[au hb]at e;show(x b u e).stay (λc v _ q=>k c v q) (λc q=>by rw[au (az q hn)];show q) λc xs q=>by rw[au (az q hn)];show q
end
def Rd(H:Hp)(a:Addr)(u:HO):Prop:=H a=some u\/∃o,H a=some (.frz o u)
theorem Rd.ok(r:Rd H a u)(x:Ĳ P w H h):Ö P w H h a u:=by
 rcases r with r|⟨o,r⟩;.exact x a u r
 .obtain⟨_,q⟩:=x a _ r;show q
def Mut:Option HO->Prop|some (.lst _)=>True|some (.dK _)=>True|some (.dT _)=>True|some (.set _ _)=>True|some (.ins _ _ _)=>True|some (.ext _)=>True|_=>False
section
theorem Ĳ.write(ok:Ĳ P w H h)(mu:Mut (H x))(he:e=x\/H e=some (.own x))(k:∀b u,b≠e->h.get? b=some u->h'.get? b=some u)(AY:∃u,h'.get? e=some u)(new:Ö P w (upd H x o') h' x o'):Ĳ P w (upd H x o') h':=λb u q=>by
 have Ct:∀c y,H c=some (.own y)->c≠x:=λc y r z=>by subst z;rw[r]at mu;show mu
 have IZ:∀c xs,H c=some (.tup xs)->c≠x:=λc xs r z=>by subst z;rw[r]at mu;show mu
 by_cases hb:b=x;.subst hb;rw[aa]at q;cases q;show new
 .rw[au hb]at q;by_cases CA:b=e
  .have q':H b=some (.own x):=by grind
   rw[q]at q';cases q';obtain⟨v,hv⟩:=AY;show⟨v,by rw[CA];show hv⟩
  .refine(ok b u q).stay (λc v hc r=>k c v ?_ r) (λc r=>by rw[au (Ct c b r)];show r) λc xs r=>by rw[au (IZ c xs r)];show r
   rcases hc with rfl|hc;.exact CA
   .rintro rfl;rcases he with z|z;.exact Ct c b hc z
    .rw[hc]at z;cases z;show hb O
end
structure Un(fs ex:ø)(H H':Hp)(h h':Heap):Prop where
 keep:∀b o,h.get? b=some o->H b=none->b∉fs->b∉ex->h'.get? b=some o
 slot:∀b o,h.get? b=some o->H b=none->b∈fs->b∉ex->∃sl,h'.get? b=some {o with slots:=sl}free:∀b o,h.get? b=some o->H b=none->b∉ex->H' b=none
 there:∀b o,h.get? b=some o->b∉ex->∃o',h'.get? b=some o'
 tups:∀b xs,H b=some (.tup xs)->H' b=some (.tup xs)frzs:∀b o u,H b=some (.frz o u)->H' b=some (.frz o u)tbls:∀b ps,H b=some (.tbl ps)->∃more,H' b=some (.tbl (ps++more))
section
variable{h h1 h2 h':Heap}{a x e:Addr}
theorem Un.any(u:Un fs ex H H1 h h1)(q:h.get? b=some ob)(n:H b=none)(hx:b∉ex):∃sl,h1.get? b=some {ob with slots:=sl}:=by
 by_cases hb:b∈fs;.exact u.slot b ob q n hb hx
 .exact⟨ob.slots,u.keep b ob q n hb hx⟩
theorem Un.kept(k:∀b u,h.get? b=some u->h'.get? b=some u):Un fs ex H H h h':=⟨λb ob q _ _ _=>k b ob q,λb ob q _ _ _=>⟨ob.slots,k b ob q⟩,λ_ _ _ n _=>n,λb ob q _=>⟨ob,k b ob q⟩,λ_ _ q=>q,λ_ _ _ q=>q,λ_ ps q=>⟨#[],by rw[q];simp⟩⟩
theorem Un.refl:Un fs ex H H h h:=Un.kept λ_ _ q=>q
theorem Un.laid(k:∀b u,h.get? b=some u->h'.get? b=some u)(hp:h.objs.size<=a)(hn:H a=none):Un fs ex H (upd H a o) h h' where
 keep:=λb u q _ _ _=>k b u q;slot:=λb u q _ _ _=>⟨u.slots,k b u q⟩;free:=λb u q n _=>by rw[au (ĵ (Ŭ (î q) hp))];show n
 there:=λb u q _=>⟨u,k b u q⟩;tups:=λb xs q=>by rw[au (az q hn)];show q
 frzs:=λb u xs q=>by rw[au (az q hn)];show q
 tbls:=λb ps q=>⟨#[],by rw[au (az q hn),q];simp⟩
theorem Un.write(mu:Mut (H x))(he:e=x\/H e=some (.own x))(k:∀b u,b≠e->h.get? b=some u->h'.get? b=some u)(AY:∃u,h'.get? e=some u):Un fs ex H (upd H x o) h h':=by
 have hx:∀b,H b=none->b≠x:=λb n z=>by subst z;rw[n]at mu;show mu
 have hb:∀b,H b=none->b≠e:=λb n z=>by
  subst z;rcases he with r|r;.exact hx b n r
  .rw[n]at r;cases r
 have hm:∀b u,H b=some u->¬Mut (some u)->b≠x:=λb u q nm z=>by subst z;rw[q]at mu;show nm mu
 show⟨λb u q n _ _=>k b u (hb b n) q,λb u q n _ _=>⟨u.slots,k b u (hb b n) q⟩,λb u q n _=>by rw[au (hx b n)];show n,λb u q _=>?_,λb xs q=>by rw[au (hm b _ q λz=>z)];show q,λb u xs q=>by rw[au (hm b _ q λz=>z)];show q,λb ps q=>⟨#[],by rw[au (hm b _ q λz=>z),q];simp⟩⟩;by_cases CA:b=e;.subst CA;show AY
 .exact⟨u,k b u CA q⟩
end
def trk(h:Heap)(H:Hp):ø:=(List.range h.objs.size).filter λa=>(H a).isSome
def uo(h:Heap)(H:Hp):Heap:=PySem.W.hideAll h (trk h H)
theorem Ci(h:Heap)(H:Hp):(uo h H).objs.size=h.objs.size:=PySem.W.hideAll_size _ _
theorem DY(e:h.get? b=some o)(n:H b=none):(uo h H).get? b=some o:=PySem.W.hideAll_get _ e λhm=>by have q:(H b).isSome=true:=(ķ.mp hm).2;rw[n]at q;simp at q
theorem Im(e:(uo h H).get? b=some o):h.get? b=some o/\H b=none:=by have e':h.get? b=some o:=PySem.W.of_hideAll (trk h H) e;refine⟨e',?_⟩;cases q:H b with|none=>rfl;|some x=>have hm:b∈trk h H:=ķ.mpr ⟨ı.mpr (î e'),by simp[q]⟩;have z:(uo h H).get? b=none:=PySem.W.hideAll_none (trk h H) hm;rw[z]at e;cases e
structure Mod(K:Frag)(mg:UW)(base:Heap):Prop where
 kin:K.In base
 glob:base.Ns mainGlobals mg
 blt:∃mb,base.Ns builtinsNs mb/\∀x:Str,x≠"__name__"->mb x=bootBuiltins x
 nolimit:base.NoLimit
structure Cx where
 prog:Program
 w:World
 K:Frag
 mg:UW
 base:Heap
 A:Around
 N:Đ
 s₀:Shared
 H₀:Hp
 env:Env
 outer:List Env
 stack:List Env
 ex:ø
 fn:Str->Bool
 calm:Bool
 pn:gV
 xe:Ry
def Ź(l:List Env):ø:=l.filterMap (·.frame)
abbrev Cx.fs(X:Cx):ø:=Ź X.outer
def Vis(sc:Scope)(x:Str):Prop:=sc.names.lookup x=some .local\/sc.names.lookup x=some .cell\/sc.names.lookup x=some .free
def Loc(sc:Scope)(x:Str):Prop:=sc.names.lookup x=some .local\/sc.names.lookup x=some .cell
def Look(env:Env)(h:Heap)(m:UW)(x:Str)(u:Value):Prop:=(env.kindOf x=some .local/\m x=some u)\/((env.kindOf x=some .cell\/env.kindOf x=some .free)/\∃c,env.cells.lookup x=some c/\h.IsCell c (some u))
structure Cx.Ok(X:Cx):Prop where
 mod:Mod X.K X.mg X.base
 kind:X.env.scope.kind=.function
 glob:X.env.globals=mainGlobals
 blt:X.env.builtins=builtinsNs
 above:X.s₀.heap.objs.size<=X.env.locals
 inj:∀x y c,X.env.cells.lookup x=some c->X.env.cells.lookup y=some c->x=y
 has:∀x,(X.env.kindOf x=some .cell\/X.env.kindOf x=some .free)->∃c,X.env.cells.lookup x=some c
 cab:∀x c,X.fn x=true->X.env.cells.lookup x=some c->X.s₀.heap.objs.size<=c
 hd:X.calm=true->X.A.handled=none
 frames:X.A.frames=some X.stack
 stk:X.stack=X.outer\/(X.stack=X.env::X.outer/\X.env.frame=some X.env.locals)exf:∀b∈X.ex,b≠X.env.locals/\∀x c,X.env.cells.lookup x=some c->c≠b
 bs:∀b o,X.base.get? b=some o->X.s₀.heap.get? b=some o/\X.H₀ b=none
 bsz:X.base.objs.size<=X.s₀.heap.objs.size
 noex:∀b o,X.base.get? b=some o->b∉X.ex
 exfs:∀b∈X.ex,b∉X.fs
 funs:X.s₀.heap.FunFrames X.base X.outer
 frf:∀b∈X.fs,X.H₀ b=none
structure É(X:Cx)(Á:gV)(σ:List (Option V))(H:Hp)(s:Shared):Prop where
 ok:X.Ok
 os:s.os=X.s₀.os
 bare:AllBare s.gens
 base:Un X.fs X.ex X.H₀ H X.s₀.heap s.heap
 loc:∃m,s.heap.Ns X.env.locals m/\∀(i:Nat)x v,X.N[i]?=some x->σ[i]?=some (some v)->Vis X.env.scope x->∃u,Ò v u/\Look X.env s.heap m x u
 cell:∀x c,X.env.cells.lookup x=some c->∃v,s.heap.IsCell c v
 free:H X.env.locals=none
 freeC:∀x c,X.env.cells.lookup x=some c->H c=none
 pin:∀p∈X.pn++Á,s.heap.get? p.1=some p.2/\H p.1=none/\p.1≠X.env.locals/\p.1∉X.fs/\∀v,p.2.data≠.cell v
 hok:Ĳ X.prog X.w H s.heap
 len:σ.length=X.N.length
section
variable{X:Cx}
theorem Cx.Ok.nofr(ok:X.Ok)(e:X.base.get? b=some o):b∉X.fs:=λhb=>by have:=(ok.funs.mem hb).1;rw[e]at this;cases this
theorem É.bs(I:`c):∀b o,X.base.get? b=some o->s.heap.get? b=some o/\H b=none:=λb o e=>⟨I.base.keep b o (I.ok.bs b o e).1 (I.ok.bs b o e).2 (I.ok.nofr e) (I.ok.noex b o e),I.base.free b o (I.ok.bs b o e).1 (I.ok.bs b o e).2 (I.ok.noex b o e)⟩
theorem É.bk(I:`c):∀b o,X.base.get? b=some o->s.heap.get? b=some o:=λb o e=>(I.bs b o e).1
theorem É.mod(I:`c):Mod X.K X.mg X.base:=I.ok.mod
theorem É.kIn(I:`c):X.K.In s.heap:=I.ok.mod.kin.keeps I.bk
theorem É.lt(I:`c):X.env.locals<s.heap.objs.size:=by obtain⟨_,hn,_⟩:=I.loc;show hn.lt
theorem É.sz(I:`c):X.s₀.heap.objs.size<=s.heap.objs.size:=ř I.ok.above (Zby I.lt)
theorem É.nofs(I:`c){a:Addr}(h:s.heap.objs.size<=a):a∉X.fs:=λhb=>by obtain⟨_,o,ho,_⟩:=I.ok.funs.mem hb;show absurd (Ŭ (î ho) (ř I.sz h)) (ϯ _)
theorem É.cne(I:`c):∀x c,X.env.cells.lookup x=some c->c≠X.env.locals:=λx c e z=>by obtain⟨v,o,ho,hd⟩:=I.cell x c e;obtain⟨m,⟨o',es,ep,mw,F7,_⟩,_⟩:=I.loc;rw[z,mw]at ho;cases ho;rw[F7]at hd;cases hd
theorem É.funs(I:`c):s.heap.FunFrames X.base X.outer:=by
 have all:∀(l:List Env),(∀b∈Ź l,b∈X.fs)->X.s₀.heap.FunFrames X.base l->s.heap.FunFrames X.base l:=by intro l;induction l with|nil=>intro _ _;trivial;|cons env r ih=>intro hs hl;obtain⟨hk,⟨L,o,hf,hn,ho,hd⟩,hr⟩:=hl;have hL:L∈X.fs:=hs L (by unfold Ź;rw[Zbz,hf];show Ζ);obtain⟨sl,e⟩:=I.base.slot L o ho (I.ok.frf L hL) hL λz=>I.ok.exfs L z hL;show⟨hk,⟨L,_,hf,hn,e,hd⟩,ih (λb hb=>hs b (by unfold Ź;rw[Zbz,hf];show ώ _ hb)) hr⟩
 show all X.outer (λ_ hb=>hb) I.ok.funs
theorem É.stack(I:`c):s.heap.FunFrames X.base X.stack:=by
 rcases I.ok.stk with e|⟨e,hf⟩;.rw[e];show I.funs
 .rw[e];obtain⟨m,hn,_⟩:=I.loc;show .cons (by rw[I.ok.kind];decide) hf hn ?_ I.funs;show Heap.get?_none_of_le (ř I.ok.bsz I.ok.above)
theorem É.stkSub(I:`c):∀b∈Ź X.stack,b∈X.env.locals::X.fs:=λb hb=>by
 rcases I.ok.stk with e|⟨e,hf⟩;.rw[e]at hb;show ώ _ hb
 .rw[e]at hb;unfold Ź at hb;rw[Zbz,hf]at hb;show hb
theorem É.stkFree(I:`c):∀b∈Ź X.stack,H b=none:=λb hb=>by
 rcases ļ.mp (I.stkSub b hb)with e|hb;.rw[e];show I.free
 .obtain⟨_,o,ho,_⟩:=I.ok.funs.mem hb;show I.base.free b o ho (I.ok.frf b hb) λz=>I.ok.exfs b z hb
theorem É.step{ch:ø}(I:`c)(qa:∀b∈ch,(b∈X.ex\/X.s₀.heap.objs.size<=b)/\b≠X.env.locals/\(∀x c,X.env.cells.lookup x=some c->c≠b)/\∀p∈X.pn++Á,p.1≠b)(keep:∀b o,b≠X.env.locals->b∉X.fs->b∉ch->s.heap.get? b=some o->H b=none->h'.get? b=some o)(slot:∀b o,b≠X.env.locals->b∈X.fs->b∉ch->s.heap.get? b=some o->H b=none->∃sl,h'.get? b=some {o with slots:=sl})(free:∀b o,b∉ch->s.heap.get? b=some o->H b=none->H' b=none)(there:∀b o,b∉ch->s.heap.get? b=some o->∃o',h'.get? b=some o')(tups:∀b xs,H b=some (.tup xs)->H' b=some (.tup xs))(frzs:∀b o u,H b=some (.frz o u)->H' b=some (.frz o u))(tbls:∀b ps,H b=some (.tbl ps)->∃more,H' b=some (.tbl (ps++more)))(ns:∀m,s.heap.Ns X.env.locals m->h'.Ns X.env.locals m)(hok:Ĳ X.prog X.w H' h')(hg:AllBare g'):É X Á σ H' {s with heap:=h',gens:=g',drawn:=d',toks:=t'}:=by
 have Ro:∀b o,X.s₀.heap.get? b=some o->b≠X.env.locals:=λb o e=>ĵ (Ŭ (î e) I.ok.above);have F9:∀b o,X.s₀.heap.get? b=some o->b∉X.ex->b∉ch:=λb o e hx hb=>by
  rcases(qa b hb).1 with z|z;.exact hx z
  .exact absurd (Ŭ (î e) z) (ϯ _)
 have cellK:∀x c,X.env.cells.lookup x=some c->∀v,s.heap.IsCell c v->h'.IsCell c v:=λx c e v hZ=>by
  obtain⟨o,ho,hd⟩:=hZ;have CB:c∉ch:=λz=>(qa c z).2.2.1 x c e O;by_cases hc:c∈X.fs;.obtain⟨sl,q⟩:=slot c o (I.cne x c e) hc CB ho (I.freeC x c e);show⟨_,q,hd⟩
  .exact⟨o,keep c o (I.cne x c e) hc CB ho (I.freeC x c e),hd⟩
 show⟨I.ok,I.os,hg,⟨λb o e n hb hx=>?_,λb o e n hb hx=>?_,λb o e n hx=>?_,λb o e hx=>?_,λb xs e=>tups b xs (I.base.tups b xs e),λb o xs e=>frzs b o xs (I.base.frzs b o xs e),λb ps e=>?_⟩,?_,λx c e=>?_,?_,λx c e=>?_,λp hp=>?_,hok,I.len⟩;.exact keep b o (Ro b o e) hb (F9 b o e hx) (I.base.keep b o e n hb hx) (I.base.free b o e n hx)
 .obtain⟨sl,e1⟩:=I.base.slot b o e n hb hx;obtain⟨JA,e2⟩:=slot b _ (Ro b o e) hb (F9 b o e hx) e1 (I.base.free b o e n hx);show⟨JA,e2⟩
 .obtain⟨o',e1⟩:=I.base.there b o e hx;show free b o' (F9 b o e hx) e1 (I.base.free b o e n hx)
 .obtain⟨o',e1⟩:=I.base.there b o e hx;show there b o' (F9 b o e hx) e1
 .obtain⟨m1,e1⟩:=I.base.tbls b ps e;obtain⟨m2,e2⟩:=tbls b _ e1;show⟨m1++m2,by rw[e2,Array.append_assoc]⟩
 .obtain⟨m,hn,hl⟩:=I.loc;show⟨m,ns m hn,λi x v e1 e2 e3=>?_⟩;obtain⟨u,r,l⟩:=hl i x v e1 e2 e3;show⟨u,r,?_⟩;rcases l with l|⟨k,c,e,z⟩;.exact .inl l
  .exact .inr ⟨k,c,e,cellK x c e _ z⟩
 .obtain⟨v,z⟩:=I.cell x c e;show⟨v,cellK x c e v z⟩
 .obtain⟨m,⟨o,_,_,ho,_⟩,_⟩:=I.loc;show free _ o (λz=>(qa _ z).2.1 O) ho I.free
 .obtain⟨v,o,ho,hd⟩:=I.cell x c e;show free c o (λz=>(qa c z).2.2.1 x c e O) ho (I.freeC x c e)
 .obtain⟨e,n,ne,nf,d⟩:=I.pin p hp;have CB:p.1∉ch:=λz=>(qa p.1 z).2.2.2 p hp O;show⟨keep p.1 p.2 ne nf CB e n,free p.1 p.2 CB e n,ne,nf,d⟩
theorem É.un(I:`c)(u:Un X.fs [] H H' s.heap h')(hok:Ĳ X.prog X.w H' h'):É X Á σ H' {s with heap:=h',toks:=t'}:=by obtain⟨m,⟨o,es,ep,ho,r⟩,_⟩:=id I.loc;obtain⟨sl,hL⟩:=u.any ho I.free Õ;show I.step (g':=s.gens) (d':=s.drawn) (ch:=[]) (λ_ z=>nomatch z) (λb o _ hb _ e n=>u.keep b o e n hb Õ) (λb o _ hb _ e n=>u.slot b o e n hb Õ) (λb o _ e n=>u.free b o e n Õ) (λb o _ e=>u.there b o e Õ) u.tups u.frzs u.tbls (λm' hm=>by obtain⟨o',ko,bE,mw,r'⟩:=hm;rw[ho]at mw;cases mw;show⟨_,ko,bE,hL,r'⟩) hok I.bare
theorem É.call(I:`c)(u:Un (Ź X.stack) ch H H' s.heap h')(hok:Ĳ X.prog X.w H' h')(hg:AllBare g')(qa:∀b∈ch,(b∈X.ex\/X.s₀.heap.objs.size<=b)/\b≠X.env.locals/\(∀x c,X.env.cells.lookup x=some c->c≠b)/\∀p∈X.pn++Á,p.1≠b):É X Á σ H' {s with heap:=h',gens:=g',drawn:=d',toks:=t'}:=by obtain⟨m,⟨o,es,ep,ho,r⟩,_⟩:=id I.loc;obtain⟨sl,hL⟩:=u.any ho I.free λz=>(qa _ z).2.1 O;show I.step (ch:=ch) qa (λb o hL hb hc e n=>u.keep b o e n (λz=>(ļ.mp (I.stkSub b z)).elim hL hb) hc) (λb o _ _ hc e n=>u.any e n hc) (λb o hc e n=>u.free b o e n hc) (λb o hc e=>u.there b o e hc) u.tups u.frzs u.tbls (λm' hm=>by obtain⟨o',ko,bE,mw,r'⟩:=hm;rw[ho]at mw;cases mw;show⟨_,ko,bE,hL,r'⟩) hok hg
theorem É.turned(I:`c)(k:∀b o,b≠it->s.heap.get? b=some o->h'.get? b=some o)(hn:H it=none)(hL:it≠X.env.locals)(h1:it∈X.ex\/X.s₀.heap.objs.size<=it)(h2:∀x c,X.env.cells.lookup x=some c->c≠it)(h3:∀p∈X.pn++Á,p.1≠it):É X Á σ H {s with heap:=h',toks:=t'}:=by
 have Rp:∀b u,H b=some u->b≠it:=λb u e z=>by rw[z,hn]at e;cases e
 show I.step (g':=s.gens) (d':=s.drawn) (ch:=[it]) (λb hb=>?_) (λb o _ _ hc e _=>k b o (λz=>hc (by simp[z])) e) (λb o _ _ hc e _=>⟨o.slots,k b o (λz=>hc (by simp[z])) e⟩) (λ_ _ _ _ n=>n) (λb o hc e=>⟨o,k b o (λz=>hc (by simp[z])) e⟩) (λ_ _ e=>e) (λ_ _ _ e=>e) (λb ps e=>⟨#[],by rw[e];simp⟩) (λm hm=>?_) (λb u e=>?_) I.bare
 .have e:b=it:=by simpa using hb
  subst e;show⟨h1,hL,h2,h3⟩
 .obtain⟨o,es,ep,ho,r⟩:=hm;show⟨o,es,ep,k _ o (Ne.symm hL) ho,r⟩
 .refine(I.hok b u e).stay (λc v hc q=>k c v ?_ q) (λ_ q=>q) λ_ _ q=>q;rcases hc with z|z;.rw[z];show Rp b u e
  .exact Rp c _ z
theorem É.tok(I:`c)(t:Nat):É X Á σ H {s with toks:=t}:=I.un (h':=s.heap) (t':=t) Un.refl I.hok
theorem É.kept(I:`c)(k:∀b u,s.heap.get? b=some u->h'.get? b=some u):É X Á σ H {s with heap:=h',toks:=t'}:=I.un (Un.kept k) (I.hok.kept k)
theorem É.laid{a:Addr}(I:`c)(k:∀b u,s.heap.get? b=some u->h'.get? b=some u)(hp:s.heap.objs.size<=a)(new:Ö X.prog X.w (upd H a o) h' a o):É X Á σ (upd H a o) {s with heap:=h',toks:=t'}:=I.un (Un.laid k hp (I.hok.fresh hp)) (I.hok.laid k hp new)
theorem É.write(I:`c)(mu:Mut (H x))(he:e=x\/H e=some (.own x))(k:∀b u,b≠e->s.heap.get? b=some u->h'.get? b=some u)(AY:∃u,h'.get? e=some u)(new:Ö X.prog X.w (upd H x o) h' x o):É X Á σ (upd H x o) {s with heap:=h',toks:=t'}:=I.un (Un.write mu he k AY) (I.hok.write mu he k AY new)
theorem É.pins_of(I:`c)(h:∀p∈tP,s.heap.get? p.1=some p.2/\H p.1=none/\p.1≠X.env.locals/\p.1∉X.fs/\∀v,p.2.data≠.cell v):É X tP σ H s:=⟨I.ok,I.os,I.bare,I.base,I.loc,I.cell,I.free,I.freeC,λp hp=>(è.mp hp).elim (λz=>I.pin p (Zav _ z)) (h p),I.hok,I.len⟩
theorem vL{N:Đ}(hN:N.Nodup){i j:Nat}(a:N[i]?=some x)(b:N[j]?=some x):i=j:=by obtain⟨h1,e1⟩:=ĉ.mp a;obtain⟨h2,e2⟩:=ĉ.mp b;show(List.getElem_inj hN).mp (e1.trans e2.symm)
theorem rW(I:`c)(hN:X.N.Nodup)(hi:X.N[i]?=some x)(hx:Loc X.env.scope x)(r:Ò v u)(h:∀s',É X Á (σ.set i (some v)) H s'->(∃a,Heap.SameBut a s.heap s'.heap/\(a=X.env.locals\/X.env.cells.lookup x=some a))->Q () s')(hf:X.fn x=true\/X.env.scope.names.lookup x=some .local:=by first|show .inl O|show .inr O|assumption):wpAny M A (storeName X.env x u) Q E s:=by
 obtain⟨m,hn,hl⟩:=id I.loc;have JE:(X.env.scope.kind==.class||(X.env.scope.kind==.module&&X.env.locals !=X.env.globals))=false:=by rw[I.ok.kind];rfl
 have CC:i<σ.length:=by rw[I.len];show(ĉ.mp hi).1
 have cne:=I.cne;have tracked:∀{a:Addr}{h':Heap},(∃o,s.heap.get? a=some o/\H a=none)->Heap.SameBut a s.heap h'->Ĳ X.prog X.w H h':=λ{a h'}ha hs b ob e=>by
  obtain⟨_,_,hfree⟩:=ha;show(I.hok b ob e).stay (λc w' hc q=>(hs.2 c ?_).trans q) (λ_ q=>q) λ_ _ q=>q;rintro rfl;rcases hc with rfl|hc;.rw[hfree]at e;cases e
  .rw[hfree]at hc;cases hc
 rcases hx with hk|hk
 .refine wpAny_storeName_local hk hn (λh' CD hs=>?_) JE;obtain⟨oL,_,_,UJ,_⟩:=id hn;show h _ ⟨I.ok,I.os,I.bare,⟨λb o e n hb hx=>?_,λb o e n hb hx=>?_,I.base.free,λb o e hx=>?_,I.base.tups,I.base.frzs,I.base.tbls⟩,⟨_,CD,λj y v' e1 e2 e3=>?_⟩,λy c e=>?_,I.free,I.freeC,λp hp=>?_,tracked ⟨oL,UJ,I.free⟩ hs,by simpa using I.len⟩ ⟨_,hs,.inl O⟩;.exact(hs.2 b (ĵ (Ŭ (î e) I.ok.above))).trans (I.base.keep b o e n hb hx)
  .obtain⟨sl,e1⟩:=I.base.slot b o e n hb hx;show⟨sl,(hs.2 b (ĵ (Ŭ (î e) I.ok.above))).trans e1⟩
  .obtain⟨o',e1⟩:=I.base.there b o e hx;show⟨o',(hs.2 b (ĵ (Ŭ (î e) I.ok.above))).trans e1⟩
  .by_cases hj:j=i;.subst hj;rw[hi]at e1;cases e1;rw[Zcl CC]at e2;cases e2;show⟨u,r,.inl ⟨hk,by simp⟩⟩
   .rw[List.getElem?_set_ne (Ne.symm hj)]at e2;obtain⟨u',r',q⟩:=hl j y v' e1 e2 e3;refine⟨u',r',?_⟩;rcases q with⟨k,e⟩|⟨k,c,e,z⟩;.refine .inl ⟨k,?_⟩;have:y≠x:=λe=>hj (vL hN e1 (e▸hi));simp[this,e]
    .exact .inr ⟨k,c,e,z.sameBut hs (cne y c e)⟩
  .obtain⟨w',z⟩:=I.cell y c e;show⟨w',z.sameBut hs (cne y c e)⟩
  .obtain⟨e,n,ne,nf,d⟩:=I.pin p hp;show⟨(hs.2 p.1 ne).trans e,n,ne,nf,d⟩
 .have JI:X.fn x=true:=by
   rcases hf with z|z;.exact z
   .rw[z]at hk;cases hk
  obtain⟨c,hc⟩:=I.ok.has x (.inl hk);obtain⟨w',z⟩:=I.cell x c hc;show wpAny_storeName_cell I.ok.kind hk hc z (λh' aI hs=>?_);obtain⟨oc,Rq,JJ⟩:=id z;show h `l ⟨I.ok,I.os,I.bare,⟨λb o e n hb hx=>?_,λb o e n hb hx=>?_,I.base.free,λb o e hx=>?_,I.base.tups,I.base.frzs,I.base.tbls⟩,⟨m,hn.sameBut hs (Ne.symm (cne x c hc)),λj y v' e1 e2 e3=>?_⟩,λy c' e=>?_,I.free,I.freeC,λp hp=>?_,tracked ⟨oc,Rq,I.freeC x c hc⟩ hs,by simpa using I.len⟩ ⟨c,hs,.inr hc⟩;.exact(hs.2 b (ĵ (Ŭ (î e) (I.ok.cab x c JI hc)))).trans (I.base.keep b o e n hb hx)
  .obtain⟨sl,e1⟩:=I.base.slot b o e n hb hx;show⟨sl,(hs.2 b (ĵ (Ŭ (î e) (I.ok.cab x c JI hc)))).trans e1⟩
  .obtain⟨o',e1⟩:=I.base.there b o e hx;show⟨o',(hs.2 b (ĵ (Ŭ (î e) (I.ok.cab x c JI hc)))).trans e1⟩
  .by_cases hj:j=i;.subst hj;rw[hi]at e1;cases e1;rw[Zcl CC]at e2;cases e2;show⟨u,r,.inr ⟨.inl hk,c,hc,aI⟩⟩
   .rw[List.getElem?_set_ne (Ne.symm hj)]at e2;obtain⟨u',r',q⟩:=hl j y v' e1 e2 e3;show⟨u',r',?_⟩;rcases q with q|⟨k,c',e,z'⟩;.exact .inl q
    .refine .inr ⟨k,c',e,z'.sameBut hs ?_⟩;rintro rfl;show hj (vL hN e1 (I.ok.inj _ _ _ e hc▸hi))
  .by_cases CF:c'=c;.subst CF;show⟨_,aI⟩
   .obtain⟨w2,z2⟩:=I.cell y c' e;show⟨w2,z2.sameBut hs CF⟩
  .obtain⟨e,n,ne,nf,d⟩:=I.pin p hp;show⟨(hs.2 p.1 ?_).trans e,n,ne,nf,d⟩;intro q;rw[q,Rq]at e;have q':oc=p.2:=ģ e;show d w' (by rw[<-q'];show JJ)
theorem fu(I:`c)(hN:X.N.Nodup)(hi:X.N[i]?=some x)(hx:Loc X.env.scope x)(r:Ò v u)(h:∀s',É X Á (σ.set i (some v)) H s'->Q () s')(hf:X.fn x=true\/X.env.scope.names.lookup x=some .local:=by first|show .inl O|show .inr O|assumption):wpAny M A (storeName X.env x u) Q E s:=rW I hN hi hx r (λs' I' _=>h s' I') hf
theorem É.call'(I:`c)(ho:s'.os=s.os)(u:Un (Ź X.stack) ch H H' s.heap s'.heap)(hok:Ĳ X.prog X.w H' s'.heap)(hg:AllBare s'.gens)(qa:∀b∈ch,(b∈X.ex\/X.s₀.heap.objs.size<=b)/\b≠X.env.locals/\(∀x c,X.env.cells.lookup x=some c->c≠b)/\∀p∈X.pn++Á,p.1≠b):É X Á σ H' s':=by obtain⟨h',g',d',t',o'⟩:=s';have e:o'=s.os:=ho;subst e;show I.call (g':=g') (t':=t') (d':=d') u hok hg qa
end
abbrev XK:=Value->Option Addr->Hp->Prop
abbrev St:=List (Option V)
abbrev VK:=V->Hp->Prop
abbrev TE:=St->Hp->VK->Prop
abbrev TT:=St->Hp->(Bool->Hp->Prop)->Prop
abbrev TA:=St->Hp->(List V->Hp->Prop)->Prop
structure œ where
 nx:St->Hp->Prop
 rt:VK
 bk:St->Hp->Prop:=λ_ _=>False
 ct:St->Hp->Prop:=λ_ _=>False
abbrev TS:=œ->St->Hp->Prop
def EP(X:Cx)(Á:gV)(σ:St)(Q:VK)(u:Value)(s':Shared):Prop:=∃v H',É X Á σ H' s'/\Ò v u/\Q v H'
def TP(X:Cx)(Á:gV)(σ:St)(Q:Bool->Hp->Prop)(b:Bool)(s':Shared):Prop:=∃H',É X Á σ H' s'/\Q b H'
def AP(X:Cx)(Á:gV)(σ:St)(Q:List V->Hp->Prop)(us:ó)(s':Shared):Prop:=∃vs H',É X Á σ H' s'/\Î vs us/\Q vs H'
def SP(X:Cx)(Á:gV)(D:œ)(f:Flow)(s':Shared):Prop:=match f with|.next=>∃af H',É X Á af H' s'/\D.nx af H'|.brk=>∃af H',É X Á af H' s'/\D.bk af H'|.cont=>∃af H',É X Á af H' s'/\D.ct af H'|.ret u=>∃v af H',É X Á af H' s'/\Ò v u/\D.rt v H'
def PE(X:Cx)(e:Expr)(t:TE):Prop:=∀Á s(σ:St)H Q,`c->t σ H Q->wpAny `d X.A (eval e X.env) (EP X Á σ Q) X.xe s
def PT(X:Cx)(e:Expr)(t:TT):Prop:=∀Á s(σ:St)H Q,`c->t σ H Q->wpAny `d X.A (isTrue e X.env (eval e X.env)) (TP X Á σ Q) X.xe s
def PW(X:Cx)(e:Expr)(t:TT):Prop:=∀whole Á s(σ:St)H Q,`c->t σ H Q->wpAny `d X.A (isTrue e X.env whole) (TP X Á σ Q) X.xe s
theorem PW.pt(h:PW X e t):PT X e t:=h _
def PA(X:Cx)(es:Qa4)(t:TA):Prop:=∀pos Á s(σ:St)H Q,`c->t σ H Q->wpAny `d X.A (spliced (backTo pos (starEach es X.env))) (AP X Á σ Q) X.xe s
def PS(X:Cx)(st:Stmt)(t:TS):Prop:=∀Á s(σ:St)H D,`c->t D σ H->wpAny `d X.A (exec st X.env) (SP X Á D) X.xe s
def Ψ(X:Cx)(st:List Stmt)(t:TS):Prop:=∀Á s(σ:St)H D,`c->t D σ H->wpAny `d X.A (execs st X.env) (SP X Á D) X.xe s
theorem Û{Q Q':α->Shared->Prop}(h:wpAny M A t Q E s)(hQ:∀a s,Q a s->Q' a s):wpAny M A t Q' E s:=wpAny_mono h hQ λ_ _ x=>x
section
variable{X:Cx}
theorem bin(ha:PE X a ta)(hb:PE X b tb){σ:St}{R:V->V->Hp->Prop}(I:`c)(h:ta σ H λx H1=>tb σ H1 λy H2=>R x y H2){α:Type}{Q:α->Shared->Prop}{f:Value->Value->Sem α}(hf:∀v u s2 x y H2,É X Á σ H2 s2->Ò x v->Ò y u->R x y H2->wpAny `d X.A (f v u) Q X.xe s2):wpAny `d X.A (eval a X.env) (λv s₁=>wpAny `d X.A (eval b X.env) (λu s₂=>wpAny `d X.A (f v u) Q X.xe s₂) X.xe s₁) X.xe s:=by show Û (ha Á s σ H _ I h) λv s1=>?_;rintro⟨x,H1,I1,r1,q1⟩;show Û (hb Á s1 σ H1 _ I1 q1) λu s2=>?_;rintro⟨y,H2,I2,r2,q2⟩;show hf v u s2 x y H2 I2 r1 r2 q2
inductive Z0j(i:Nat)(σ:St)(H:Hp)(Q:VK):Prop|mk:∀v,(σ[i]?=some (some v))->(Q v H)->Z0j i σ H Q
def Ea(i:Nat):TE:=λσ H Q=>Z0j i σ H Q
def tC(v:V):TE:=λ_ H Q=>Q v H
abbrev Qab(x:Str):Prop:=(x==("__debug__":Str))=false
theorem KN{pos:Pos}(hN:X.N[i]?=some x)(hv:Vis X.env.scope x)(hd:Qab x:=by decide)(mx:(x==("__classdict__":Str))=false:=by decide):PE X (.Name x pos) (Ea i):=by
 intro Á s σ H Q I h;obtain⟨v,e,h⟩:=h;obtain⟨m,hn,hl⟩:=I.loc;obtain⟨u,r,l⟩:=hl i x v hN e hv;have fin:EP X Á σ Q u s:=⟨v,H,I,r,h⟩;rcases l with⟨hk,hm⟩|⟨hk,c,hc,hcell⟩;.exact wpAny_Name (wpAny_loadName_local I.ok.kind hk hn hm fin) hd
 .rcases hk with hk|hk;.exact wpAny_Name (wpAny_loadName_cell I.ok.kind hk hc hcell fin) hd
  .exact wpAny_Name (wpAny_loadName_free I.ok.kind hk hc hcell fin mx) hd
theorem aA{i j pos}:PE X (.Constant (.int i) j pos) (tC (.int i)):=λ_ _ _ H _ I h=>wpAny_Constant_int ⟨.int i,H,I.tok _,`i,h⟩
theorem oU{b j pos}:PE X (.Constant (.bool b) j pos) (tC (.bl b)):=λ_ _ _ H _ I h=>Constant_bool ⟨.bl b,H,I,O,h⟩
theorem oV{j pos}:PE X (.Constant .none j pos) (tC .non):=λ_ _ _ H _ I h=>Constant_none ⟨.non,H,I,O,h⟩
def Gl(X:Cx)(x:Str):Prop:=X.env.kindOf x=some .globalImplicit
theorem zu{σ:St}(I:`c)(hg:Gl X x)(hm:X.mg x=some u)(h:Q u s)(hd:Qab x:=by decide):wpAny `d X.A (eval (.Name x pos) X.env) Q E s:=Calls.Name_function_global I.ok.kind hg (Calls.loadGlobal_global (by rw[I.ok.glob];show I.mod.glob.keeps I.bk) hm h) hd
theorem iw{E:Ry}{σ:St}{u:Value}{pos:Pos}{Q:Ry}(I:`c)(hg:Gl X x)(hm:X.mg x=none)(hv:bootBuiltins x=some u)(h:Q u s)(hn:x≠"__name__":=by decide)(hd:Qab x:=by decide):wpAny `d X.A (eval (.Name x pos) X.env) Q E s:=by obtain⟨mb,h1,h2⟩:=I.mod.blt;show Calls.Name_function_global I.ok.kind hg (Calls.loadGlobal_builtin (by rw[I.ok.glob];show I.mod.glob.keeps I.bk) hm (by rw[I.ok.blt];show h1.keeps I.bk) ((h2 x hn).trans hv) h) hd
theorem cC(hg:Gl X x)(hm:X.mg x=some u)(r:Ò v u)(hd:Qab x:=by decide):PE X (.Name x pos) (tC v):=λ_ _ _ H _ I h=>zu I hg hm ⟨v,H,I,r,h⟩ hd
theorem uq{pos:Pos}(hg:Gl X x)(hm:X.mg x=none)(hv:bootBuiltins x=some u)(r:Ò v u)(hn:x≠"__name__":=by decide)(hd:Qab x:=by decide):PE X (.Name x pos) (tC v):=λ_ _ _ H _ I h=>iw I hg hm hv ⟨v,H,I,r,h⟩ hn hd
def PC(X:Cx)(op:CmpOp)(a b:Expr)(t:TE):Prop:=∀Á s(σ:St)H Q,`c->t σ H Q->wpAny `d X.A (eval a X.env) (λv s₁=>wpAny `d X.A (eval b X.env) (λu s₂=>wpAny `d X.A (compareOp op v u) (EP X Á σ Q) X.xe s₂) X.xe s₁) X.xe s
def tB(t:TE):TT:=λσ H Q=>t σ H λx H1=>∃c,x=.bl c/\Q c H1
theorem Eb(h:PC X op a b t)(h1:behindInMarks op b=false:=by first|show nobehind _ á á|rfl):PT X (.Compare a [op] [b] pos) (tB t):=by intro Á s σ H Q I hw;show wpAny_isTrue_Compare1 (Û (h Á s σ H _ I hw) λv s1 h1=>Û h1 λu s2 h2=>Û h2 λc s3=>?_) h1;rintro⟨x,H1,I1,r1,q1⟩;obtain⟨d,rfl,q⟩:=q1;cases r1;show wpAny_truthy_bool ⟨H1,I1,q⟩
theorem fZ(h:PE X e t)(he:∀whole,isTrue e X.env whole=(do let v<-whole;standAt e.pos;holding [v] (truthy v)):=by intro _;rfl):PT X e (tB t):=by intro Á s σ H Q I hw;show isTrue_plain (Û (h Á s σ H _ I hw) λv s1=>?_) (he _);rintro⟨x,H1,I1,r1,q1⟩;obtain⟨d,rfl,q⟩:=q1;cases r1;show wpAny_truthy_bool ⟨H1,I1,q⟩
def PX(t u:TT):TT:=λσ H Q=>t σ H λc H1=>if c=true then u σ H1 Q else Q false H1
def tOr(t u:TT):TT:=λσ H Q=>t σ H λc H1=>if c=true then Q true H1 else u σ H1 Q
def Q0(t:TT):TT:=λσ H Q=>t σ H λc H1=>Q (!c) H1
theorem nY(ha:PT X a tA):PW X (.BoolOp .And [a] pos) tA:=by intro wh Á s σ H Q I h;refine isTrue_and (Û (ha Á s σ H Q I h) λc s1 e=>?_);cases c with|true=>exact isTrue_and_nil e;|false=>show e
theorem xY(ha:PT X a tA):PW X (.BoolOp .Or [a] pos) tA:=by intro wh Á s σ H Q I h;refine isTrue_or (Û (ha Á s σ H Q I h) λc s1 e=>?_);cases c with|false=>exact isTrue_or_nil e;|true=>show e
theorem ur(ha:PT X a tA)(hb:PW X (.BoolOp .And (b::rest) pos) GA):PW X (.BoolOp .And (a::b::rest) pos) (PX tA GA):=by intro wh Á s σ H Q I h;refine isTrue_and (Û (ha Á s σ H _ I h) λc s1=>?_);rintro⟨H1,I1,q1⟩;cases c with|true=>exact hb wh Á s1 σ H1 Q I1 q1;|false=>show⟨H1,I1,q1⟩
theorem vM(ha:PT X a tA)(hb:PW X (.BoolOp .Or (b::rest) pos) GA):PW X (.BoolOp .Or (a::b::rest) pos) (tOr tA GA):=by intro wh Á s σ H Q I h;refine isTrue_or (Û (ha Á s σ H _ I h) λc s1=>?_);rintro⟨H1,I1,q1⟩;cases c with|true=>exact⟨H1,I1,q1⟩;|false=>show hb wh Á s1 σ H1 Q I1 q1
theorem dY(ha:PT X a tA):PT X (.UnaryOp .Not a pos) (Q0 tA):=by intro Á s σ H Q I h;show isTrue_not (ha Á s σ H (λc H1=>Q (!c) H1) I h)
def K6(ta tb:TE):TE:=λσ H Q=>ta σ H λx H1=>∃c,x=.bl c/\if c=true then tb σ H1 Q else Q (.bl false) H1
def Nf(ta:TE):TE:=λσ H Q=>ta σ H λx H1=>∃c,x=.bl c/\Q (.bl (!c)) H1
theorem fJ{op}(h:PE X a t):PE X (.BoolOp op [a] pos) t:=λÁ s σ H Q I hw=>BoolOp_one (h Á s σ H Q I hw)
theorem cO(ha:PE X a ta)(hb:PE X (.BoolOp .And (b::rest) pos) tb):PE X (.BoolOp .And (a::b::rest) pos) (K6 ta tb):=by intro Á s σ H Q I h;refine BoolOp_and (Û (ha Á s σ H _ I h) λv s1=>?_);rintro⟨x,H1,I1,r1,q1⟩;obtain⟨c,rfl,q1⟩:=q1;cases r1;apply wpAny_truthy_bool;cases c with|true=>exact hb Á s1 σ H1 Q I1 q1;|false=>show⟨.bl false,H1,I1,O,q1⟩
theorem KQ(ha:PE X a ta):PE X (.UnaryOp .Not a pos) (Nf ta):=by intro Á s σ H Q I h;show UnaryOp_ (Û (ha Á s σ H _ I h) λv s1=>?_);rintro⟨x,H1,I1,r1,q1⟩;obtain⟨c,rfl,q1⟩:=q1;cases r1;show not_of (wpAny_truthy_bool ⟨.bl (!c),H1,I1,O,q1⟩)
def tIf(t:TT)(ta tb:TE):TE:=λσ H Q=>t σ H λc H1=>if c=true then ta σ H1 Q else tb σ H1 Q
theorem vN(hc:PT X c tA)(ha:PE X a ta)(hb:PE X b tb):PE X (.IfExp c a b pos) (tIf tA ta tb):=by intro Á s σ H Q I h;refine wpAny_IfExp (Û (hc Á s σ H _ I h) λd s1=>?_);rintro⟨H1,I1,q1⟩;cases d with|true=>exact ha Á s1 σ H1 Q I1 q1;|false=>show hb Á s1 σ H1 Q I1 q1
end
def Ë(K:Frag)(H:Hp)(a:Addr)(xs:List V):Prop:=Rd H a (.lst xs)\/∃o È n,K.lookup a=some o/\o.cls=.type "list"/\o.dict=none/\o.data=.seq È n/\È.size<=sizeLine/\Î xs È.toList
def Ñ(K:Frag)(H:Hp)(a:Addr)(xs:List V):Prop:=Rd H a (.tup xs)\/∃o È n,K.lookup a=some o/\o.cls=.type "tuple"/\o.data=.seq È n/\È.size<=sizeLine/\Î xs È.toList
def Q3:Value->Option V|.none=>some .non|.bool b=>some (.bl b)|.int i _=>some (.int i)|.str x _=>some (.str x)|.bytes b _=>some (.byt b)|.float b _=>some (.flt b)|.ref a=>some (.ref a)|.type n=>some (.ty n)|_=>none
theorem Ò.abs(r:Ò x u):Q3 u=some x:=by cases x with|non=>cases r;rfl;|bl _=>cases r;rfl;|int _=>obtain⟨t,rfl⟩:=r;rfl;|str _=>obtain⟨t,rfl⟩:=r;rfl;|byt _=>obtain⟨t,rfl⟩:=r;rfl;|flt _=>obtain⟨t,rfl⟩:=r;rfl;|ref _=>cases r;rfl;|ty _=>cases r;rfl
theorem Ò.inj(r:Ò x u)(q:Ò y u):x=y:=ģ (r.abs.symm.trans q.abs)
theorem Î.inj:∀{xs ys:List V}{us:ó},Î xs us->Î ys us->xs=ys|_,_,_,.nil,.nil=>rfl|_,_,_,.cons r t,.cons r' t'=>by rw[r.inj r',Î.inj t t']
section
variable{σ:St}
theorem Ë.of{K:Frag}(h:H a=some (.lst xs)):Ë K H a xs:=.inl (.inl h)
theorem Ñ.of{K:Frag}(h:H a=some (.tup xs)):Ñ K H a xs:=.inl (.inl h)
theorem É.list(I:`c)(h:Ë X.K H a xs):∃È:ó,Î xs È/\PlainL s.heap a È.toArray/\xs.length<=sizeLine:=by
 rcases h with h|⟨o,È,n,hk,hc,hd,hs,hz,r⟩;.obtain⟨z,È,n,r,e⟩:=h.ok I.hok;show⟨È,r,⟨_,n,e,O,O,O⟩,z⟩
 .refine⟨È.toList,r,⟨o,n,I.kIn a o hk,hc,hd,by simpa using hs⟩,?_⟩;have e:=r.length;simp only[Array.length_toList]at e;lia
theorem É.tuple(I:`c)(h:Ñ X.K H a xs):∃È:ó,Î xs È/\IsTup s.heap a È.toArray/\xs.length<=sizeLine:=by
 rcases h with h|⟨o,È,n,hk,hc,hs,hz,r⟩;.obtain⟨z,È,r,p⟩:=h.ok I.hok;show⟨È,r,p,z⟩
 .refine⟨È.toList,r,⟨o,I.kIn a o hk,hc,n,by simpa using hs⟩,?_⟩;have e:=r.length;simp only[Array.length_toList]at e;lia
theorem É.list_inj(I:`c)(h:Ë X.K H a xs)(h':Ë X.K H a ys):xs=ys:=by
 obtain⟨È,r,⟨o,n,e,_,_,d⟩,_⟩:=I.list h;obtain⟨its',r',⟨o',n',e',_,_,d'⟩,_⟩:=I.list h';rw[e]at e';cases e';rw[d]at d';injection d' with d1 _;have:È=its':=by simpa using congrArg Array.toList d1
 subst this;show r.inj r'
theorem É.tuple_inj(I:`c)(h:Ñ X.K H a xs)(h':Ñ X.K H a ys):xs=ys:=by
 obtain⟨È,r,⟨o,e,_,n,d⟩,_⟩:=I.tuple h;obtain⟨its',r',⟨o',e',_,n',d'⟩,_⟩:=I.tuple h';rw[e]at e';cases e';rw[d]at d';injection d' with d1 _;have:È=its':=by simpa using congrArg Array.toList d1
 subst this;show r.inj r'
end
abbrev Cx.wish(X:Cx)(E:Ry):Cx:={X with xe:=E}
abbrev Cx.nox(X:Cx):Cx:=X.wish λ_ _=>False
theorem Cx.Ok.wish{X:Cx}(ok:X.Ok)(E:Ry):(X.wish E).Ok:=⟨ok.mod,ok.kind,ok.glob,ok.blt,ok.above,ok.inj,ok.has,ok.cab,ok.hd,ok.frames,ok.stk,ok.exf,ok.bs,ok.bsz,ok.noex,ok.exfs,ok.funs,ok.frf⟩
theorem Cx.Ok.unwish{X:Cx}(ok:(X.wish E).Ok):X.Ok:=⟨ok.mod,ok.kind,ok.glob,ok.blt,ok.above,ok.inj,ok.has,ok.cab,ok.hd,ok.frames,ok.stk,ok.exf,ok.bs,ok.bsz,ok.noex,ok.exfs,ok.funs,ok.frf⟩
section
variable{σ:St}
theorem É.wish(I:`c)(E:Ry):É (X.wish E) Á σ H s:=⟨I.ok.wish E,I.os,I.bare,I.base,I.loc,I.cell,I.free,I.freeC,I.pin,I.hok,I.len⟩
theorem É.unwish(I:É (X.wish E) Á σ H s):`c:=⟨I.ok.unwish,I.os,I.bare,I.base,I.loc,I.cell,I.free,I.freeC,I.pin,I.hok,I.len⟩
theorem SP.unwish(h:SP (X.wish E) Á D f s'):SP X Á D f s':=by cases f with|next=>obtain⟨af,H',I,q⟩:=h;exact⟨af,H',I.unwish,q⟩;|brk=>obtain⟨af,H',I,q⟩:=h;exact⟨af,H',I.unwish,q⟩;|cont=>obtain⟨af,H',I,q⟩:=h;exact⟨af,H',I.unwish,q⟩;|ret u=>obtain⟨v,af,H',I,r,q⟩:=h;show⟨v,af,H',I.unwish,r,q⟩
theorem Ψ.nox{st:List Stmt}(h:Ψ X.nox st t):Ψ X st t:=λÁ s σ H D I hw=>wpAny_mono (h Á s σ H D (I.wish _) hw) (λ_ _ q=>q.unwish) λ_ _ z=>False.elim z
end
section
variable{st:Stmt}
def K7:TS:=λD σ H=>D.nx σ H
def Ip(t u:TS):TS:=λD σ H=>t {D with nx:=u D} σ H
theorem bz:Ψ X [] K7:=λ_ _ σ H _ I h=>wpAny_execs_nil ⟨σ,H,I,h⟩
theorem aB(h1:PS X st t)(h2:Ψ X rest u):Ψ X (st::rest) (Ip t u):=by intro Á s σ H D I h;refine wpAny_execs_cons (Û (h1 Á s σ H {D with nx:=u D} I h) λf s1 q=>?_);cases f with|next=>obtain⟨af,H',I',q⟩:=q;exact h2 Á s1 af H' D I' q;|ret v=>exact q;|brk=>exact q;|cont=>show q
theorem aC(h1:PS X st t):Ψ X [st] t:=by intro Á s σ H D I h;refine wpAny_execs_cons (Û (h1 Á s σ H D I h) λf s1 q=>?_);cases f with|next=>exact wpAny_execs_nil q;|ret v=>exact q;|brk=>exact q;|cont=>show q
theorem É.quiet{σ:St}(I:`c):interactive X.env=false:=by simp[interactive,I.ok.kind]
def Ng(te:TE):TS:=λD σ H=>te σ H λ_ H1=>D.nx σ H1
theorem dJ(he:PE X e te)(hs:swapsWith e none pos.line X.env=pure false:=by rfl):PS X (.Expr e pos) (Ng te):=by intro Á s σ H D I h;show wpAny_Expr_any (Û (he Á s σ H _ I h) λv s1=>by rintro⟨x,H1,I1,r1,q1⟩;show⟨σ,H1,I1,q1⟩) I.quiet hs
def KR(te:TE):TS:=λD σ H=>te σ H D.rt
theorem aV(he:PE X e te):PS X (.Return (some e) pos) (KR te):=by intro Á s σ H D I h;show wpAny_Return_some (Û (he Á s σ H _ I h) λv s1=>by rintro⟨x,H1,I1,r1,q1⟩;show⟨x,σ,H1,I1,r1,q1⟩)
def Q4(c:TT)(t u:TS):TS:=λD σ H=>c σ H λb H1=>if b=true then t D σ H1 else u D σ H1
theorem cM(hc:PT X c tc)(ha:Ψ X a t)(hb:Ψ X b u):PS X (.If c a b pos) (Q4 tc t u):=by intro Á s σ H D I h;refine wpAny_If (Û (hc Á s σ H _ I h) λd s1=>?_);rintro⟨H1,I1,q1⟩;cases d with|true=>exact ha Á s1 σ H1 D I1 q1;|false=>show hb Á s1 σ H1 D I1 q1
def Ec:TS:=λ_ _ _=>False
theorem iW:PS X st Ec:=λ_ _ _ _ _ _ h=>h.elim
theorem rY:Ψ X JO Ec:=λ_ _ _ _ _ _ h=>h.elim
end
abbrev TG:=V->St->Hp->(St->Hp->Prop)->Prop
abbrev TGs:=List V->St->Hp->(St->Hp->Prop)->Prop
def PG(X:Cx)(target:Expr)(t:TG):Prop:=∀Á s(σ:St)H v u Q,`c->Ò v u->t v σ H Q->wpAny `d X.A (assign target X.env u) (λ_ s'=>∃af H',É X Á af H' s'/\Q af H') X.xe s
def PGs(X:Cx)(ts:Qa4)(t:TGs):Prop:=∀Á s(σ:St)H vs us Q,`c->Î vs us->t vs σ H Q->wpAny `d X.A (assignInOrder ((assignEach ts X.env).map (·.2)) us) (λ_ s'=>∃af H',É X Á af H' s'/\Q af H') X.xe s
abbrev Cj:=V->V->V->Hp->(Hp->Prop)->Prop
def Ir(X:Cx)(t:Cj):Prop:=∀Á s(σ:St)H o i v ov iv u Q,`c->Ò o ov->Ò i iv->Ò v u->t o i v H Q->wpAny `d X.A (setItem ov iv u) (λ_ s'=>∃H',É X Á σ H' s'/\Q H') X.xe s
abbrev TIp:=V->V->Hp->VK->Prop
def PIp(X:Cx)(op:Operator)(t:TIp):Prop:=∀Á s(σ:St)H x y v u Q,`c->Ò x v->Ò y u->t x y H Q->wpAny `d X.A (inplaceOp op v u) (EP X Á σ Q) X.xe s
section
variable{pos:Pos}
def bu(i:Nat):TG:=λv σ H Q=>Q (σ.set i (some v)) H
theorem bw(hN:X.N.Nodup)(hi:X.N[i]?=some x)(hx:Loc X.env.scope x)(hf:X.fn x=true\/X.env.scope.names.lookup x=some .local:=by first|show .inl O|show .inr O|assumption):PG X (.Name x pos) (bu i):=by intro Á s σ H v u Q I r h;show wpAny_assign_Name (fu I hN hi hx r (λs' I'=>⟨_,H,I',h⟩) hf)
def jU:TGs:=λvs σ H Q=>vs=[]/\Q σ H
def bL(t:TG)(u:TGs):TGs:=λvs σ H Q=>∃v r,vs=v::r/\t v σ H λaf H'=>u r af H' Q
theorem aR:PGs X [] jU:=by intro Á s σ H vs us Q I r h;obtain⟨e,h⟩:=h;show assignInOrder_nil ⟨σ,H,I,h⟩
theorem ao(h1:PG X e t)(h2:PGs X es u)(hs:(assignEach (e::es) X.env).map (·.2)=assign e X.env::(assignEach es X.env).map (·.2):=by rfl):PGs X (e::es) (bL t u):=by intro Á s σ H vs us Q I r h;obtain⟨v,vr,e1,h⟩:=h;subst e1;cases r with|cons r rr=>rw[hs];show assignInOrder_cons (Û (h1 Á s σ H _ _ _ I r h) λ_ s1=>?_);rintro⟨JU,H1,I1,q1⟩;show h2 Á s1 JU H1 _ _ Q I1 rr q1
inductive Z0w(K:Frag)(n:Nat)(t:TGs)(v:V)(σ:St)(H:Hp)(Q:St->Hp->Prop):Prop|mk:∀a xs,(v=.ref a)->(Ñ K H a xs)->(xs.length=n)->(t xs σ H Q)->Z0w K n t v σ H Q
def jE(K:Frag)(n:Nat)(t:TGs):TG:=λv σ H Q=>Z0w K n t v σ H Q
theorem bF{k:Nat}(hc:X.calm=true)(h:PGs X es t)(hn:(assignEach es X.env).length=n:=by rfl)(iF:(assignEach es X.env).findIdx? (·.1)=none:=by rfl):PG X (.Tuple es k pos) (jE X.K n t):=by intro Á s σ H v u Q I r hw;obtain⟨a,xs,e1,hq,hl,hw⟩:=hw;subst e1;cases r;obtain⟨È,rv,ht,hz⟩:=I.tuple hq;show assign_Tuple_tuple (I.ok.hd hc) ht (by simp[hn,<-hl,rv.length]) iF λh' hx=>?_;have I1:É X Á σ H `l:=I.kept (t':=s.toks) λb o e=>hx b o (ĵ (î e)) e;show h Á _ σ H xs _ Q I1 (by simpa using rv) hw
def Q5(to ti:TE)(t:Cj):TG:=λv σ H Q=>to σ H λo H1=>ti σ H1 λi H2=>t o i v H2 λH3=>Q σ H3
theorem iy(ho:PE X o to)(hi:PE X i ti)(hs:Ir X t)(ha:∀v,assign (.Subscript o i pos) X.env v=(do
   let ov<-holding [v] (eval o X.env)let iv<-holding [v,ov] (eval i X.env)standAt pos
   holding [v,ov,iv] (setItem ov iv v)release [v,ov,iv] []):=by intro _;rfl):PG X (.Subscript o i pos) (Q5 to ti t):=by intro Á s σ H v u Q I r h;rw[ha];show Ã (wpAny_holding (Û (ho Á s σ H _ I h) λov s1=>?_));rintro⟨x,H1,I1,r1,q1⟩;show Ã (wpAny_holding (Û (hi Á s1 σ H1 _ I1 q1) λiv s2=>?_));rintro⟨y,H2,I2,r2,q2⟩;show Ã (wpAny_standAt (Ã (wpAny_holding (Û (hs Á s2 σ H2 x y v ov iv u _ I2 r1 r2 r q2) λ_ s3=>?_))));rintro⟨H3,I3,q3⟩;show wpAny_release ⟨σ,H3,I3,q3⟩
def Ck(te:TE)(g:TG):TS:=λD σ H=>te σ H λx H1=>g x σ H1 D.nx
theorem cP(he:PE X e te)(hg:PG X tg g)(hs:swapsWithSole [tg] e pos.line X.env=pure false:=by rfl)(hw:swappedStores [tg] e X.env=pure none:=by rfl)(h1:(assignEach [tg] X.env).map (·.2)=[assign tg X.env]:=by rfl):PS X (.Assign [tg] e pos) (Ck te g):=by intro Á s σ H D I h;show wpAny_Assign_stores (Û (he Á s σ H _ I h) λv s1=>?_) hs hw;rintro⟨x,H1,I1,r1,q1⟩;rw[h1];show Û (hg Á s1 σ H1 x v _ I1 r1 q1) λ_ s2 q=>q
theorem lZ(hN:X.N.Nodup)(hi:X.N[i]?=some x)(hx:Loc X.env.scope x)(he:PE X e te)(hs:swapsWith e (some (.Name x pos')) pos.line X.env=pure false:=by rfl)(hf:X.fn x=true\/X.env.scope.names.lookup x=some .local:=by first|show .inl O|show .inr O|assumption):PS X (.Assign [.Name x pos'] e pos) (Ck te (bu i)):=by intro Á s σ H D I h;show wpAny_Assign_Name (Û (he Á s σ H _ I h) λv s1=>?_) hs;rintro⟨y,H1,I1,r1,q1⟩;show fu I1 hN hi hx r1 (λs2 I2=>⟨_,H1,I2,q1⟩) hf
def Q6(i j:Nat)(ta:TA):TS:=λD σ H=>ta σ H λvs H1=>∃v w,vs=[v,w]/\D.nx ((σ.set i (some v)).set j (some w)) H1
theorem xZ{kt k2 pt2}(hc:X.calm=true)(hN:X.N.Nodup)(hi:X.N[i]?=some x)(hj:X.N[j]?=some y)(de:i≠j)(hx:X.env.scope.names.lookup x=some .local)(hy:X.env.scope.names.lookup y=some .local)(ha:PA X [a,b] ta)(hw:swappedStores [.Tuple [.Name x px,.Name y py] kt pt] (.Tuple [a,b] k2 pt2) X.env=pure (some [x,y]))(hs:swapsWithSole [.Tuple [.Name x px,.Name y py] kt pt] (.Tuple [a,b] k2 pt2) pos.line X.env=pure false:=by rfl):PS X (.Assign [.Tuple [.Name x px,.Name y py] kt pt] (.Tuple [a,b] k2 pt2) pos) (Q6 i j ta):=by
 intro Á s σ H D I h;rw[exec_Assign_arm];show Ã (wpAny_standAt ?_);rw[hs];show Ã (Ì ?_);rw[Ç á];show Ã (Tuple_ (Û (ha _ Á s σ H _ I h) λus s1=>?_));rintro⟨vs,H1,I1,r1,q1⟩;obtain⟨v,w,e1,q1⟩:=q1;subst e1;obtain⟨u1,u2,rfl,rv,dS⟩:∃u1 u2,us=[u1,u2]/\Ò v u1/\Ò w u2:=by cases r1 with|cons p q=>cases q with|cons p' q'=>cases q';show⟨_,_,O,p,p'⟩
 show Η ?_ (by show 2<=sizeLine;decide);have I2:É X Á σ H1 {s1 with heap:=s1.heap.push {cls:=.type "tuple",data:=.seq [u1,u2].toArray}}:=I1.kept (t':=s1.toks) λb o e=>ò _ e;rw[hw];show Ã (Ì ?_);show wpAny `d X.A (do rule "assign.swapped-stores";let items<-unpackItems (.ref s1.heap.objs.size) 2 none;assignInOrder [λv=>bindName X.env y v,λv=>bindName X.env x v] items.reverse;pure Flow.next) _ _ _;show Ã (wpAny_rule (Ã (unpackItems_tuple (items:=#[u1,u2]) (I.ok.hd hc) (IsTup.new s1.heap _) λh' fR=>?_)));have I3:=I2.kept (h':=h') (t':=s1.toks) λb o e=>fR b o (ĵ (î e)) e;show wpAny _ _ (assignInOrder [λv=>bindName X.env y v,λv=>bindName X.env x v] [u2,u1]>>=λ_=>pure Flow.next) _ _ _;show Ã (assignInOrder_cons (wpAny_bindName (fu I3 hN hj (.inl hy) dS (λs2 I4=>?_) (.inr hy))));show assignInOrder_cons (wpAny_bindName (fu I4 hN hi (.inl hx) rv (λs3 I5=>assignInOrder_nil (Ì ?_)) (.inr hx)));rw[List.set_comm _ _ (Ne.symm de)]at I5;show⟨_,H1,I5,q1⟩
inductive Z0l(i:Nat)(te:TE)(ti:TIp)(D:œ)(σ:St)(H:Hp):Prop|mk:∀x,(σ[i]?=some (some x))->(te σ H λy H1=>ti x y H1 λz H2=>D.nx (σ.set i (some z)) H2)->Z0l i te ti D σ H
def Q7(i:Nat)(te:TE)(ti:TIp):TS:=λD σ H=>Z0l i te ti D σ H
theorem mj(hN:X.N.Nodup)(hi:X.N[i]?=some x)(hx:Loc X.env.scope x)(he:PE X e te)(ho:PIp X op ti)(hf:X.fn x=true\/X.env.scope.names.lookup x=some .local:=by first|show .inl O|show .inr O|assumption):PS X (.AugAssign (.Name x pos') op e pos) (Q7 i te ti):=by
 intro Á s σ H D I h;obtain⟨v,e1,h⟩:=h;obtain⟨m,hn,hl⟩:=I.loc;have UL:Vis X.env.scope x:=by rcases hx with k|k;show .inl k;show .inr (.inl k)
 obtain⟨u,r,l⟩:=hl i x v hi e1 UL;apply wpAny_AugAssign_Name;have go:wpAny `d X.A (eval e X.env) (λw s₂=>wpAny `d X.A (inplaceOp op u w) (λr s₃=>wpAny `d X.A (storeName X.env x r) (λ_=>SP X Á D .next) X.xe s₃) X.xe s₂) X.xe s:=by show Û (he Á s σ H _ I h) λw s1=>?_;rintro⟨y,H1,I1,r1,q1⟩;show Û (ho Á s1 σ H1 v y u w _ I1 r r1 q1) λz s2=>?_;rintro⟨zv,H2,I2,r2,q2⟩;show fu I2 hN hi hx r2 (λs3 I3=>⟨_,H2,I3,q2⟩) hf
 rcases l with⟨hk,hm⟩|⟨hk,c,hc,hcell⟩;.exact wpAny_loadName_local I.ok.kind hk hn hm go
 .rcases hk with hk|hk;.exact wpAny_loadName_cell I.ok.kind hk hc hcell go
  .rcases hx with k|k;.have:X.env.scope.names.lookup x=some .free:=hk;rw[k]at this;cases this
   .have:X.env.scope.names.lookup x=some .free:=hk;rw[k]at this;cases this
def Nh(to ti te:TE)(rb:V->V->Hp->VK->Prop)(GB:TIp)(rf:Cj):TS:=λD σ H=>to σ H λo H1=>ti σ H1 λi H2=>rb o i H2 λx H3=>te σ H3 λy H4=>GB x y H4 λz H5=>rf o i z H5 λH6=>D.nx σ H6
def KY(X:Cx)(t:V->V->Hp->VK->Prop):Prop:=∀Á s(σ:St)H o i ov iv Q,`c->Ò o ov->Ò i iv->t o i H Q->wpAny `d X.A (getItem ov iv) (EP X Á σ Q) X.xe s
theorem ut(ho:PE X o to)(hi:PE X i ti)(hg:KY X rb)(he:PE X e te)(hp:PIp X op GB)(hs:Ir X rf)(ha:∀ov iv new,augStore i ov iv new=(do holding [new,ov,iv] (setItem ov iv new);release [new,ov,iv] [];pure .next):=by intros;rfl):PS X (.AugAssign (.Subscript o i wx) op e pos) (Nh to ti te rb GB rf):=by intro Á s σ H D I h;show wpAny_AugAssign_SubscriptAny (Û (ho Á s σ H _ I h) λov s1=>?_) ha;rintro⟨x1,H1,I1,r1,q1⟩;show Û (hi Á s1 σ H1 _ I1 q1) λiv s2=>?_;rintro⟨x2,H2,I2,r2,q2⟩;show Û (hg Á s2 σ H2 x1 x2 ov iv _ I2 r1 r2 q2) λold s3=>?_;rintro⟨x3,H3,I3,r3,q3⟩;show Û (he Á s3 σ H3 _ I3 q3) λv s4=>?_;rintro⟨x4,H4,I4,r4,q4⟩;show Û (hp Á s4 σ H4 x3 x4 old v _ I4 r3 r4 q4) λnew s5=>?_;rintro⟨x5,H5,I5,r5,q5⟩;show Û (hs Á s5 σ H5 x1 x2 x5 ov iv new _ I5 r1 r2 r5 q5) λ_ s6=>by rintro⟨H6,I6,q6⟩;show⟨σ,H6,I6,q6⟩
def ipI(f:Int->Int->Int):TIp:=λx y H Q=>∃i j,x=.int i/\y=.int j/\Q (.int (f i j)) H
theorem Ed:PIp X .Add (ipI λi j=>i+j):=by intro Á s σ H x y v u Q I r1 r2 h;obtain⟨i,j,e1,e2,q⟩:=h;subst e1;subst e2;obtain⟨t,rfl⟩:=r1;obtain⟨t',rfl⟩:=r2;show iadd_int ⟨.int _,H,I.tok _,`i,q⟩
theorem Ef:PIp X .Sub (ipI λi j=>i-j):=by intro Á s σ H x y v u Q I r1 r2 h;obtain⟨i,j,e1,e2,q⟩:=h;subst e1;subst e2;obtain⟨t,rfl⟩:=r1;obtain⟨t',rfl⟩:=r2;show isub_int ⟨.int _,H,I.tok _,`i,q⟩
end
section
end
structure It where
 go:Nat->Hp->Prop
 yld:Nat->Hp->V->Hp->Prop
 stop:Nat->Hp->Prop
def gB(X:Cx)(Á:gV)(H:Hp)(b:Addr):Prop:=H b=none/\b≠X.env.locals/\b∉X.fs/\(b∈X.ex\/X.s₀.heap.objs.size<=b)/\(∀x c,X.env.cells.lookup x=some c->c≠b)/\∀p∈X.pn++Á,p.1≠b
theorem É.fpOk{σ:St}{b:Addr}(I:`c)(hb:s.heap.objs.size<=b)(hn:H' b=none):gB X Á H' b:=by
 show⟨hn,Θ (Ŭ I.lt hb),I.nofs hb,.inr (ř I.sz hb),λx c e z=>?_,λp hp z=>?_⟩;.obtain⟨v,q⟩:=I.cell x c e;show absurd (Ŭ q.lt (by rw[z];show hb)) (ϯ _)
 .exact absurd (Ŭ (î (I.pin p hp).1) (by rw[z];show hb)) (ϯ _)
structure į(P:Program)(w:World)(K:Frag)(tg:Expr)(J:It)(fp:ø)(it:Addr)(tn:Nat->Heap->Prop):Prop where
 mem:it∈fp
 obj:∀i h,tn i h->∀b∈fp,∃o,h.get? b=some o/\∀v,o.data≠.cell v
 keep:∀i h h',tn i h->(∀b∈fp,∀o,h.get? b=some o->h'.get? b=some o)->tn i h'
 item:∀X,X.prog=P->X.w=w->X.K=K->X.calm=true->∀i Á s(σ:St)H E,`c->(∀b∈fp,gB X Á H b)->tn i s.heap->J.go i H->wpAny (model P w) X.A (pyNext (.ref it)) (λr s1=>∃u,r=some u/\wpAny (model P w) X.A (letOwnedTupleGo tg (.ref it) u) (λ_ s2=>∃x H',É X Á σ H' s2/\Ò x u/\J.yld i H x H'/\tn (i+1) s2.heap/\∀b∈fp,H' b=none) E s1) E s
 done:∀X,X.prog=P->X.w=w->X.K=K->X.calm=true->∀i Á s(σ:St)(H:Hp)(E:Ry),`c->(∀b∈fp,gB X Á H b)->tn i s.heap->J.stop i H->wpAny (model P w) X.A (pyNext (.ref it)) (λr s1=>r=none/\É X Á σ H s1) E s
 self:∀(A:Around)(i:Nat)(s:Shared)(Q:Ry)(E:Ry),tn i s.heap->Q (.ref it) s->wpAny (model P w) A (pyIter (.ref it)) Q E s
abbrev TI:=St->Hp->(It->Hp->Prop)->Prop
def PIE(X:Cx)(Á:gV)(σ:St)(tg:Expr)(R:It->Hp->Prop)(CH:Value)(s2:Shared):Prop:=∃(it:Addr)(fp:ø)(tn:Nat->Heap->Prop)(J:It)(H':Hp),CH=.ref it/\É X Á σ H' s2/\į X.prog X.w X.K tg J fp it tn/\tn 0 s2.heap/\(∀b∈fp,gB X Á H' b)/\R J H'
def PI(X:Cx)(tg iter:Expr)(wi:TI):Prop:=∀Á s(σ:St)H R,`c->wi σ H R->wpAny `d X.A (eval iter X.env) (λv s1=>wpAny `d X.A (pyIter v) (PIE X Á σ tg R) X.xe s1) X.xe s
theorem zx(ho:s.heap.get? it=some o)(hc:o.cls=.type n)(hd:o.data=.fields vs)(hn:["enumerate","zip","dict_itemiterator","dict_reverseitemiterator","odict_iterator","itertools.zip_longest","itertools.pairwise"].contains n=false)(hQ:Q () s):wpAny M A (letOwnedTupleGo tg (.ref it) u) Q E s:=by cases tg<;>first|exact Ì hQ;|(cases u<;>first|exact Ì hQ;|(show Ã (wpAny_load ho ?_);rw[hc,hd];show wpAny M A (if(["enumerate","zip","dict_itemiterator","dict_reverseitemiterator","odict_iterator","itertools.zip_longest","itertools.pairwise"].contains n&&vs[0]?==some (rawInt _))=true then _ else _) Q E s;rw[Ç (by intro h;rw[hn]at h;cases h)];show Ì hQ))
def Itl(K:Frag)(a:Addr):It:=⟨λi H=>∃xs x,Ë K H a xs/\xs[i]?=some x,λi H x H'=>H'=H/\∀xs,Ë K H a xs->xs[i]?=some x,λi H=>∃xs,Ë K H a xs/\xs.length<=i⟩
def Itt(K:Frag)(a:Addr):It:=⟨λi H=>∃xs x,Ñ K H a xs/\xs[i]?=some x,λi H x H'=>H'=H/\∀xs,Ñ K H a xs->xs[i]?=some x,λi H=>∃xs,Ñ K H a xs/\xs.length<=i⟩
def Itr(lo:Int)(n:Nat):It:=⟨λi _=>i<n,λi H x H'=>H'=H/\x=.int (lo+i),λi _=>n<=i⟩
theorem Cm{K:Frag}(a it:Addr):į P w K tg (Itl K a) [it] it (λi h=>h.IsListIter it a i)where
 mem:=by simp
 obj:=λi h st b hb=>by
  have e:b=it:=by simpa using hb
  subst e;obtain⟨o,e,c,d⟩:=st;show⟨o,e,λv z=>by rw[d]at z;cases z⟩
 keep:=λi h h' st k=>st.at λo e=>k it Õ o e;item:=by show`k;obtain⟨xs,x,hq,hx⟩:=hg;obtain⟨È,rv,p,hz⟩:=I.list hq;obtain⟨u,hu,ru⟩:=rv.get hx;obtain⟨f0,f1,f2,f3,f4,f5⟩:=hf it Õ;show wpAny_pyNext_list_item st p.isList (x:=u) (by simpa using hu) λh' Æ sb=>?_;have I1:É X Á σ H `l:=I.turned (t':=s.toks) (λb o hb e=>(sb.2 b hb).trans e) f0 f1 f3 f4 f5;obtain⟨o,e,c,d⟩:=id Æ;show⟨u,O,zx (s:=`l) e c d á ⟨x,H,I1,ru,⟨O,λys hy=>by rw[I.list_inj hy hq];show hx⟩,Æ,λb hb=>(hf b hb).1⟩⟩
 done:=by show`k;obtain⟨xs,hq,hx⟩:=hg;obtain⟨È,rv,p,hz⟩:=I.list hq;obtain⟨f0,f1,f2,f3,f4,f5⟩:=hf it Õ;have hl:=rv.length;show wpAny_pyNext_list_end (I.ok.hd hc) st p.isList (by simp;lia) λh' eb=>⟨O,I.turned (t':=s.toks) (λb o hb e=>eb b o hb e) f0 f1 f3 f4 f5⟩
 self:=λ_ _ _ _ _ st h=>wpAny_pyIter_listiter st h
theorem yc{K:Frag}(a it:Addr):į P w K tg (Itt K a) [it] it (λi h=>h.IsTupleIter it a i)where
 mem:=by simp
 obj:=λi h st b hb=>by
  have e:b=it:=by simpa using hb
  subst e;obtain⟨o,e,c,d⟩:=st;show⟨o,e,λv z=>by rw[d]at z;cases z⟩
 keep:=λi h h' st k=>st.at λo e=>k it Õ o e;item:=by show`k;obtain⟨xs,x,hq,hx⟩:=hg;obtain⟨È,rv,p,hz⟩:=I.tuple hq;obtain⟨u,hu,ru⟩:=rv.get hx;obtain⟨f0,f1,f2,f3,f4,f5⟩:=hf it Õ;show wpAny_pyNext_tuple_item st (show s.heap.IsTuple a È.toArray from p) (x:=u) (by simpa using hu) λh' Æ sb=>?_;have I1:É X Á σ H `l:=I.turned (t':=s.toks) (λb o hb e=>(sb.2 b hb).trans e) f0 f1 f3 f4 f5;obtain⟨o,e,c,d⟩:=id Æ;show⟨u,O,zx (s:=`l) e c d á ⟨x,H,I1,ru,⟨O,λys hy=>by rw[I.tuple_inj hy hq];show hx⟩,Æ,λb hb=>(hf b hb).1⟩⟩
 done:=by show`k;obtain⟨xs,hq,hx⟩:=hg;obtain⟨È,rv,p,hz⟩:=I.tuple hq;obtain⟨f0,f1,f2,f3,f4,f5⟩:=hf it Õ;have hl:=rv.length;show wpAny_pyNext_tuple_end (I.ok.hd hc) st (show s.heap.IsTuple a È.toArray from p) (by simp;lia) λh' eb=>⟨O,I.turned (t':=s.toks) (λb o hb e=>eb b o hb e) f0 f1 f3 f4 f5⟩
 self:=λ_ _ _ _ _ st h=>wpAny_pyIter_tupleiter st h
theorem yd{K:Frag}(it:Addr)(lo:Int)(n:Nat):į P w K tg (Itr lo n) [it] it (λi h=>IsRangeIter h it (lo+(i:Nat)*1) ((n:Int)-(i:Nat)) 1)where
 mem:=by simp
 obj:=λi h st b hb=>by
  have e:b=it:=by simpa using hb
  subst e;show⟨_,st,λv z=>by have z':Data.fields _=Data.cell v:=z;cases z'⟩
 keep:=λi h h' st k=>k it Õ _ st;item:=by show`k;obtain⟨f0,f1,f2,f3,f4,f5⟩:=hf it Õ;have W:=Walks.range (prog:=X.prog) (w:=X.w) (I.ok.hd hc) it lo 1 n;show W.item i s _ _ hg st λv h' tk hv Æ kk=>?_;obtain⟨t,rfl⟩:=hv;have I1:É X Á σ H {s with heap:=h',toks:=tk}:=I.turned (λb o hb e=>kk b o (by simpa using hb) e) f0 f1 f3 f4 f5;show⟨_,O,zx (s:={s with heap:=h',toks:=tk}) (n:="range_iterator") Æ O O á ⟨.int (lo+i),H,I1,⟨t,?_⟩,⟨O,O⟩,Æ,λb hb=>(hf b hb).1⟩⟩;rw[Int.mul_one]
 done:=by show`k;obtain⟨f0,f1,f2,f3,f4,f5⟩:=hf it Õ;show wpAny_pyNext_range_end (I.ok.hd hc) st (by have:n<=i:=hg;lia) λh' eb=>⟨O,I.turned (t':=s.toks) (λb o hb e=>eb b o hb e) f0 f1 f3 f4 f5⟩
 self:=λ_ _ _ _ _ st h=>wpAny_pyIter_rangeiter st h
section
variable{tg:Expr}
def K8(K:Frag)(tl:TE):TI:=λσ H R=>tl σ H λx H1=>∃a,x=.ref a/\(∃xs,Ë K H1 a xs)/\R (Itl K a) H1
def KZ(K:Frag)(tl:TE):TI:=λσ H R=>tl σ H λx H1=>∃a,x=.ref a/\(∃xs,Ñ K H1 a xs)/\R (Itt K a) H1
theorem bO(hl:PE X l tl):PI X tg l (K8 X.K tl):=by
 intro Á s σ H R I h;show Û (hl Á s σ H _ I h) λv s1=>?_;rintro⟨x,H1,I1,r1,q1⟩;obtain⟨a,e,⟨xs,hq⟩,q⟩:=q1;subst e;cases r1;obtain⟨È,rv,p,hz⟩:=I1.list hq;apply wpAny_pyIter_list p.isList;show⟨s1.heap.objs.size,[s1.heap.objs.size],_,_,H1,O,I1.kept (t':=s1.toks) λb o e=>ò _ e,Cm a _,⟨_,Ģ _ O,O,O⟩,λb hb=>?_,q⟩;have e:b=s1.heap.objs.size:=by simpa using hb
 subst e;show I1.fpOk (Ø _) (I1.hok.fresh (Ø _))
theorem iz(hl:PE X l tl):PI X tg l (KZ X.K tl):=by
 intro Á s σ H R I h;show Û (hl Á s σ H _ I h) λv s1=>?_;rintro⟨x,H1,I1,r1,q1⟩;obtain⟨a,e,⟨xs,hq⟩,q⟩:=q1;subst e;cases r1;obtain⟨È,rv,p,hz⟩:=I1.tuple hq;apply wpAny_pyIter_tuple (p);show⟨s1.heap.objs.size,[s1.heap.objs.size],_,_,H1,O,I1.kept (t':=s1.toks) λb o e=>ò _ e,yc a _,⟨_,Ģ _ O,O,O⟩,λb hb=>?_,q⟩;have e:b=s1.heap.objs.size:=by simpa using hb
 subst e;show I1.fpOk (Ø _) (I1.hok.fresh (Ø _))
theorem vO{σ:St}{lo hi:Int}(I:`c)(h1:-(2^62)<=lo)(h2:lo<2^62)(h3:-(2^62)<=hi)(h4:hi<2^62)(q:R (Itr lo (hi-lo).toNat) H):wpAny `d X.A (pyIter (`g)) (PIE X Á σ tg R) E {s with heap:=s.heap.push {cls:=.type "range",data:=.fields #[.int lo t,.int hi u,.int 1 v]},toks:=tk}:=by
 apply wpAny_pyIter_range (IsRange.new ..) (small_one h1 h2 h3 h4);have I1:É X Á σ H {s with heap:=s.heap.push {cls:=.type "range",data:=.fields #[.int lo t,.int hi u,.int 1 v]},toks:=tk}:=I.kept λb o e=>ò _ e;show⟨(s.heap.push {cls:=.type "range",data:=.fields #[.int lo t,.int hi u,.int 1 v]}).objs.size,[(s.heap.push {cls:=.type "range",data:=.fields #[.int lo t,.int hi u,.int 1 v]}).objs.size],_,_,H,O,I1.kept (t':=tk) λb o e=>ò _ e,yd _ lo (hi-lo).toNat,?_,λb hb=>?_,q⟩
 .have e1:lo+((0:Nat):Int)*1=lo:=by simp
  have e2:(((hi-lo).toNat:Nat):Int)-((0:Nat):Int)=Builtin.Range.rangeSize lo hi 1:=by rw[rangeSize_one];split<;>lia
  rw[e1,e2];show Ģ _ O
 .have e:b=(s.heap.push {cls:=.type "range",data:=.fields #[.int lo t,.int hi u,.int 1 v]}).objs.size:=by simpa using hb
  subst e;show I1.fpOk (Ø _) (I1.hok.fresh (Ø _))
def Ni(ta:TA):TI:=λσ H R=>ta σ H λvs H1=>∃j,vs=[.int j]/\-(2^62)<=j/\j<2^62/\R (Itr 0 j.toNat) H1
def Nj(ta:TA):TI:=λσ H R=>ta σ H λvs H1=>∃i j,vs=[.int i,.int j]/\(-(2^62)<=i/\i<2^62/\-(2^62)<=j/\j<2^62)/\R (Itr i (j-i).toNat) H1
theorem cH(hg:Gl X "range")(hm:X.mg "range"=none)(ha:PA X [a] ta)(hs:starEach [a] X.env=[(false,eval a X.env)]:=by rfl):PI X tg (.Call (.Name "range" p) [a] [] pos) (Ni ta):=by intro Á s σ H R I h;show Call_ (iw I hg hm boot_range (PyProof.Rows.callWith_type1 (Û (ha pos Á s σ H _ I h) λus s1=>?_) hs O));rintro⟨vs,H1,I1,r1,q1⟩;obtain⟨j,e,q1,q2,q⟩:=q1;subst e;cases r1 with|cons r rr=>cases rr;obtain⟨t,rfl⟩:=r;show call_range_1 (vO I1 À À q1 q2 (by simpa using q))
theorem rZ{p pos:Pos}(hg:Gl X "range")(hm:X.mg "range"=none)(ha:PA X [a,b] ta)(hs:starEach [a,b] X.env=[(false,eval a X.env),(false,eval b X.env)]:=by rfl)(tS:starEach [b] X.env=[(false,eval b X.env)]:=by rfl):PI X tg (.Call (.Name "range" p) [a,b] [] pos) (Nj ta):=by intro Á s σ H R I h;show Call_ (iw I hg hm boot_range (PyProof.Rows.callWith_type1 (Û (ha pos Á s σ H _ I h) λus s1=>?_) (by rw[hs,tS]) (by rw[tS];rfl)));rintro⟨vs,H1,I1,r1,q1⟩;obtain⟨i,j,e,⟨q1,q2,q3,q4⟩,q⟩:=q1;subst e;cases r1 with|cons r rr=>cases rr with|cons r' rr=>cases rr;obtain⟨t,rfl⟩:=r;obtain⟨t',rfl⟩:=r';show call_range_2 (vO I1 q1 q2 q3 q4 q)
def Q8(wi:TI)(g:TG)(tb:TS):TS:=λD σ H=>wi σ H λJ H1=>∃W:Nat->Nat->St->Hp->Prop,(∃m,W 0 m σ H1)/\∀i m σ H,W i m σ H->(J.stop i H/\D.nx σ H)\/(J.go i H/\∃N,(∀af H',N af H'->∃m',m'<m/\W (i+1) m' af H')/\∀x H',J.yld i H x H'->g x σ H' λay H2=>tb {D with nx:=N,ct:=N,bk:=D.nx} ay H2)
def iY(fp:ø)(h:Heap):gV:=fp.filterMap λb=>(h.get? b).map λo=>(b,o)
theorem eO(hb:b∈fp)(e:h.get? b=some o):(b,o)∈iY fp h:=Zch.mpr ⟨b,hb,by rw[e];rfl⟩
theorem su(hp:p∈iY fp h):p.1∈fp/\h.get? p.1=some p.2:=by obtain⟨b,hb,e⟩:=Zch.mp hp;cases q:h.get? b with|none=>rw[q]at e;cases e;|some o=>rw[q]at e;have e':(b,o)=p:=ģ e;subst e';show⟨hb,q⟩
theorem É.pinned{σ:St}(I:`c)(hf:∀b∈fp,gB X Á H b)(ho:∀b∈fp,∃o,s.heap.get? b=some o/\∀v,o.data≠.cell v):É X (Á++iY fp s.heap) σ H s:=I.pins_of λp hp=>(è.mp hp).elim (λz=>I.pin p (Ļ _ z)) λz=>by obtain⟨hb,e⟩:=su z;obtain⟨f0,f1,f2,_⟩:=hf p.1 hb;obtain⟨o,e',d⟩:=ho p.1 hb;rw[e]at e';cases e';show⟨e,f0,f1,f2,d⟩
theorem É.unpinned{σ:St}(I:É X (Á++pl) σ H s):`c:=I.pins_of λp hp=>I.pin p (Ļ _ (Zav _ hp))
theorem bR(hp:PassesOwn `d X.A X.env X.xe)(hc:X.calm=true)(hi:PI X tg iter wi)(hg:PG X tg g)(hb:Ψ X body tb)(hs:∀x,foldedSetIterable iter X.env x=pure x:=by intro _;rfl):PS X (.For tg iter body [] pos) (Q8 wi g tb):=by
 intro Á s σ H D I h;refine wpAny_For (Û (hi Á s σ H _ I h) λv s1 h1=>Û h1 λCH s2 h2=>?_) hs;obtain⟨it,fp,tn,J,H2,e,I2,T,st2,f2,W,⟨m0,w0⟩,turn⟩:=h2;subst e;have w9:∀{H':Hp},(∀b∈fp,H' b=none)->∀b∈fp,gB X Á H' b:=λhn b hb=>⟨hn b hb,(f2 b hb).2⟩;refine codeAny_forLoop_any (λn s'=>∃i af H',É X Á af H' s'/\tn i s'.heap/\(∀b∈fp,H' b=none)/\W i n af H') ?_ m0 ⟨0,σ,H2,I2,st2,λb hb=>(f2 b hb).1,w0⟩;rintro n s3⟨i,fA,H3,I3,gz,tT,w3⟩;rcases turn i n fA H3 w3 with⟨stop,qn⟩|⟨go,N,hN,step⟩;.refine wpAny_passesOwn hp (Û (T.done X O O O hc i Á s3 fA H3 X.xe I3 (w9 tT) gz stop) λr s4=>?_);rintro⟨hr,I4⟩;subst hr;show wpAny_execs_nil ⟨fA,H3,I4,qn⟩
 .refine wpAny_passesOwn hp (Û (T.item X O O O hc i Á s3 fA H3 X.xe I3 (w9 tT) gz go) λr s4=>?_);rintro⟨u,hr,h4⟩;subst hr;show wpAny_passesOwn hp (Û h4 λ_ s5=>?_);rintro⟨x,H5,I5,r5,y5,mB,CI⟩;have CL:=I5.pinned (w9 CI) (T.obj _ _ mB);show wpAny_passesOwn hp (Û (hg _ s5 fA H5 x u _ CL r5 (step x H5 y5)) λ_ s6=>?_);rintro⟨qh,H6,I6,q6⟩;show wpAny_passesOwn hp (Û (hb _ s6 qh H6 _ I6 q6) λf s7 q7=>?_);have again:∀{mE:St}{H7:Hp},É X (Á++iY fp s5.heap) mE H7 s7->N mE H7->∃m,m<n/\∃i af H',É X Á af H' s7/\tn i s7.heap/\(∀b∈fp,H' b=none)/\W i m af H':=λ{mE H7}I7 n7=>by obtain⟨m',hm,w7⟩:=hN mE H7 n7;show⟨m',hm,i+1,mE,H7,I7.unpinned,T.keep _ _ _ mB λb hb o e=>(I7.pin (b,o) (Ļ _ (Ļ _ (eO hb e)))).1,λb hb=>?_,w7⟩;obtain⟨o,e,d⟩:=T.obj _ _ mB b hb;show(I7.pin (b,o) (Ļ _ (Ļ _ (eO hb e)))).2.1
  cases f with|next=>obtain⟨mE,H7,I7,n7⟩:=q7;exact again I7 n7;|cont=>obtain⟨mE,H7,I7,n7⟩:=q7;exact again I7 n7;|brk=>obtain⟨mE,H7,I7,q7⟩:=q7;exact⟨mE,H7,I7.unpinned,q7⟩;|ret v=>obtain⟨x7,mE,H7,I7,r7,q7⟩:=q7;show⟨x7,mE,H7,I7.unpinned,r7,q7⟩
end
theorem gb{K:Frag}{g:TG}{tb:TS}{D:œ}{σ:St}{H:Hp}(Pv:Nat->St->Hp->Prop)(h0:Pv 0 σ H)(hl:∀i σ H,i<=xs.length->Pv i σ H->Ë K H a xs)(hs:∀i x σ H,xs[i]?=some x->Pv i σ H->g x σ H λay H2=>tb {D with nx:=Pv (i+1),ct:=Pv (i+1),bk:=D.nx} ay H2)(hd:∀σ H,Pv xs.length σ H->D.nx σ H):∃W:Nat->Nat->St->Hp->Prop,(∃m,W 0 m σ H)/\∀i m σ H,W i m σ H->((Itl K a).stop i H/\D.nx σ H)\/((Itl K a).go i H/\∃N,(∀af H',N af H'->∃m',m'<m/\W (i+1) m' af H')/\∀x H',(Itl K a).yld i H x H'->g x σ H' λay H2=>tb {D with nx:=N,ct:=N,bk:=D.nx} ay H2):=by
 show⟨λi m σ H=>m=xs.length-i/\i<=xs.length/\Pv i σ H,⟨xs.length,by simp,Ė _,h0⟩,?_⟩;rintro i m σ H⟨rfl,hi,p⟩;have q:=hl i σ H hi p;by_cases ax:i<xs.length;.refine .inr ⟨⟨xs,xs[i],q,by simp[ax]⟩,Pv (i+1),λaf H' p'=>⟨xs.length-(i+1),À,O,ax,p'⟩,λx H' y=>?_⟩;obtain⟨e,y⟩:=y;subst e;show hs i x σ _ (y xs q) p
 .have e:i=xs.length:=À;subst e;show .inl ⟨⟨xs,q,Ø _⟩,hd σ H p⟩
theorem Iu{K:Frag}{g:TG}{tb:TS}{D:œ}{σ:St}{H:Hp}(Pv:Nat->St->Hp->Prop)(h0:Pv 0 σ H)(hl:∀i σ H,i<=xs.length->Pv i σ H->Ñ K H a xs)(hs:∀i x σ H,xs[i]?=some x->Pv i σ H->g x σ H λay H2=>tb {D with nx:=Pv (i+1),ct:=Pv (i+1),bk:=D.nx} ay H2)(hd:∀σ H,Pv xs.length σ H->D.nx σ H):∃W:Nat->Nat->St->Hp->Prop,(∃m,W 0 m σ H)/\∀i m σ H,W i m σ H->((Itt K a).stop i H/\D.nx σ H)\/((Itt K a).go i H/\∃N,(∀af H',N af H'->∃m',m'<m/\W (i+1) m' af H')/\∀x H',(Itt K a).yld i H x H'->g x σ H' λay H2=>tb {D with nx:=N,ct:=N,bk:=D.nx} ay H2):=by
 show⟨λi m σ H=>m=xs.length-i/\i<=xs.length/\Pv i σ H,⟨xs.length,by simp,Ė _,h0⟩,?_⟩;rintro i m σ H⟨rfl,hi,p⟩;have q:=hl i σ H hi p;by_cases ax:i<xs.length;.refine .inr ⟨⟨xs,xs[i],q,by simp[ax]⟩,Pv (i+1),λaf H' p'=>⟨xs.length-(i+1),À,O,ax,p'⟩,λx H' y=>?_⟩;obtain⟨e,y⟩:=y;subst e;show hs i x σ _ (y xs q) p
 .have e:i=xs.length:=À;subst e;show .inl ⟨⟨xs,q,Ø _⟩,hd σ H p⟩
theorem dh{lo:Int}{g:TG}{tb:TS}{D:œ}(Pv:Nat->St->Hp->Prop)(h0:Pv 0 σ H)(hs:∀i σ H,i<n->Pv i σ H->g (.int (lo+i)) σ H λay H2=>tb {D with nx:=Pv (i+1),ct:=Pv (i+1),bk:=D.nx} ay H2)(hd:∀σ H,Pv n σ H->D.nx σ H):∃W:Nat->Nat->St->Hp->Prop,(∃m,W 0 m σ H)/\∀i m σ H,W i m σ H->((Itr lo n).stop i H/\D.nx σ H)\/((Itr lo n).go i H/\∃N,(∀af H',N af H'->∃m',m'<m/\W (i+1) m' af H')/\∀x H',(Itr lo n).yld i H x H'->g x σ H' λay H2=>tb {D with nx:=N,ct:=N,bk:=D.nx} ay H2):=by
 show⟨λi m σ H=>m=n-i/\i<=n/\Pv i σ H,⟨n,by simp,Ė _,h0⟩,?_⟩;rintro i m σ H⟨rfl,hi,p⟩;by_cases ax:i<n;.refine .inr ⟨ax,Pv (i+1),λaf H' p'=>⟨n-(i+1),À,O,ax,p'⟩,λx H' y=>?_⟩;obtain⟨e,y⟩:=y;subst e y;show hs i σ _ ax p
 .have e:i=n:=À;subst e;show .inl ⟨Ø _,hd σ H p⟩
abbrev R2:=V->V->Hp->VK->Prop
def Ī(X:Cx)(f:Value->Value->Sem Value)(r:R2):Prop:=∀Á s(σ:St)H x y v u Q,`c->Ò x v->Ò y u->r x y H Q->wpAny `d X.A (f v u) (EP X Á σ Q) X.xe s
def UnR(X:Cx)(f:Value->Sem Value)(r:V->Hp->VK->Prop):Prop:=∀Á s(σ:St)H x v Q,`c->Ò x v->r x H Q->wpAny `d X.A (f v) (EP X Á σ Q) X.xe s
def cZ(X:Cx)(f:Value)(r:List V->Hp->VK->Prop):Prop:=∀Á s(σ:St)H xs us Q,`c->Î xs us->r xs H Q->wpAny `d X.A (call f us) (EP X Á σ Q) X.xe s
def tOp(r:R2)(ta tb:TE):TE:=λσ H Q=>ta σ H λx H1=>tb σ H1 λy H2=>r x y H2 Q
def tUn(r:V->Hp->VK->Prop)(ta:TE):TE:=λσ H Q=>ta σ H λx H1=>r x H1 Q
inductive RII(C:Int->Int->Prop)(g:Int->Int->V)(x:V)(y:V)(H:Hp)(Q:VK):Prop|mk:∀i j,(x=.int i)->(y=.int j)->(C i j)->(Q (g i j) H)->RII C g x y H Q
def rI(C:Int->Int->Prop)(g:Int->Int->V):R2:=λx y H Q=>RII C g x y H Q
inductive RI0I(g:Int->Int->V)(x:V)(y:V)(H:Hp)(Q:VK):Prop|mk:∀i j,(x=.int i)->(y=.int j)->(Q (g i j) H)->RI0I g x y H Q
def ϥ(g:Int->Int->V):R2:=λx y H Q=>RI0I g x y H Q
inductive RUI(g:Int->V)(x:V)(H:Hp)(Q:VK):Prop|mk:∀i,(x=.int i)->(Q (g i) H)->RUI g x H Q
def rU(g:Int->V):V->Hp->VK->Prop:=λx H Q=>RUI g x H Q
section
theorem La(ha:PE X a ta)(hb:PE X b tb){σ:St}{R:V->V->Hp->Prop}(I:`c)(h:ta σ H λx H1=>tb σ H1 λy H2=>R x y H2){Q:Ry}{f:Value->Value->Sem Value}(hf:∀v u s2 x y H2,É X Á σ H2 s2->Ò x v->Ò y u->R x y H2->wpAny `d X.A (f v u) Q X.xe s2):wpAny `d X.A (eval a X.env) (λv s₁=>wpAny `d X.A (eval b X.env) (λu s₂=>wpAny `d X.A (f v u) Q X.xe s₂) X.xe s₁) X.xe s:=by show Û (ha Á s σ H _ I h) λv s1=>?_;rintro⟨x,H1,I1,r1,q1⟩;show Û (hb Á s1 σ H1 _ I1 q1) λu s2=>?_;rintro⟨y,H2,I2,r2,q2⟩;show hf v u s2 x y H2 I2 r1 r2 q2
theorem aU(ho:Ī X (binaryOp op) r)(ha:PE X a ta)(hb:PE X b tb):PE X (.BinOp a op b pos) (tOp r ta tb):=by intro Á s σ H Q I h;show wpAny_BinOp (La ha hb I h λv u s2 x y H2 I2 rx ry q=>ho Á s2 σ H2 x y v u Q I2 rx ry q)
theorem K9(ho:UnR X (unaryOp op) r)(ha:PE X a ta):PE X (.UnaryOp op a pos) (tUn r ta):=by intro Á s σ H Q I h;show UnaryOp_ (Û (ha Á s σ H _ I h) λv s1=>by rintro⟨x,H1,I1,r1,q1⟩;show ho Á s1 σ H1 x v Q I1 r1 q1)
theorem opI{g:Int->Int->Int}(rule:∀i j t u s Q E,C i j->Q (.int (g i j) s.toks) {s with toks:=s.toks+1}->wpAny `d X.A (f (.int i t) (.int j u)) Q E s):Ī X f (rI C λi j=>.int (g i j)):=by intro Á s σ H x y v u Q I rx ry h;obtain⟨i,j,rfl,rfl,hc,q⟩:=h;obtain⟨t,rfl⟩:=rx;obtain⟨t',rfl⟩:=ry;show rule i j t t' s _ _ hc ⟨.int (g i j),H,I.tok _,`i,q⟩
theorem Nk{g:Int->Int->Int}(rule:∀i j t u s Q E,Q (.int (g i j) s.toks) {s with toks:=s.toks+1}->wpAny `d X.A (f (.int i t) (.int j u)) Q E s):Ī X f (ϥ λi j=>.int (g i j)):=by intro Á s σ H x y v u Q I rx ry h;obtain⟨i,j,rfl,rfl,q⟩:=h;obtain⟨t,rfl⟩:=rx;obtain⟨t',rfl⟩:=ry;show rule i j t t' s _ _ ⟨.int (g i j),H,I.tok _,`i,q⟩
theorem Iv{g:Int->Int->Bool}(rule:∀i j t u s Q E,Q (.bool (g i j)) s->wpAny `d X.A (f (.int i t) (.int j u)) Q E s):Ī X f (ϥ λi j=>.bl (g i j)):=by intro Á s σ H x y v u Q I rx ry h;obtain⟨i,j,rfl,rfl,q⟩:=h;obtain⟨t,rfl⟩:=rx;obtain⟨t',rfl⟩:=ry;show rule i j t t' s _ _ ⟨.bl (g i j),H,I,O,q⟩
def Q9(i j:Int):Prop:=0<j/\j<1073741824
def Qa(i j:Int):Prop:=0<=j/\j<=1000000/\i.natAbs<2^64
def Z10(i j:Int):Prop:=(-(2^64)<i/\i<2^64)\/(-(2^64)<j/\j<2^64)
theorem Z10.ok(h:Z10 i j):IntMulOk i j:=by
 rcases h with⟨h1,h2⟩|⟨h1,h2⟩;.exact .of_left (intBits_le_64 h1 h2)
 .exact .of_right (intBits_le_64 h1 h2)
theorem cA:Ī X (binaryOp .Add) (ϥ λi j=>.int (i+j)):=Nk λ_ _ _ _ _ _ _ q=>add_int q
theorem eQ:Ī X (binaryOp .Sub) (ϥ λi j=>.int (i-j)):=Nk λ_ _ _ _ _ _ _ q=>sub_int q
theorem gM:Ī X (binaryOp .Mult) (rI Z10 λi j=>.int (i*j)):=opI λ_ _ _ _ _ _ _ hc q=>mul_int q hc.ok
theorem nZ:Ī X (binaryOp .FloorDiv) (rI Q9 λi j=>.int (i/j)):=opI λi j _ _ _ _ _ hc q=>by have h1:(0:Int)<j:=hc.1;have h2:j<1073741824:=hc.2;show floordiv_int À (by rw[Int.fdiv_eq_ediv_of_nonneg i À];show q) (.inl (PyProof.noPylong_small À))
theorem iZ:Ī X (binaryOp .Mod) (rI (λ_ j=>0<j) λi j=>.int (i%j)):=opI λi j _ _ _ _ _ hc q=>by show mod_int' À (by rw[Int.fmod_eq_emod_of_nonneg i À];show q)
theorem Ld:Ī X (binaryOp .Pow) (rI Qa λi j=>.int (i^j.toNat)):=opI λ_ _ _ _ _ _ _ hc q=>pow_int_small hc.1 hc.2.1 hc.2.2 q
theorem unI{g:Int->Int}(rule:∀i t s Q E,Q (.int (g i) s.toks) {s with toks:=s.toks+1}->wpAny `d X.A (f (.int i t)) Q E s):UnR X f (rU λi=>.int (g i)):=by intro Á s σ H x v Q I rx h;obtain⟨i,rfl,q⟩:=h;obtain⟨t,rfl⟩:=rx;show rule i t s _ _ ⟨.int (g i),H,I.tok _,`i,q⟩
theorem Eg:UnR X (unaryOp .USub) (rU λi=>.int (-i)):=unI λ_ _ _ _ _ q=>neg_int q
end
def Nm:V->V->Bool|.non,.non=>true|.non,.int _=>true|.int _,.non=>true|.non,.bl _=>true|.bl _,.non=>true|.non,.str _=>true|.str _,.non=>true|.int _,.int _=>true|.bl _,.bl _=>true|.str _,.str _=>true|.byt _,.byt _=>true|.int _,.str _=>true|.str _,.int _=>true|.bl _,.str _=>true|.str _,.bl _=>true|_,_=>false
def rEq:R2:=λx y H Q=>Nm x y=true/\Q (.bl (decide (x=y))) H
def rNe:R2:=λx y H Q=>Nm x y=true/\Q (.bl (!decide (x=y))) H
theorem zy:decide (V.int i=V.int j)=(i==j):=by rw[Bool.eq_iff_iff];simp
theorem Eh:decide (V.bl i=V.bl j)=(i==j):=by rw[Bool.eq_iff_iff];simp
theorem zF:decide (V.str i=V.str j)=(i==j):=by rw[Bool.eq_iff_iff];simp
theorem zG:decide (V.byt i=V.byt j)=(i.toList==j.toList):=by rw[Bool.eq_iff_iff];cases i;cases j;simp
section
theorem bJ{σ:St}(I:`c)(q:Q (.bl k) H)(e:k=k'):EP X Á σ Q (.bool k') s:=by subst e;show⟨.bl k,H,I,O,q⟩
theorem jV:Ī X (compareOp .Eq) rEq:=by intro Á s σ H x y v u Q I rx ry h;obtain⟨hs,q⟩:=h;cases x with
 |non=>cases rx;cases y with|non=>cases ry;exact PySem.EqNone.eq_none_none (bJ I q Õ);|bl j=>cases ry;exact PySem.EqNone.eq_none_bool (bJ I q Õ);|int j=>obtain⟨t',rfl⟩:=ry;exact PySem.EqNone.eq_none_int (bJ I q Õ);|str j=>obtain⟨t',rfl⟩:=ry;exact PySem.EqNone.eq_none_str (bJ I q Õ);|_=>show absurd (show false=true from hs) Ō
 |bl i=>cases rx;cases y with|non=>cases ry;exact PySem.EqNone.eq_bool_none (bJ I q Õ);|bl j=>cases ry;exact eq_bool (bJ I q Eh);|str j=>obtain⟨t',rfl⟩:=ry;exact PySem.EqMixed.eq_bool_str (bJ I q Õ);|_=>show absurd (show false=true from hs) Ō
 |int i=>obtain⟨t,rfl⟩:=rx;cases y with|non=>cases ry;exact PySem.EqNone.eq_int_none (bJ I q Õ);|int j=>obtain⟨t',rfl⟩:=ry;exact eq_int (bJ I q zy);|str j=>obtain⟨t',rfl⟩:=ry;exact PySem.EqMixed.eq_int_str (bJ I q Õ);|_=>show absurd (show false=true from hs) Ō
 |str i=>obtain⟨t,rfl⟩:=rx;cases y with|non=>cases ry;exact PySem.EqNone.eq_str_none (bJ I q Õ);|bl j=>cases ry;exact PySem.EqMixed.eq_str_bool (bJ I q Õ);|int j=>obtain⟨t',rfl⟩:=ry;exact PySem.EqMixed.eq_str_int (bJ I q Õ);|str j=>obtain⟨t',rfl⟩:=ry;exact eq_str (bJ I q zF);|_=>show absurd (show false=true from hs) Ō
 |byt i=>obtain⟨t,rfl⟩:=rx;cases y with|byt j=>obtain⟨t',rfl⟩:=ry;exact PySem.W.eq_bytes (bJ I q zG);|_=>show absurd (show false=true from hs) Ō
 |_=>cases y<;>show absurd (show false=true from hs) Ō
theorem zH:Ī X (compareOp .NotEq) rNe:=by intro Á s σ H x y v u Q I rx ry h;obtain⟨hs,q⟩:=h;cases x with
 |non=>cases rx;cases y with|non=>cases ry;exact PySem.EqNone.ne_none_none (bJ I q Õ);|bl j=>cases ry;exact PySem.EqNone.ne_none_bool (bJ I q Õ);|int j=>obtain⟨t',rfl⟩:=ry;exact PySem.EqNone.ne_none_int (bJ I q Õ);|str j=>obtain⟨t',rfl⟩:=ry;exact PySem.EqNone.ne_none_str (bJ I q Õ);|_=>show absurd (show false=true from hs) Ō
 |bl i=>cases rx;cases y with|non=>cases ry;exact PySem.EqNone.ne_bool_none (bJ I q Õ);|bl j=>cases ry;exact ne_bool (bJ I q (congrArg not Eh));|str j=>obtain⟨t',rfl⟩:=ry;exact PySem.EqMixed.ne_bool_str (bJ I q Õ);|_=>show absurd (show false=true from hs) Ō
 |int i=>obtain⟨t,rfl⟩:=rx;cases y with|non=>cases ry;exact PySem.EqNone.ne_int_none (bJ I q Õ);|int j=>obtain⟨t',rfl⟩:=ry;exact ne_int (bJ I q (congrArg not zy));|str j=>obtain⟨t',rfl⟩:=ry;exact PySem.EqMixed.ne_int_str (bJ I q Õ);|_=>show absurd (show false=true from hs) Ō
 |str i=>obtain⟨t,rfl⟩:=rx;cases y with|non=>cases ry;exact PySem.EqNone.ne_str_none (bJ I q Õ);|bl j=>cases ry;exact PySem.EqMixed.ne_str_bool (bJ I q Õ);|int j=>obtain⟨t',rfl⟩:=ry;exact PySem.EqMixed.ne_str_int (bJ I q Õ);|str j=>obtain⟨t',rfl⟩:=ry;exact ne_str (bJ I q (congrArg not zF));|_=>show absurd (show false=true from hs) Ō
 |byt i=>obtain⟨t,rfl⟩:=rx;cases y with|byt j=>obtain⟨t',rfl⟩:=ry;exact PySem.W.ne_bytes (bJ I q (congrArg not zG));|_=>show absurd (show false=true from hs) Ō
 |_=>cases y<;>show absurd (show false=true from hs) Ō
theorem jA:Ī X (compareOp .Lt) (ϥ λi j=>.bl (decide (i<j))):=Iv λ_ _ _ _ _ _ _ q=>lt_int q
theorem cN:Ī X (compareOp .LtE) (ϥ λi j=>.bl (decide (i<=j))):=Iv λ_ _ _ _ _ _ _ q=>le_int q
theorem jW:Ī X (compareOp .Gt) (ϥ λi j=>.bl (decide (j<i))):=Iv λ_ _ _ _ _ _ _ q=>gt_int q
theorem zJ:Ī X (compareOp .GtE) (ϥ λi j=>.bl (decide (j<=i))):=Iv λ_ _ _ _ _ _ _ q=>ge_int q
theorem Ei:Ī X (compareOp .Is) (λx y H Q=>y=.non/\Q (.bl (decide (x=.non))) H):=by intro Á s σ H x y v u Q I rx ry h;obtain⟨rfl,q⟩:=h;cases ry;refine is_none_gen (bJ I q ?_);cases x<;>first|(cases rx;rfl);|(obtain⟨t,rfl⟩:=rx;rfl)
theorem bx(b:Expr)(h:op≠.In:=by decide)(h2:op≠.NotIn:=by decide):behindInMarks op b=false:=by
 have e1:(op==CmpOp.In)=false:=by cases op<;>first|rfl|show absurd O h
 have e2:(op==CmpOp.NotIn)=false:=by cases op<;>first|rfl|show absurd O h2
 cases b<;>simp[behindInMarks,e1,e2]
theorem jX(ho:Ī X (compareOp op) r)(ha:PE X a ta)(hb:PE X b tb)(hm:behindInMarks op b=false):PE X (.Compare a [op] [b] pos) (tOp r ta tb):=by intro Á s σ H Q I h;show wpAny_Compare1 (La ha hb I h λv u s2 x y H2 I2 rx ry q=>ho Á s2 σ H2 x y v u Q I2 rx ry q) hm
def Ka(t:TE):TT:=λσ H Q=>t σ H λx H'=>∃k,x=.bl k/\Q k H'
theorem bj(ho:Ī X (compareOp op) r)(ha:PE X a ta)(hb:PE X b tb)(hm:behindInMarks op b=false):PT X (.Compare a [op] [b] pos) (Ka (tOp r ta tb)):=by intro Á s σ H Q I h;show wpAny_isTrue_Compare1 (Û (ha Á s σ H _ I h) λv s1⟨x,H1,I1,r1,q1⟩=>Û (hb Á s1 σ H1 _ I1 q1) λu s2⟨y,H2,I2,r2,q2⟩=>Û (ho Á s2 σ H2 x y v u _ I2 r1 r2 q2) λc s3⟨z,H3,I3,r3,k,e,q3⟩=>?_) hm;subst e;cases r3;show wpAny_truthy_bool ⟨H3,I3,q3⟩
def ye(r r':R2)(ta tb tc:TE):TE:=λσ H Q=>ta σ H λx H1=>tb σ H1 λy H2=>r x y H2 λz H3=>∃k,z=.bl k/\(if k=true then tc σ H3 λw' H4=>r' y w' H4 Q else Q (.bl false) H3)
theorem d9(ho:Ī X (compareOp op) r)(mw:Ī X (compareOp xb) r')(ha:PE X a ta)(hb:PE X b tb)(hc:PE X c tc)(hm:lastMarks [op,xb] [b,c]=false:=by with_unfolding_all rfl):PE X (.Compare a [op,xb] [b,c] pos) (ye r r' ta tb tc):=by intro Á s σ H Q I h;refine Compare_chain (Û (ha Á s σ H _ I h) λv s1⟨x,H1,I1,r1,q1⟩=>chain_link (Û (hb Á s1 σ H1 _ I1 q1) λu s2⟨y,H2,I2,r2,q2⟩=>Û (ho Á s2 σ H2 x y v u _ I2 r1 r2 q2) λd s3⟨z,H3,I3,r3,k,e,q3⟩=>?_)) hm;subst e;cases r3;apply wpAny_truthy_bool;cases k with|false=>exact ite_ff ⟨.bl false,H3,I3,O,q3⟩;|true=>show ite_tt (chain_last (Û (hc Á s3 σ H3 _ I3 q3) λw' s4=>by rintro⟨z',H4,I4,r4,q4⟩;show mw Á s4 σ H4 y z' u w' Q I4 r2 r4 q4))
theorem oW(ho:Ī X (compareOp op) r)(mw:Ī X (compareOp xb) r')(ha:PE X a ta)(hb:PE X b tb)(hc:PE X c tc)(hm:lastMarks [op,xb] [b,c]=false:=by with_unfolding_all rfl):PT X (.Compare a [op,xb] [b,c] pos) (Ka (ye r r' ta tb tc)):=by intro Á s σ H Q I h;refine isTrue_chain (Û (ha Á s σ H _ I h) λv s1⟨x,H1,I1,r1,q1⟩=>test_link (Û (hb Á s1 σ H1 _ I1 q1) λu s2⟨y,H2,I2,r2,q2⟩=>Û (ho Á s2 σ H2 x y v u _ I2 r1 r2 q2) λd s3⟨z,H3,I3,r3,k,e,q3⟩=>?_)) hm;subst e;cases r3;apply wpAny_truthy_bool;cases k with|false=>obtain⟨k',e',q'⟩:=q3;cases e';exact ite_ff ⟨H3,I3,q'⟩;|true=>show ite_tt (test_last (Û (hc Á s3 σ H3 _ I3 q3) λw' s4⟨z',H4,I4,r4,q4⟩=>Û (mw Á s4 σ H4 y z' u w' _ I4 r2 r4 q4) λd' s5=>?_));rintro⟨z2,H5,I5,r5,k2,e2,q5⟩;subst e2;cases r5;show wpAny_truthy_bool ⟨H5,I5,q5⟩
theorem mq:(sizeLine:Nat)<2^63:=by rw[sizeLine_eq];decide
theorem ô(r:Î [x] us):∃u,us=[u]/\Ò x u:=by cases r with|cons r1 r2=>cases r2;show⟨_,O,r1⟩
theorem Ŝ(r:Î [x,y] us):∃u w',us=[u,w']/\Ò x u/\Ò y w':=by cases r with|cons r1 r2=>cases r2 with|cons r3 r4=>cases r4;show⟨_,_,O,r1,r3⟩
theorem jl(hc:X.calm=true):cZ X (.builtin "max") (λxs H Q=>∃i j,xs=[.int i,.int j]/\Q (.int (if j>i then j else i)) H):=by
 intro Á s σ H xs us Q I r h;obtain⟨i,j,rfl,q⟩:=h;obtain⟨u,w',rfl,⟨t,rfl⟩,⟨t',rfl⟩⟩:=Ŝ r;show max_two_ints (I.ok.hd hc) λh' tk k=>⟨_,H,I.kept k,?_,q⟩;by_cases hj:j>i;.rw[Ê hj,Ê hj];show`i
 .rw[Ç hj,Ç hj];show`i
theorem fY(hc:X.calm=true):cZ X (.builtin "min") (λxs H Q=>∃i j,xs=[.int i,.int j]/\Q (.int (if j<i then j else i)) H):=by
 intro Á s σ H xs us Q I r h;obtain⟨i,j,rfl,q⟩:=h;obtain⟨u,w',rfl,⟨t,rfl⟩,⟨t',rfl⟩⟩:=Ŝ r;show min_two_ints (I.ok.hd hc) λh' tk k=>⟨_,H,I.kept k,?_,q⟩;by_cases hj:j<i;.rw[Ê hj,Ê hj];show`i
 .rw[Ç hj,Ç hj];show`i
theorem Cp:cZ X (.type "int") (λxs H Q=>(∃i,xs=[.int i]/\Q (.int i) H)\/∃k,xs=[.bl k]/\Q (.int (if k then 1 else 0)) H):=by
 intro Á s σ H xs us Q I r h;rcases h with⟨i,rfl,q⟩|⟨k,rfl,q⟩;.obtain⟨u,rfl,t,rfl⟩:=ô r;show call_int_int ⟨.int i,H,I,`i,q⟩
 .obtain⟨u,rfl,r1⟩:=ô r;cases r1;show call_int_bool ⟨.int (if k then 1 else 0),H,I.tok _,`i,q⟩
end
structure Z0z(h:Heap)(x dx C:Addr)(mA:UW):Prop where
 obj:h.get? x=some (PySem.W.instObj C dx)ns:h.Ns1 dx mA
 ne:dx≠x
theorem Cq{h:Heap}(n:h.Ns1 dx mA):∃od,h.get? dx=some od/\∀name,PySem.W.lookIn name od=some (mA name):=by
 obtain⟨o,es,ep,ho,hd,hk,_,hm⟩:=n;show⟨o,ho,λname=>?_⟩;have e:=hm name;unfold nsFind findBy at e;rw[<-Array.find?_toList]at e;unfold PySem.W.lookIn;rw[hd];dsimp only;split;.rename_i y q;rw[q]at e;show congrArg some e
 .rename_i q;rw[q]at e;have a:es.toList.any (·.refKey)=false:=by rw[List.any_eq_false];intro y hy;obtain⟨z,t,JY⟩:=hk y (Array.mem_toList_iff.mp hy);simp[DictEntry.refKey,JY]
  have a':¬es.toList.any (·.refKey)=true:=by rw[a];show Ō
  rw[Ç a'];show congrArg some e
theorem Z0z.look(I:Z0z h x dx C mA):∃od,PySem.W.InstAt h x (PySem.W.instObj C dx) C (some od)/\∀name,PySem.W.lookIn name od=some (mA name):=let⟨od,ho,hl⟩:=Cq I.ns;⟨od,⟨I.obj,rfl,rfl,ho⟩,hl⟩
section
end
theorem Ł.some_of(r:Ł (some v) o):∃u,o=some u/\Ò v u:=by cases o with|none=>exact(r).elim;|some u=>show⟨u,O,r⟩
section
theorem Iw(hok:Ĳ P w H h)(e:H a=some (.ins C dx fs)):∃mA,Z0z h a dx C mA/\(∀f,Ł (fs.lookup f) (mA f))/\PySem.Within mA (fs.map (·.1))/\fs.length<=1000/\H dx=some (.own a):=by obtain⟨d,z,ne,ob,mA,n,r,q⟩:=(hok a _ e);show⟨mA,⟨ob,n,ne⟩,r,q,z,d⟩
end
structure Cls(K:Frag)(C:Addr):Prop where
 pg:PySem.W.plainGet K C Str.empty=true
 hd:PySem.W.hasDictIn K C=true
 po:PySem.W.plainOver K C=true
 sa:PySem.W.findIn K (.ref C) "__setattr__"=some (some (.builtin "object.__setattr__"))
theorem Cls.get{K:Frag}(c:Cls K C)(f:Str):PySem.W.plainGet K C f=true:=c.pg
section
end
section
end
section
variable{σ:St}
inductive Ĺ(K:Frag)(H:Hp):V->Value->Prop where|non:Ĺ K H .non (.type "NoneType")|bl(x:Bool):Ĺ K H (.bl x) (.type "bool")|int(i:Int):Ĺ K H (.int i) (.type "int")|str(x:Str):Ĺ K H (.str x) (.type "str")|flt(x:UInt64):Ĺ K H (.flt x) (.type "float")|lst{a:Addr}{xs:List V}(e:H a=some (.lst xs)):Ĺ K H (.ref a) (.type "list")|frz{a:Addr}{o:Obj}{xs:List V}(e:H a=some (.frz o (.lst xs))):Ĺ K H (.ref a) (.type "list")|tup{a:Addr}{xs:List V}(e:H a=some (.tup xs)):Ĺ K H (.ref a) (.type "tuple")|dK{a:Addr}{Ä:List (Key×V)}(e:H a=some (.dK Ä)):Ĺ K H (.ref a) (.type "dict")|dT{a:Addr}{Ä:List (List Key×V)}(e:H a=some (.dT Ä)):Ĺ K H (.ref a) (.type "dict")|ins{a C dx:Addr}{fs:List (Str×V)}(e:H a=some (.ins C dx fs))(cl:Cls K C)(ha:PySem.W.findIn K (.ref C) "__class__"=some (some (.builtin "object.__class__")))(hn:PySem.W.specialIn K (.builtin "object.__class__") "__get__"=some (some (.builtin "getset_descriptor.__get__")))(qo:PySem.W.takesIn K (.builtin "object.__class__")=some true)(hm:PySem.W.mroIn K C (.type "object")=some true):Ĺ K H (.ref a) (.ref C)
theorem Cr(I:É X Á σ H s)(rx:Ò x u)(ty:Ĺ X.K H x t)(e:PySem.W.kitOne X.K t c=some b)(h:∀tk,Q (.bool b) {s with toks:=tk}):wpAny (model X.prog X.w) A (call (.builtin "isinstance") [u,c]) Q E s:=by cases ty with|non=>cases(show u=Value.none from rx);exact PySem.W.kia_one PySem.W.kitx_none I.kIn True.intro e (λz=>nomatch z) h;|bl y=>cases(show u=Value.bool y from rx);exact PySem.W.kia_one PySem.W.kitx_bool I.kIn True.intro e (λz=>nomatch z) h;|int i=>obtain⟨t,q⟩:=(show∃t,u=Value.int i t from rx);cases q;exact PySem.W.kia_one PySem.W.kitx_int I.kIn True.intro e (λz=>nomatch z) h;|str y=>obtain⟨t,q⟩:=(show∃t,u=Value.str y t from rx);cases q;exact PySem.W.kia_one PySem.W.kitx_str I.kIn True.intro e (λz=>nomatch z) h;|flt y=>obtain⟨t,q⟩:=(show∃t,u=Value.float y t from rx);cases q;exact PySem.W.kia_one PySem.W.kitx_float I.kIn True.intro e (λz=>nomatch z) h;|@lst a xs ea=>cases(show u=Value.ref a from rx);obtain⟨_,_,n,_,h1⟩:=(show Ö X.prog X.w H s.heap a (.lst xs)from I.hok a _ ea);exact PySem.W.kia_one PySem.W.kitx_list I.kIn ⟨_,h1,rfl⟩ e (λz=>nomatch z) h;|@frz a ob xs ea=>cases(show u=Value.ref a from rx);obtain⟨_,_,_,n,_,h1⟩:=(show Ö X.prog X.w H s.heap a (.frz ob (.lst xs))from I.hok a _ ea);exact PySem.W.kia_one PySem.W.kitx_list I.kIn ⟨_,h1,rfl⟩ e (λz=>nomatch z) h;|@tup a xs ea=>cases(show u=Value.ref a from rx);obtain⟨_,_,_,p⟩:=(show Ö X.prog X.w H s.heap a (.tup xs)from I.hok a _ ea);obtain⟨o,h1,h2,_⟩:=p;exact PySem.W.kia_one PySem.W.kitx_tuple I.kIn ⟨o,h1,h2⟩ e (λz=>nomatch z) h;|@dK a Ä ea=>cases(show u=Value.ref a from rx);obtain⟨_,_,vs,_,p⟩:=(show Ö X.prog X.w H s.heap a (.dK Ä)from I.hok a _ ea);obtain⟨o,es,ep,h1,h2,_⟩:=p;exact PySem.W.kia_one PySem.W.kitx_dict I.kIn ⟨o,h1,h2.1⟩ e (λz=>nomatch z) h;|@dT a Ä ea=>cases(show u=Value.ref a from rx);obtain⟨_,_,xs,_,o,es,ep,h1,h2,_⟩:=(show Ö X.prog X.w H s.heap a (.dT Ä)from I.hok a _ ea);exact PySem.W.kia_one PySem.W.kitx_dict I.kIn ⟨o,h1,h2.1⟩ e (λz=>nomatch z) h;|@ins a C dx fs ea cl ha hn qo hm=>cases(show u=Value.ref a from rx);obtain⟨mA,O,_⟩:=Iw I.hok ea;obtain⟨od,J,_⟩:=O.look;show PySem.W.kia_one (PySem.W.kitx_own (cl.get _) cl.hd ha hn qo hm) I.kIn J e (λz=>nomatch z) h
end
structure ą(k:Nat)(A:Around):Prop where
 hd:A.handled=none
 dp:A.depth+3*k+5<recursionLimit
 un:A.units+16*k+200<cLine
 gd:A.guards=some []
theorem ą.mono(r:ą k A)(h:j<=k):ą j A:=⟨r.hd,by have:=r.dp;lia,by have:=r.un;lia,r.gd⟩
theorem ą.deeper(r:ą (k+1) A)(env:Env):ą k (A.deeper env):=⟨r.hd,by have:=r.dp;show A.depth+1+3*k+5<_;lia,by have:=r.un;show A.units+3+16*k+200<_;lia,r.gd⟩
theorem ą.depth(r:ą k A):A.depth<recursionLimit:=by have:=r.dp;lia
theorem ą.units(r:ą k A):A.units+64<cLine:=by have:=r.un;lia
theorem ą.units0(r:ą k A):A.units<cLine:=by have:=r.un;lia
def Iz:TA:=λ_ H Q=>Q [] H
def sy(ta:TE)(tr:TA):TA:=λσ H Q=>ta σ H λx H1=>tr σ H1 λxs H2=>Q (x::xs) H2
section
theorem aj:PA X [] Iz:=λ_ _ _ _ H Q I h=>Calls.spliced_nil ⟨[],H,I,.nil,h⟩
abbrev Qa9(X:Cx)(e:Expr)(es:List Expr):Prop:=starEach (e::es) X.env=(false,eval e X.env)::starEach es X.env
theorem aO(ha:PE X e te)(hr:PA X es t)(hs:Qa9 X e es:=by rfl):PA X (e::es) (sy te t):=by intro pos Á s σ H Q I h;rw[hs];show wpAny _ _ (spliced ((false,eval e X.env)::backTo pos (starEach es X.env))) _ _ s;show Calls.spliced_cons (Û (ha Á s σ H _ I h) λu s1=>?_);rintro⟨x,H1,I1,r1,q1⟩;show Û (hr pos Á s1 σ H1 _ I1 q1) λus s2=>by rintro⟨xs,H2,I2,r2,q2⟩;show⟨x::xs,H2,I2,.cons r1 r2,q2⟩
def Le(t:TA):TE:=λσ H Q=>t σ H λxs H1=>xs.length<=sizeLine/\∀p,H1 p=none->Q (.ref p) (upd H1 p (.tup xs))
def IK(t:TA):TE:=λσ H Q=>t σ H λxs H1=>xs.length<=sizeLine/\∀p,H1 p=none->Q (.ref p) (upd H1 p (.lst xs))
theorem bh{x1}(h:PA X es t):PE X (.Tuple es x1 pos) (Le t):=by intro Á s σ H Q I hq;show wpAny_Tuple_spliced (Û (h pos Á s σ H _ I hq) λus s1⟨xs,H1,I1,r,z,q⟩=>⟨by rw[<-r.length];show z,?_⟩);have hf:H1 s1.heap.objs.size=none:=I1.hok.fresh (Ø _);show⟨.ref s1.heap.objs.size,upd H1 s1.heap.objs.size (.tup xs),I1.laid (t':=s1.toks) (λb u e=>ò _ e) (Ø _) ?_,O,q _ hf⟩;show⟨z,us,r,⟨_,Ģ _ O,O,_,O⟩⟩
theorem dC(h:PA X es t):PE X (.List es pos) (IK t):=by intro Á s σ H Q I hq;show wpAny_List_spliced (Û (h pos Á s σ H _ I hq) λus s1⟨xs,H1,I1,r,z,q⟩=>⟨by rw[<-r.length];show z,?_⟩);have hf:H1 s1.heap.objs.size=none:=I1.hok.fresh (Ø _);show⟨.ref s1.heap.objs.size,upd H1 s1.heap.objs.size (.lst xs),I1.laid (t':=s1.toks) (λb u e=>ò _ e) (Ø _) ?_,O,q _ hf⟩;show⟨z,us,0,r,Ģ _ O⟩
end
abbrev Sp:=List V->Hp->VK->XK->Prop
abbrev CXT:=List Env->Hp->Shared->XK->Ry
structure Z0e(P:Program)(w:World)(K:Frag)(mg:UW)(base:Heap)(A:Around)(outer:List Env)(s:Shared)(H:Hp):Prop where
 frames:A.frames=some outer
 mod:Mod K mg base
 bs:∀b o,base.get? b=some o->s.heap.get? b=some o/\H b=none
 bsz:base.objs.size<=s.heap.objs.size
 funs:s.heap.FunFrames base outer
 frf:∀b∈Ź outer,H b=none
 hok:Ĳ P w H s.heap
 bare:AllBare s.gens
def CE(outer:List Env)(P:Program)(w:World)(H:Hp)(s:Shared)(Q:VK)(u:Value)(s':Shared):Prop:=∃v H',s'.os=s.os/\AllBare s'.gens/\Un (Ź outer) [] H H' s.heap s'.heap/\Ĳ P w H' s'.heap/\Ò v u/\Q v H'
def CR(CX:CXT)(outer:List Env)(P:Program)(w:World)(H:Hp)(s:Shared)(Q:VK)(E:XK)(r:Result)(s':Shared):Prop:=match r with|.ok (.ret u)=>CE outer P w H s Q u s'|.ok _=>False|.error e=>CX outer H s E e s'
structure Ú(P:Program)(w:World)(K:Frag)(mg:UW)(base:Heap)(CX:CXT)(k:Nat)(f:Addr)(fd:FuncData)(ps:Đ)(sp:Sp):Prop where
 len:∀vs H Q E,sp vs H Q E->vs.length=ps.length
 run:∀A outer s H args us vs Q E,ą k A->Z0e P w K mg base A outer s H->BindsTo s fd args (ps.zip us)->Î vs us->sp vs H Q E->codeAny (model P w) A (.call (.ref f) args) (CR CX outer P w H s Q E) s
section
variable{σ:St}
theorem É.env0(I:`c):Z0e X.prog X.w X.K X.mg X.base X.A X.stack s H:=⟨I.ok.frames,I.ok.mod,I.bs,ř I.ok.bsz I.sz,I.stack,I.stkFree,I.hok,I.bare⟩
theorem É.after(I:`c)(h:CE X.stack X.prog X.w H s Q u s'):EP X Á σ Q u s':=by obtain⟨v,H',os,bare,un,hok,r,q⟩:=h;obtain⟨hh,g,d,t,UM⟩:=s';obtain rfl:UM=s.os:=os;show⟨v,H',I.call (h':=hh) (g':=g) (d':=d) (t':=t) (ch:=[]) un hok bare (λb z=>absurd z Õ),r,q⟩
end
def Kc(sp:Sp)(ua:List V)(E:XK)(t:TA):TE:=λσ H Q=>t σ H λvs H1=>sp (vs++ua) H1 Q E
def Ŕ(K:Frag)(fd:FuncData)(ps:Đ)(ds:ó):Prop:=∀s us,K.In s.heap->(us++ds).length=ps.length->BindsTo s fd ⟨us,[]⟩ (ps.zip (us++ds))
theorem Ŕ.all{K:Frag}(h:∀us,us.length=ps.length->bindArgs fd ⟨us,[]⟩=pure (ps.zip us)):Ŕ K fd ps []:=λs us _ hl=>by rw[Ĕ]at hl⊢;show .of_eq (h us hl)
def yf(CX:CXT)(X:Cx)(E:XK):Prop:=∀Á(σ:St)H s e s',`c->CX X.stack H s E e s'->X.xe e s'
section
variable{p pos apos:Pos}
theorem Lf{σ:St}(F:Ú X.prog X.w X.K X.mg X.base CX k f fd ps sp)(hr:ą k X.A)(hb:Ŕ X.K fd ps ds)(hd:Î ua ds)(hx:yf CX X E)(I:`c)(r:Î vs us)(h:sp (vs++ua) H Q E):wpAny `d X.A (call (.ref f) us) (EP X Á σ Q) X.xe s:=by
 have r2:Î (vs++ua) (us++ds):=r.append hd;have hl:(us++ds).length=ps.length:=by rw[<-r2.length];show F.len _ _ _ _ h
 refine wpAny_call (codeAny_mono (F.run X.A X.stack s H ⟨us,[]⟩ (us++ds) (vs++ua) Q E hr I.env0 (hb s us I.kIn hl) r2 h) λr s' hq=>?_);cases r with|error e=>exact hx Á σ H s e s' I hq;|ok fl=>cases fl with|ret u=>exact I.after hq;|next=>exact False.elim hq;|brk=>exact False.elim hq;|cont=>show False.elim hq
abbrev Qaa(X:Cx)(p:Pos)(es:List Expr):Prop:=(backTo p (starEach es X.env)).any (·.1)=false
theorem IV(F:Ú X.prog X.w X.K X.mg X.base CX k f fd ps sp)(hr:ą k X.A)(hg:Gl X x)(hm:X.mg x=some (.ref f))(hk:PySem.W.keepIn X.K (.ref f)=true)(hb:Ŕ X.K fd ps ds)(hd:Î ua ds)(hx:yf CX X E)(ha:PA X (e::es) t)(xh:Qab x:=by decide)(he:Qa9 X e es:=by rfl)(ub:Qaa X pos es:=by rfl):PE X (.Call (.Name x p) (e::es) [] pos) (Kc sp ua E t):=by intro Á s σ H Q I h;show wpAny_Call_Name_kw (zu I hg hm ?_ xh);show PySem.W.callWith_K (h₀:=X.base) I.ok.mod.kin hk (Û (ha pos Á s σ H _ I h) λus s1⟨vs,H1,I1,r,q⟩=>⟨I1.kIn,?_⟩) he ub;show Lf F hr hb hd hx I1 r q
end
section
end
structure Å(N P:Đ)(sc:Scope):Prop where
 kind:sc.kind=.function
 co:sc.isCoroutine=false
 gen:sc.isGenerator=false
 nd:N.Nodup
 pre:N.take P.length=P
 par:∀x∈P,sc.names.lookup x=some .local\/sc.names.lookup x=some .cell
 nofree:∀y∈sc.names,y.2≠.free
theorem sE{kindOf:Str->Option NameKind}:∀{binds:List (Str×Value)}{m:UW},(∀v,(x,v)∉binds)->bindL kindOf binds m x=m x
 |[],_,_=>rfl|(n,v)::r,m,h=>by
  unfold bindL;rw[sE λw hw=>h w (ώ _ hw)];split
  .have:x≠n:=by rintro rfl;show h v Ζ
   simp[this]
  .rfl
theorem sG{kindOf:Str->Option NameKind}:∀{binds:List (Str×Value)}{m:UW},(∀v,(x,v)∉binds)->bindC kindOf binds m x=m x
 |[],_,_=>rfl|(n,v)::r,m,h=>by
  unfold bindC;rw[sG λw hw=>h w (ώ _ hw)];split;.rfl
  .have:x≠n:=by rintro rfl;show h v Ζ
   simp[this]
theorem sJ{kindOf:Str->Option NameKind}:∀{P:Đ}{vs:ó}{i:Nat}{m:UW},P.Nodup->P[i]?=some x->vs[i]?=some v->kindOf x=some .local->bindL kindOf (P.zip vs) m x=some v|[],_,_,_,_,h,_,_=>by simp at h;|_::_,[],_,_,_,_,h,_=>by simp at h;|p::P,w::vs,0,m,nd,h1,h2,hk=>by simp at h1 h2;subst h1;subst h2;show bindL kindOf ((p,w)::P.zip vs) m p=_;unfold bindL;rw[sE λv hv=>(Za7.mp nd).1 (ϴ hv).1,Ê hk];simp;|p::P,w::vs,i+1,m,nd,h1,h2,hk=>by show bindL kindOf ((p,w)::P.zip vs) m x=_;unfold bindL;show sJ (i:=i) (Za7.mp nd).2 (by simpa using h1) (by simpa using h2) hk
theorem sO{kindOf:Str->Option NameKind}:∀{P:Đ}{vs:ó}{i:Nat}{m:UW},P.Nodup->P[i]?=some x->vs[i]?=some v->kindOf x≠some .local->bindC kindOf (P.zip vs) m x=some v|[],_,_,_,_,h,_,_=>by simp at h;|_::_,[],_,_,_,_,h,_=>by simp at h;|p::P,w::vs,0,m,nd,h1,h2,hk=>by simp at h1 h2;subst h1;subst h2;show bindC kindOf ((p,w)::P.zip vs) m p=_;unfold bindC;rw[sG λv hv=>(Za7.mp nd).1 (ϴ hv).1,Ç hk];simp;|p::P,w::vs,i+1,m,nd,h1,h2,hk=>by show bindC kindOf ((p,w)::P.zip vs) m x=_;unfold bindC;show sO (i:=i) (Za7.mp nd).2 (by simpa using h1) (by simpa using h2) hk
def start(N:Đ)(vs:List V):St:=vs.map some++List.replicate (N.length-vs.length) none
def yg(CX:CXT)(P:Program)(w:World)(K:Frag)(mg:UW)(base:Heap)(N:Đ)(qual:Str)(scope:Scope)(f:Addr)(cd:Value)(A:Around)(outer:List Env)(s:Shared)(H:Hp)(E:XK):Cx where prog:=P;w:=w;K:=K;mg:=mg;base:=base;A:=A.deeper (envOfC qual scope s.heap.objs.size f cd);N:=N;s₀:=s;H₀:=H;env:=envOfC qual scope s.heap.objs.size f cd;outer:=outer;stack:=envOfC qual scope s.heap.objs.size f cd::outer;ex:=[];calm:=true;fn:=λ_=>true;pn:=[];xe:=λe s'=>wpAny (model P w) (A.deeper (envOfC qual scope s.heap.objs.size f cd)) (leaving (envOfC qual scope s.heap.objs.size f cd) e) (λ_ AZ=>CX outer H s E e AZ) (λe' AZ=>CX outer H s E e' AZ) s'
theorem vP{sc:Scope}(h:sc.names.lookup x=some .cell):∃c,(cellsFrom n sc.names []).lookup x=some c:=by have q:=PySem.W.cellsFrom_some sc.names n [] (.inl h);show Zcb.mp q
theorem Cu{K:Frag}(S:Å N ps scope)(hd:A.handled=none)(e0:Z0e P w K mg base A outer s H)(hl:vs.length=ps.length)(r:Î vs us)(x:InCallC s s.heap.objs.size (bindL (envOfC qual scope s.heap.objs.size f cd).kindOf (ps.zip us) λ_=>none) (cellsFrom (s.heap.objs.size+1) scope.names []) (bindC (envOfC qual scope s.heap.objs.size f cd).kindOf (ps.zip us) λ_=>none) s1):É (yg CX P w K mg base N qual scope f cd A outer s H E) [] (start N vs) H s1:=by
 have ub:ps.length<=N.length:=by have:=congrArg List.length S.pre;rw[ė]at this;lia
 obtain⟨h1,tk,rfl,hk⟩:=x.done;have CM:∀b:Addr,b∉(yg CX P w K mg base N qual scope f cd A outer s H E).ex:=λb z=>absurd (show b∈([]:ø)from z) Õ;show⟨⟨e0.mod,S.kind,O,O,Ø _,λy z c h1 h2=>?_,λy hy=>?_,λy c _ h=>?_,λ_=>hd,Around.frames_deeper e0.frames,.inr ⟨O,O⟩,λb z=>absurd z (CM b),e0.bs,e0.bsz,λb _ _=>CM b,λb z=>absurd z (CM b),e0.funs,e0.frf⟩,O,e0.bare,Un.kept hk,⟨_,x.toInCall.ns,λi y v h1 h2 h3=>?_⟩,λy c h=>⟨_,x.cell y c h⟩,e0.hok.fresh (Ø _),λy c h=>?_,λp hp=>absurd (show p∈([]:gV)from hp) Õ,e0.hok.kept hk,?_⟩;.exact name_of_addr x.apart (PySem.mem_of_lookup h1) (PySem.mem_of_lookup h2)
 .have hy:scope.names.lookup y=some .cell\/scope.names.lookup y=some .free:=hy;rcases hy with hy|hy;.exact vP hy
  .exact absurd O (S.nofree _ (PySem.mem_of_lookup hy))
 .exact Zby (x.above y c (PySem.mem_of_lookup h))
 .have hi:i<vs.length:=by
   unfold start at h2;by_cases hi:i<vs.length;.exact hi
   .rw[Ů (by simpa using hi)]at h2;rw[List.getElem?_replicate]at h2;split at h2<;>cases h2
  have ha:vs[i]?=some v:=by unfold start at h2;rw[ŭ (by simpa using hi),ì]at h2;cases e:vs[i]? with|none=>rw[e]at h2;cases h2;|some a=>rw[e]at h2;cases h2;rfl
  obtain⟨u,hu,rv⟩:=r.get ha;have hp:ps[i]?=some y:=by rw[<-S.pre,Zbi À];show h1
  have Rr:ps.Nodup:=by rw[<-S.pre];show S.nd.sublist (Za2 _ _)
  show⟨u,rv,?_⟩;rcases S.par y (ń hp)with k|k;.exact .inl ⟨k,sJ Rr hp hu k⟩
  .obtain⟨c,e⟩:=vP (n:=s.heap.objs.size+1) k;show .inr ⟨.inl k,c,e,?_⟩;have q:=x.cell y c e;rw[sO Rr hp hu (by show scope.names.lookup y≠_;rw[k];decide)]at q;show q
 .exact e0.hok.fresh (Zby (x.above y c (PySem.mem_of_lookup h)))
 .unfold start;show _=N.length;rw[à,Ï,List.length_replicate];lia
theorem Np{K:Frag}{dV kV doc pm av ct oc:Value}{an od:Option Addr}{ui:Array (Option Value)}{N ps:Đ}{sp:Sp}(lk:K.lookup f=some ⟨oc,od,.func (PySem.W.fnOf name qual params body scope dV kV doc pm an av ct),ui⟩)(mx:PySem.W.codeIn K av qual=true)(S:Å N ps scope)(len:∀vs H Q E,sp vs H Q E->vs.length=ps.length)(gE:∀A outer s H vs Q E,ą k (A.deeper (envOfC qual scope s.heap.objs.size f av))->sp vs H Q E->∃t,Ψ (yg CX P w K mg base N qual scope f av A outer s H E) body t/\t {nx:=λ_ H'=>Q .non H',rt:=Q} (start N vs) H):Ú P w K mg base CX (k+1) f (PySem.W.fnOf name qual params body scope dV kV doc pm an av ct) ps sp:=by
 show⟨len,λA outer s H args us vs Q E hr e0 hb r uj=>?_⟩;have hl:=len _ _ _ _ uj;have KX:K.In s.heap:=e0.mod.kin.keeps λb o e=>(e0.bs b o e).1;have lim:s.heap.NoLimit:=e0.mod.nolimit.keeps λb o e=>(e0.bs b o e).1;have CO:∀y∈ps.zip us,scope.names.lookup y.1=some .local\/(scope.names.lookup y.1=some .cell/\((cellsFrom (s.heap.objs.size+1) scope.names []).lookup y.1).isSome=true):=λ⟨n,v⟩hy=>by
  rcases S.par n (ϴ hy).1 with q|q;.exact .inl q
  .exact .inr ⟨q,PySem.W.cellsFrom_some _ _ _ (.inl q)⟩
 refine codeAny_call_function hr.depth (KX _ _ lk) O S.co S.gen O (PySem.W.codeRec_of KX mx) (hb _ _ _ _ ?_);refine wpAny_newFunctionEnv_cells S.kind CO λenv he s1 x=>?_;subst he;refine⟨lim.keeps x.toInCall.keep,codeAny_func ?_⟩;obtain⟨t,ht,hq⟩:=gE A outer s H vs Q E (hr.deeper _) uj;have I:É (yg CX P w K mg base N qual scope f av A outer s H E) [] (start N vs) H s1:=Cu S hr.hd e0 hl r x;refine wpAny_mono (ht [] s1 (start N vs) H _ I hq) (λfl s' hs=>?_) λe s' hs=>hs;have fin:∀{af:St}{H':Hp}{v:V}{u:Value},É (yg CX P w K mg base N qual scope f av A outer s H E) [] af H' s'->Ò v u->Q v H'->CE outer P w H s Q u s':=λ{af H' v u}J rv q=>⟨v,H',J.os,J.bare,J.base,J.hok,rv,q⟩;cases fl with|ret u=>obtain⟨v,af,H',J,rv,q⟩:=hs;exact fin J rv q;|next=>obtain⟨af,H',J,q⟩:=hs;exact fin (v:=V.non) (u:=Value.none) J O q;|brk=>obtain⟨_,_,_,q⟩:=hs;exact False.elim q;|cont=>obtain⟨_,_,_,q⟩:=hs;show False.elim q
section
variable{p pos:Pos}{id T:String}
def tCB(r:List V->Hp->VK->Prop)(t:TA):TE:=λσ H Q=>t σ H λvs H1=>r vs H1 Q
theorem aM(hc:cZ X (.builtin id) r)(hg:Gl X x)(hm:X.mg x=none)(hv:bootBuiltins x=some (.builtin id))(ha:PA X (e::es) t)(hn:x≠"__name__":=by decide)(xh:Qab x:=by decide)(he:Qa9 X e es:=by rfl)(ub:Qaa X pos es:=by rfl):PE X (.Call (.Name x p) (e::es) [] pos) (tCB r t):=by intro Á s σ H Q I h;show wpAny_Call_Name_kw (iw I hg hm hv ?_ hn xh);show PyProof.Rows.callWith_builtin1 (Û (ha pos Á s σ H _ I h) λus s1=>by rintro⟨vs,H1,I1,r1,q1⟩;show hc Á s1 σ H1 vs us Q I1 r1 q1) he ub
theorem bK(hc:cZ X (.type T) r)(hg:Gl X x)(hm:X.mg x=none)(hv:bootBuiltins x=some (.type T))(ha:PA X (e::es) t)(hn:x≠"__name__":=by decide)(xh:Qab x:=by decide)(he:Qa9 X e es:=by rfl)(ub:Qaa X pos es:=by rfl):PE X (.Call (.Name x p) (e::es) [] pos) (tCB r t):=by intro Á s σ H Q I h;show wpAny_Call_Name_kw (iw I hg hm hv ?_ hn xh);show PyProof.Rows.callWith_type1 (Û (ha pos Á s σ H _ I h) λus s1=>by rintro⟨vs,H1,I1,r1,q1⟩;show hc Á s1 σ H1 vs us Q I1 r1 q1) he ub
end
end L2
namespace HT
open PySem PyProof.Rows
def lexLt:VV->VV->Bool|[],[]=>false|[],_::_=>true|_::_,[]=>false|x::xs,y::ys=>if x=y then lexLt xs ys else decide (x<y)
theorem lexLt_cons(x y:Int)(xs ys:VV):lexLt (x::xs) (y::ys)=if x=y then lexLt xs ys else decide (x<y):=rfl
section
open PySem.SeqAt
open PySem.AutoSeq1 (wpAny_loadPart')
open PySem.MeetsSeq PySem.MeetsSeq2 PySem.MeetsSeq3
end
section
theorem cat_tup(ht:IsTup s.heap t vs.toArray)(hb:IsTup s.heap b ws.toArray)(hv:vs≠[])(h1:ws=[]->Q (.ref t) s)(h2:ws≠[]->Q (`g) {s with heap:=s.heap.push {cls:=.type "tuple",data:=.seq (vs++ws).toArray}})(hsz:vs.length+ws.length<=sizeLine):wpAny `a A (binaryOp .Add (.ref t) (.ref b)) Q E s:=by
 obtain⟨⟨cls,dd,data,sl⟩,ho,hc,n,hd⟩:=id ht;obtain⟨⟨Kb,A0,data2,xi⟩,xt,CS,n2,hd2⟩:=id hb;simp only at hc hd CS hd2;subst hc hd CS hd2;have e:vs.toArray++ws.toArray=(vs++ws).toArray:=by simp
 by_cases hw:ws=[];.exact concat_meets ⟨_,ho,O⟩ ⟨_,xt,O⟩ noFill_tuple_add seq_tuple_add PySem.F.slot_tuple_add PySem.F.entry_tuple_add (PySem.F.args_tuple_add_2 _ _) (tuple_addW1 t b vs.toArray ws.toArray n n2 dd A0 sl xi (by simpa using hv) (by simp[hw])) ⟨ho,xt,h1 hw⟩
 .refine concat_meets ⟨_,ho,O⟩ ⟨_,xt,O⟩ noFill_tuple_add seq_tuple_add PySem.F.slot_tuple_add PySem.F.entry_tuple_add (PySem.F.args_tuple_add_2 _ _) (tuple_addW2 t b vs.toArray ws.toArray n n2 dd A0 sl xi (by simpa using hv) (by simpa using hw) (by rw[ă];show hsz)) ⟨ho,xt,?_⟩;rw[e];show h2 hw
def sIx(n d:Nat):Option Int->Nat|none=>d|some v=>if v<0 then(v+(n:Int)).toNat else min v.toNat n
theorem sIx_none(n d:Nat):sIx n d none=d:=rfl
theorem sIx_nat(n d k:Nat):sIx n d (some (k:Int))=min k n:=by rfl
theorem Lg(n d:Nat)(hd:d<=n)(o:Option Int):sIx n d o<=n:=by cases o with|none=>exact hd;|some v=>
  show(if v<0 then(v+(n:Int)).toNat else min v.toNat n)<=n;by_cases hv:v<0;.rw[Ê hv];lia
  .rw[Ç hv];show Nat.min_le_right _ _
theorem wS{v:Int}{n:Nat}(h:¬v<0):min v (n:Int)=((min v.toNat n:Nat):Int):=by
 obtain⟨m,rfl⟩:=Int.eq_ofNat_of_zero_le (Int.not_lt.mp h);rw[Int.toNat_natCast];rcases Nat.le_total m n with h|h;.rw[Nat.min_eq_left h,Int.min_eq_left (Int.ofNat_le.mpr h)]
 .rw[Nat.min_eq_right h,Int.min_eq_right (Int.ofNat_le.mpr h)]
theorem zK(v:Int)(n d:Nat):(if v<0 then max (v+(n:Int)) 0 else min v (n:Int))=((sIx n d (some v):Nat):Int):=by
 show(if v<0 then max (v+(n:Int)) 0 else min v (n:Int))=(((if v<0 then(v+(n:Int)).toNat else min v.toNat n):Nat):Int);by_cases hv:v<0;.simp only[if_pos hv];lia
 .simp only[if_neg hv];show wS hv
theorem yh(lo hi:Option Int)(n:Nat):Builtin.Slice.sliceAdjust lo hi 1 (n:Int)=(((sIx n 0 lo:Nat):Int),((sIx n n hi:Nat):Int)):=by
 refine Prod.ext ?_ ?_;.cases lo with|none=>rfl;|some v=>show zK v n 0
 .cases hi with|none=>rfl;|some v=>show zK v n n
theorem yj(i j:Nat):Builtin.Slice.slicePlaces (i:Int) (j:Int) 1=j-i:=by show(if(i:Int)<(j:Int)then((j:Int)-i-1)/1+1 else 0).toNat=j-i;rw[Int.ediv_one,Int.sub_add_cancel];split<;>lia
theorem oX(p:IsPart v o)(h:Q o s):wpAny (model prog w) A (Builtin.Slice.slicePartIndex v) Q E s:=by cases p with|none=>exact slicePart_none h;|int i t=>show slicePart_int h
theorem gR{lo hi:Option Int}{Q:Int×Int×Nat->Shared->Prop}(hs:s.heap.IsSliceOf sl vl vu .none)(pl:IsPart vl lo)(pu:IsPart vu hi)(h:Q (((sIx n 0 lo:Nat):Int),1,sIx n n hi-sIx n 0 lo) s):wpAny `a A (Builtin.Slice.sliceApplied (.ref sl) (pure (n:Int))) Q E s:=by obtain⟨os,xw,iL,CU⟩:=id hs;unfold Builtin.Slice.sliceApplied Builtin.Slice.sliceFields;show Ã (Ã (wpAny_field xw CU (x:=vl) O (Ã (wpAny_field xw CU (x:=vu) O (Ã (wpAny_field xw CU (x:=.none) O (Ì ?_)))))));show Ã (slicePart_none ?_);show wpAny _ _ (if((1:Int)==0)=true then _ else _) _ _ s;rw[Ç á];show Ã (oX pl (Ã (oX pu (Ã (Ì ?_)))));show wpAny _ _ (match Builtin.Slice.sliceAdjust lo hi 1 (n:Int)with|(lo,hi)=>pure (lo,(1:Int),Builtin.Slice.slicePlaces lo hi 1)) _ _ s;rw[yh lo hi n];show wpAny _ _ (pure (((sIx n 0 lo:Nat):Int),(1:Int),Builtin.Slice.slicePlaces ((sIx n 0 lo:Nat):Int) ((sIx n n hi:Nat):Int) 1)) _ _ s;rw[yj];show Ì h
theorem Ej(xs:Qa3)(i k:Nat):((List.range k).filterMap λ(m:Nat)=>xs[((i:Int)+(m:Int)*1).toNat]?).toArray=((xs.toList.drop i).take k).toArray:=by
 have e:(λ(m:Nat)=>xs[((i:Int)+(m:Int)*1).toNat]?)=λm=>xs[i+m]?:=by grind
 rw[e];have:=pick_run xs i k;rw[List.filterMap_map]at this;have e2:((λx=>xs[x]?)∘λx=>i+x)=λm=>xs[i+m]?:=O;rw[e2]at this;rw[this]
theorem getItem_tuple_cut{lo hi:Option Int}(ht:IsTup s.heap t items)(hs:s.heap.IsSliceOf sl vl vu .none)(pl:IsPart vl lo)(pu:IsPart vu hi)(hw:¬(sIx items.size 0 lo=0/\sIx items.size items.size hi=items.size))(h:Q (`g) {s with heap:=s.heap.push {cls:=.type "tuple",data:=.seq ((items.toList.drop (sIx items.size 0 lo)).take (sIx items.size items.size hi-sIx items.size 0 lo)).toArray}})(hsz:items.size<=sizeLine):wpAny `a A (getItem (.ref t) (.ref sl)) Q E s:=by
 have kq:sizeOk (.seq ((items.toList.drop (sIx items.size 0 lo)).take (sIx items.size items.size hi-sIx items.size 0 lo)).toArray):=by show((items.toList.drop (sIx items.size 0 lo)).take (sIx items.size items.size hi-sIx items.size 0 lo)).toArray.size<=sizeLine;rw[ă,ė,ζ,Ğ];show ř (Nat.min_le_right ..) (ř (Nat.sub_le ..) hsz)
 have hj:sIx items.size items.size hi<=items.size:=Lg _ _ (Ø _) hi;obtain⟨os,xw,iL,CU⟩:=id hs;have Ki:s.TypeIs (.ref sl) "slice":=⟨os,xw,iL⟩;unfold getItem;try with_reducible apply wpAny_holding
 first|refine Ã (Ì ?_)|skip
 show Ã (wpAny_sequenceKey ht.typeIs á ?_);show Ã (wpAny_callSpecial?_slot (name:=Str.ofString "__getitem__") ht.typeIs PyProof.Rows.slot_tuple_getitem (wpAny_call_entry PyProof.Rows.slot_tuple_getitem ht.typeIs entry_tuple_getitem ?_ (args_tuple_getitem _ _)));show wpAny _ _ (Builtin.Tuple.tupleItemsOf (.ref t)>>=_) _ _ s;show Ã (tupleItemsOf_ ht ?_);show Ã (wpAny_typeOf Ki ?_);rw[Ê á];show Ã (gR hs pl pu ?_);have Kj:¬((((sIx items.size 0 lo:Nat):Int)==0&&(1:Int)==1&&(sIx items.size items.size hi-sIx items.size 0 lo)==items.size)=true):=by intro q;rw[ŉ,ŉ]at q;have q1:((sIx items.size 0 lo:Nat):Int)=0:=eq_of_beq q.1.1;have q2:sIx items.size items.size hi-sIx items.size 0 lo=items.size:=eq_of_beq q.2;show hw ⟨À,À⟩
 show wpAny _ _ (if(((sIx items.size 0 lo:Nat):Int)==0&&(1:Int)==1&&(sIx items.size items.size hi-sIx items.size 0 lo)==items.size)=true then _ else _) _ _ s;rw[Ç Kj,Ej];first|exact Ã (m:=Builtin.Tuple.tupleExact _) (Η (Ì ⟨_,O,Ì h⟩) kq);|exact Ã (m:=Builtin.Tuple.tupleExact _) (Η (Ã (Ì (Ì ⟨_,O,Ì h⟩))) kq);|exact Ã (Ã (m:=Builtin.Tuple.tupleExact _) (Η (Ì (Ì ⟨_,O,Ì h⟩)) kq));|show Ã (Ã (m:=Builtin.Tuple.tupleExact _) (Η (Ì ⟨_,O,Ì h⟩) kq))
end
end HT
namespace L2
open PySem PySem.Spec PyProof.Rows
abbrev TO:=St->Hp->(Option Int->Hp->Prop)->Prop
def PO(X:Cx)(e:Option Expr)(t:TO):Prop:=∀Á s(σ:St)H Q,`c->t σ H Q->wpAny `d X.A (evalPart e X.env) (λu s'=>∃o H',É X Á σ H' s'/\IsPart u o/\Q o H') X.xe s
def IW:TO:=λ_ H Q=>Q none H
def Nq(t:TE):TO:=λσ H Q=>t σ H λx H1=>∃i,x=.int i/\Q (some i) H1
theorem Ĵ{ns:VV}:∀{us:ó},Î (ns.map V.int) us->IntsAre us ns:=by induction ns with|nil=>intro us r;rw[List.map_nil]at r;cases r;exact .nil;|cons n ns ih=>intro us r;cases r with|cons r1 r2=>obtain⟨t,e⟩:=r1;subst e;show .cons n t (ih r2)
section
variable{lo hi:Option Expr}
theorem o9:PO X none IW:=by intro Á s σ H Q I h;show Ì ⟨none,H,I,.none,h⟩
theorem oh(h:PE X e te):PO X (some e) (Nq te):=by intro Á s σ H Q I hw;show Û (h Á s σ H _ I hw) λu s1=>?_;rintro⟨x,H1,I1,r1,q1⟩;obtain⟨i,rfl,q⟩:=q1;obtain⟨t,rfl⟩:=r1;show⟨some i,H1,I1,.int i t,q⟩
def SlR(X:Cx)(r:V->Option Int->Option Int->Hp->VK->Prop):Prop:=∀Á s(σ:St)H x v vl vu lo hi sl Q,`c->Ò x v->s.heap.IsSliceOf sl vl vu .none->IsPart vl lo->IsPart vu hi->r x lo hi H Q->∃T id,typeLookup (.type T) "__getitem__"=pure (some (.builtin id))/\s.TypeIs v T/\wpAny `d X.A (getItem v (.ref sl)) (EP X Á σ Q) X.xe s
def tSl(r:V->Option Int->Option Int->Hp->VK->Prop)(te:TE)(tl th:TO):TE:=λσ H Q=>te σ H λx H1=>tl σ H1 λl H2=>th σ H2 λu H3=>r x l u H3 Q
theorem jY(hr:SlR X r)(he:PE X e te)(hl:PO X lo tl)(hu:PO X hi th):PE X (.Subscript e (.Slice lo hi none p2) pos) (tSl r te tl th):=by intro Á s σ H Q I h;show Subscript_ (Û (he Á s σ H _ I h) λv s1=>?_);rintro⟨x,H1,I1,r1,q1⟩;show wpAny_Slice (Û (hl Á s1 σ H1 _ I1 q1) λvl s2⟨l,H2,I2,pl,q2⟩=>Û (hu Á s2 σ H2 _ I2 q2) λvu s3=>?_);rintro⟨u,H3,I3,pu,q3⟩;apply Ì;have I4:É X Á σ H3 {s3 with heap:=s3.heap.push {cls:=.type "slice",data:=.fields #[vl,vu,.none]}}:=I3.kept (t':=s3.toks) λb ob q=>ò _ q;obtain⟨T,id,hT,ht,hg⟩:=hr Á {s3 with heap:=s3.heap.push {cls:=.type "slice",data:=.fields #[vl,vu,.none]}} σ H3 x v vl vu l u s3.heap.objs.size Q I4 r1 (Heap.IsSliceOf.new ..) pl pu q3;show tail_any (ops:=[.ref s3.heap.objs.size,v]) ht hT hg (by with_unfolding_all rfl)
def nJ(xs:List V)(lo hi:Option Int):List V:=(xs.drop (HT.sIx xs.length 0 lo)).take (HT.sIx xs.length xs.length hi-HT.sIx xs.length 0 lo)
theorem nA(xs:List V)(lo hi:Option Int):(nJ xs lo hi).length<=xs.length:=by unfold nJ;rw[ė,ζ];show ř (Nat.min_le_right ..) (Nat.sub_le ..)
inductive Z0q(K:Frag)(x:V)(lo:Option Int)(hi:Option Int)(H:Hp)(Q:VK):Prop|mk:∀a xs,(x=.ref a)->(Ñ K H a xs)->(¬(HT.sIx xs.length 0 lo=0/\HT.sIx xs.length xs.length hi=xs.length))->(∀p,H p=none->Q (.ref p) (upd H p (.tup (nJ xs lo hi))))->Z0q K x lo hi H Q
def Qd(K:Frag):V->Option Int->Option Int->Hp->VK->Prop:=λx lo hi H Q=>Z0q K x lo hi H Q
theorem Lh:SlR X (Qd X.K):=by
 intro Á s σ H x v vl vu lo hi sl Q I rx hs pl pu h;obtain⟨a,xs,rfl,hx,hw,q⟩:=h;cases rx;obtain⟨È,r,ht,hz⟩:=I.tuple hx;have hlen:È.toArray.size=xs.length:=by rw[ă];show r.length.symm
 show⟨"tuple",_,PyProof.Rows.slot_tuple_getitem.lookup,ht.typeIs,?_⟩;show HT.getItem_tuple_cut ht hs pl pu (by rw[hlen];show hw) ?_ (by rw[hlen];show hz);rw[hlen];show⟨`g,_,I.laid (t':=s.toks) (o:=.tup (nJ xs lo hi)) (λb ob q=>ò _ q) (Ø _) ?_,O,q _ (I.hok.fresh (Ø _))⟩;show⟨ř (nA xs lo hi) hz,_,(r.drop (HT.sIx xs.length 0 lo)).take (HT.sIx xs.length xs.length hi-HT.sIx xs.length 0 lo),IsTup.new _ _⟩
inductive Z0a(K:Frag)(x:V)(y:V)(H:Hp)(Q:VK):Prop|mk:∀a b xs ys,(x=.ref a)->(y=.ref b)->(Ñ K H a xs)->(Ñ K H b ys)->(xs≠[])->(xs.length+ys.length<=sizeLine)->((ys=[]->Q (.ref a) H))->((ys≠[]->∀p,H p=none->Q (.ref p) (upd H p (.tup (xs++ys)))))->Z0a K x y H Q
def Nr(K:Frag):R2:=λx y H Q=>Z0a K x y H Q
theorem Î.nil_iff(r:Î xs us):us=[]↔xs=[]:=by cases r with|nil=>simp;|cons _ _=>simp
theorem ou:Ī X (binaryOp .Add) (Nr X.K):=by intro Á s σ H x y v u Q I rx ry h;obtain⟨a,b,xs,ys,rfl,rfl,ha,hb,hx,hz,q1,q2⟩:=h;cases rx;cases ry;obtain⟨È,r1,p1,_⟩:=I.tuple ha;obtain⟨cw,r2,p2,_⟩:=I.tuple hb;show HT.cat_tup p1 p2 (λz=>hx (r1.nil_iff.mp z)) (λz=>⟨.ref a,H,I,O,q1 (r2.nil_iff.mp z)⟩) (λz=>?_) (by rw[<-r1.length,<-r2.length];show hz);show⟨`g,_,I.laid (t':=s.toks) (o:=.tup (xs++ys)) (λb ob q=>ò _ q) (Ø _) ?_,O,q2 (λw=>z (r2.nil_iff.mpr w)) _ (I.hok.fresh (Ø _))⟩;show⟨by rw[à];show hz,_,r1.append r2,IsTup.new _ _⟩
end
def ϧ(n:Nat)(i:Int):Option Nat:=if 0<=i then(if i<n then some i.toNat else none)else if-(n:Int)<=i then some (i+n).toNat else none
def ς{α:Type}(xs:List α)(i:Int):Option α:=(ϧ xs.length i).bind λj=>xs[j]?
theorem zM(h:ϧ n i=some j):seqIndex? i n=some j/\j<n/\-(n:Int)<=i/\i<n:=by
 unfold ϧ at h;by_cases h0:0<=i
 .rw[Ê h0]at h;by_cases h1:i<n;.rw[Ê h1]at h;have e:i.toNat=j:=ģ h;show⟨by rw[seqIndex_of h0 h1,e],À,À,h1⟩
  .rw[Ç h1]at h;cases h
 .rw[Ç h0]at h;by_cases h1:-(n:Int)<=i;.rw[Ê h1]at h;have e:(i+n).toNat=j:=ģ h;show⟨by rw[seqIndex_neg À h1,e],À,h1,À⟩
  .rw[Ç h1]at h;cases h
theorem zN{v:α}(h:ς xs i=some v):∃j,seqIndex? i xs.length=some j/\xs[j]?=some v/\j<xs.length/\-(xs.length:Int)<=i/\i<xs.length:=by unfold ς at h;cases e:ϧ xs.length i with|none=>rw[e]at h;cases h;|some j=>rw[e]at h;obtain⟨h1,h2,h3,h4⟩:=zM e;show⟨j,h1,h,h2,h3,h4⟩
theorem dZ{j:Nat}{v:α}(h:xs[j]?=some v):ς xs (j:Int)=some v:=by
 have hj:j<xs.length:=(ĉ.mp h).1;have e:ϧ xs.length (j:Int)=some j:=by unfold ϧ;rw[Ê À,Ê À];simp
 unfold ς;rw[e];show h
def uv(b:Expr):Prop:=∀o i,subscripted b false o i=operate [o,i] (getItem o i)
def IxR(X:Cx)(r:R2):Prop:=∀value slice Á s(σ:St)H x y v u Q,`c->Ò x v->Ò y u->r x y H Q->subscripted slice false v u=operate [v,u] (getItem v u)->wpAny `d X.A (subscriptTail value slice v u) (EP X Á σ Q) X.xe s
def MtR(X:Cx)(id:String)(r:V->List V->Hp->VK->Prop):Prop:=∀Á s(σ:St)H x xs v us Q,`c->Ò x v->Î xs us->r x xs H Q->wpAny `d X.A (call (.builtin id) (v::us)) (EP X Á σ Q) X.xe s
section
variable{ta tb:TE}
theorem Kd(hr:IxR X r)(ha:PE X a ta)(hb:PE X b tb)(hs:uv b):PE X (.Subscript a b pos) (tOp r ta tb):=by intro Á s σ H Q I h;show Subscript_ (La ha hb I h λv u s2 x y H2 I2 rx ry q=>hr a b Á s2 σ H2 x y v u Q I2 rx ry q (hs _ _))
inductive Z0u(K:Frag)(x:V)(y:V)(H:Hp)(Q:VK):Prop|mk:∀p xs i v,(x=.ref p)->(y=.int i)->(Ë K H p xs)->(ς xs i=some v)->(Q v H)->Z0u K x y H Q
def Nt(K:Frag):R2:=λx y H Q=>Z0u K x y H Q
inductive Z0t(K:Frag)(x:V)(y:V)(H:Hp)(Q:VK):Prop|mk:∀p xs i v,(x=.ref p)->(y=.int i)->(Ñ K H p xs)->(ς xs i=some v)->(Q v H)->Z0t K x y H Q
def Nu(K:Frag):R2:=λx y H Q=>Z0t K x y H Q
theorem cD:IxR X (Nt X.K):=by
 intro value slice Á s σ H x y v u Q I rx ry h hs;obtain⟨p,xs,i,z,rfl,rfl,hq,he,q⟩:=h;cases rx;obtain⟨t,rfl⟩:=ry;obtain⟨È,r,pl,hz⟩:=I.list hq;obtain⟨j,h1,h2,h3,h4,h5⟩:=zN he;obtain⟨w,ew,dS⟩:=r.get h2;have hl:=r.length;have hn:=mq;have fin:EP X Á σ Q w s:=⟨z,H,I,dS,q⟩;by_cases h0:0<=i
 .have hj:i.toNat=j:=by rw[seqIndex_of h0 h5]at h1;show ģ h1
  show item_listR pl.isList h0 À (by rw[hj];simpa using ew) fin hs
 .have hj:(i+(È.toArray.size:Int)).toNat=j:=by rw[seqIndex_neg À h4]at h1;rw[ă,<-hl];show ģ h1
  show subscriptTail_builtinR (x:=w) pl.isList.typeIs slot_list_getitem.lookup (wpAny_getItem_list_neg (Q:=λr s'=>r=w/\EP X Á σ Q r s') pl.isList À (by rw[ă]<;>lia) À (by rw[hj];simpa using ew) ⟨O,fin⟩) hs
theorem bT:IxR X (Nu X.K):=by intro value slice Á s σ H x y v u Q I rx ry h hs;obtain⟨p,xs,i,z,rfl,rfl,hq,he,q⟩:=h;cases rx;obtain⟨t,rfl⟩:=ry;obtain⟨È,r,pl,hz⟩:=I.tuple hq;obtain⟨j,h1,h2,h3,h4,h5⟩:=zN he;obtain⟨w,ew,dS⟩:=r.get h2;have hl:=r.length;have hn:=mq;have fin:EP X Á σ Q w s:=⟨z,H,I,dS,q⟩;show subscriptTail_builtinR (x:=w) pl.typeIs slot_tuple_getitem.lookup (getItem_tuple (j:=j) (Q:=λr s'=>r=w/\EP X Á σ Q r s') pl À À (by rw[ă,<-hl];show h1) (by simpa using ew) ⟨O,fin⟩) hs
theorem yl(È:ó)(n j:Nat)(u:Value):Obj.mapSeq (·.setIfInBounds j u) {cls:=.type "list",data:=.seq È.toArray n}={cls:=.type "list",data:=.seq (È.set j u).toArray n}:=by simp[Obj.mapSeq]
theorem É.lst{σ:St}(I:`c)(h:H p=some (.lst xs)):∃(È:ó)(n:Nat),Î xs È/\s.heap.get? p=some {cls:=.type "list",data:=.seq È.toArray n}/\xs.length<=sizeLine:=by obtain⟨z,È,n,r,e⟩:=I.hok p _ h;show⟨È,n,r,e,z⟩
theorem É.lstUpd{σ:St}{È its':ó}(I:`c)(h:H p=some (.lst xs))(ho:s.heap.get? p=some {cls:=.type "list",data:=.seq È.toArray n})(hf:f {cls:=.type "list",data:=.seq È.toArray n}={cls:=.type "list",data:=.seq its'.toArray n'})(r:Î ys its')(hz:ys.length<=sizeLine)(t:Nat):É X Á σ (upd H p (.lst ys)) {s with heap:=s.heap.update p f,toks:=t}:=by
 have e:(s.heap.update p f).get? p=some {cls:=.type "list",data:=.seq its'.toArray n'}:=by rw[Heap.get?_update_self f ho (by rw[hf]<;>rfl),hf]
 show I.write (x:=p) (e:=p) (by rw[h];trivial) (.inl O) (λb u hb q=>(Heap.get?_update_other _ _ (Ne.symm hb)).trans q) ⟨_,e⟩ ?_;show⟨hz,its',n',r,e⟩
inductive Z07(o:V)(i:V)(v:V)(H:Hp)(Q:Hp->Prop):Prop|mk:∀p xs k j,(o=.ref p)->(i=.int k)->(H p=some (.lst xs))->(ϧ xs.length k=some j)->(Q (upd H p (.lst (xs.set j v))))->Z07  o i v H Q
def Nv:V->V->V->Hp->(Hp->Prop)->Prop:=λo i v H Q=>Z07  o i v H Q
theorem ê:Ir X Nv:=by
 intro Á s σ H o i v ov iv u Q I ro ri rv h;obtain⟨p,xs,k,j,rfl,rfl,hp,hj,q⟩:=h;cases ro;obtain⟨t,rfl⟩:=ri;obtain⟨È,n,r,ho,hz⟩:=I.lst hp;obtain⟨h1,h2,h3,h4⟩:=zM hj;have hl:=r.length;have hn:=mq;have I':É X Á σ (upd H p (.lst (xs.set j v))) {s with heap:=s.heap.update p (Obj.mapSeq (·.setIfInBounds j u))}:=I.lstUpd hp ho (yl È n j u) (r.set rv j) (by rw[Zbt];show hz) s.toks;by_cases h0:0<=k
 .have hk:k.toNat=j:=by rw[seqIndex_of h0 h4]at h1;show ģ h1
  show PySem.W.ki_setAt ho h0 À (by rw[ă,<-hl];show h4) (by rw[hk];show⟨_,I',q⟩)
 .have hk:(k+(È.toArray.size:Int)).toNat=j:=by rw[seqIndex_neg À h3]at h1;rw[ă,<-hl];show ģ h1
  show PySem.W.ki_setBack ho À (by rw[ă,<-hl];show h3) À (by rw[hk];show⟨_,I',q⟩)
theorem uw(lo hi:Option Int)(n:Nat):(sliceBounds lo hi none n).1=((HT.sIx n 0 lo:Nat):Int)/\(sliceBounds lo hi none n).2.1=((HT.sIx n n hi:Nat):Int)/\(sliceBounds lo hi none n).2.2=1:=by
 refine⟨?_,?_,O⟩;.cases lo with|none=>simp[sliceBounds,HT.sIx];|some i=>
   simp only[sliceBounds,HT.sIx,Option.getD_none,show(1:Int)>0 by decide,if_true];by_cases h:i<0;.simp only[h,if_true]<;>lia
   .simp only[h,if_false];rw[HT.wS h];show Int.max_eq_right (Int.natCast_nonneg _)
 .cases hi with|none=>simp[sliceBounds,HT.sIx];|some i=>
   simp only[sliceBounds,HT.sIx,Option.getD_none,show(1:Int)>0 by decide,if_true];by_cases h:i<0;.simp only[h,if_true]<;>lia
   .simp only[h,if_false];rw[HT.wS h];show Int.max_eq_right (Int.natCast_nonneg _)
theorem qY(È:ó)(lo hi:Option Int):slicePick È.toArray lo hi none=((È.drop (HT.sIx È.length 0 lo)).take (HT.sIx È.length È.length hi-HT.sIx È.length 0 lo)).toArray:=by obtain⟨h1,h2,h3⟩:=uw lo hi È.toArray.size;unfold slicePick;rw[h1,h2,h3];simp only[sliceRange_one,pick_run]<;>rfl
inductive Z0r(K:Frag)(x:V)(lo:Option Int)(hi:Option Int)(H:Hp)(Q:VK):Prop|mk:∀a xs,(x=.ref a)->(Ë K H a xs)->(∀p,H p=none->Q (.ref p) (upd H p (.lst (nJ xs lo hi))))->Z0r K x lo hi H Q
def Qe(K:Frag):V->Option Int->Option Int->Hp->VK->Prop:=λx lo hi H Q=>Z0r K x lo hi H Q
theorem J0:SlR X (Qe X.K):=by intro Á s σ H x v vl vu lo hi sl Q I rx hs pl pu h;obtain⟨a,xs,rfl,hx,q⟩:=h;cases rx;obtain⟨È,r,ht,hz⟩:=I.list hx;have hlen:=r.length;show⟨"list",_,slot_list_getitem.lookup,ht.isList.typeIs,?_⟩;show wpAny_getItem_list_slice ht.isList hs pl pu .none Õ ?_ (by rw[ă]<;>lia);rw[qY,<-hlen];show⟨`g,_,I.laid (t':=s.toks) (o:=.lst (nJ xs lo hi)) (λb ob q=>ò _ q) (Ø _) ?_,O,q _ (I.hok.fresh (Ø _))⟩;show⟨ř (nA xs lo hi) hz,_,0,(r.drop (HT.sIx xs.length 0 lo)).take (HT.sIx xs.length xs.length hi-HT.sIx xs.length 0 lo),Ģ _ O⟩
theorem cj:cZ X (.builtin "len") (λxs H Q=>∃p ys,xs=[.ref p]/\(Ë X.K H p ys\/Ñ X.K H p ys)/\Q (.int ys.length) H):=by
 intro Á s σ H xs us Q I r h;obtain⟨p,ys,rfl,hq,q⟩:=h;obtain⟨u,rfl,rx⟩:=ô r;cases rx;have hn:=mq;rcases hq with hq|hq;.obtain⟨È,r',pl,hz⟩:=I.list hq;have hlen:=r'.length;show Calls.call_len_list pl.isList (by simp only[List.size_toArray]<;>lia) ⟨.int ys.length,H,I.tok _,⟨s.toks+1,by rw[ă,hlen]⟩,q⟩
 .obtain⟨È,r',pl,hz⟩:=I.tuple hq;have hlen:=r'.length;show len_tuple pl (by simp only[List.size_toArray]<;>lia) ⟨.int ys.length,H,I.tok _,⟨s.toks+1,by rw[ă,hlen]⟩,q⟩
theorem jZ:cZ X (.type "list") (λxs H Q=>∃p ys,xs=[.ref p]/\(Ë X.K H p ys\/Ñ X.K H p ys)/\∀l,H l=none->Q (.ref l) (upd H l (.lst ys))):=by
 intro Á s σ H xs us Q I r h;obtain⟨p,ys,rfl,hq,q⟩:=h;obtain⟨u,rfl,rx⟩:=ô r;cases rx;have fin:∀(È:ó),Î ys È->ys.length<=sizeLine->∀(h':Heap)(c':Nat),(∀b o',s.heap.get? b=some o'->h'.get? b=some o')->h'.get? s.heap.objs.size=some {cls:=.type "list",dict:=none,data:=.seq È.toArray c',slots:=#[]}->EP X Á σ Q (`g) `l:=λÈ r' hz h' c' kp e=>⟨`g,_,I.laid (t':=s.toks) kp (Ø _) (show Ö X.prog X.w _ h' _ (.lst ys)from⟨hz,È,c',r',e⟩),O,q _ (I.hok.fresh (Ø _))⟩;rcases hq with hq|hq;.obtain⟨È,r',pl,hz⟩:=I.list hq;have hlen:=r'.length;obtain⟨o,ho,hc,n,hd⟩:=pl.isList;show call_list_seq p (.inl O) ho hc hd (λh' c' kp e=>fin È r' hz h' c' kp e) (by simp only[List.size_toArray]<;>lia)
 .obtain⟨È,r',pl,hz⟩:=I.tuple hq;have hlen:=r'.length;obtain⟨o,ho,hc,n,hd⟩:=pl;show call_list_seq p (.inr O) ho hc hd (λh' c' kp e=>fin È r' hz h' c' kp e) (by simp only[List.size_toArray]<;>lia)
theorem cz:cZ X (.type "tuple") (λxs H Q=>∃p ys,xs=[.ref p]/\((Ë X.K H p ys/\∀l,H l=none->Q (.ref l) (upd H l (.tup ys)))\/(Ñ X.K H p ys/\Q (.ref p) H))):=by
 intro Á s σ H xs us Q I r h;obtain⟨p,ys,rfl,h⟩:=h;obtain⟨u,rfl,rx⟩:=ô r;cases rx;rcases h with⟨hq,q⟩|⟨hq,q⟩;.obtain⟨È,r',pl,hz⟩:=I.list hq;have hlen:=r'.length;show call_tuple_list pl.isList (λh' kp=>?_) (by simp only[List.size_toArray]<;>lia);have I1:É X Á σ H `l:=I.kept (t':=s.toks) kp;have I2:É X Á σ (upd H h'.objs.size (.tup ys)) {s with heap:=h'.push {cls:=.type "tuple",data:=.seq È.toArray}}:=I1.laid (t':=s.toks) (λb o e=>ò _ e) (Ø _) (⟨hz,È,r',IsTup.new _ _⟩);show⟨.ref h'.objs.size,_,I2,O,q _ (I1.hok.fresh (Ø _))⟩
 .obtain⟨È,r',pl,hz⟩:=I.tuple hq;show call_tuple_same pl ⟨.ref p,H,I,O,q⟩
def tyV(K:Frag)(T:String)(x:V)(H:Hp):Prop:=match x with|.str _=>T="str"|.int _=>T="int"|.ref p=>(T="list"/\∃xs,Ë K H p xs)\/(T="tuple"/\∃o,K.lookup p=some o/\o.cls=.type "tuple"/\o.dict=none)\/(T="dict"/\((∃Ä,H p=some (.dK Ä))\/∃Ä,H p=some (.dT Ä)))\/(T="set"/\∃S n,H p=some (.set S n))|_=>False
theorem Li{σ:St}(I:`c)(r:Ò x v)(ty:tyV X.K T x H):
 s.TypeIs v T/\∀a,v=.ref a->∃ob,s.heap.get? a=some ob/\ob.dict=none:=by cases x with|str z=>obtain⟨t,rfl⟩:=r;cases(ty);exact⟨typeIs_str s z t,λ_ e=>nomatch e⟩;|int i=>obtain⟨t,rfl⟩:=r;cases(ty);exact⟨typeIs_int s i t,λ_ e=>nomatch e⟩;|ref p=>
  cases r;rcases ty with⟨rfl,xs,hq⟩|⟨rfl,o,hk,hc,hd⟩|⟨rfl,hk⟩|⟨rfl,S,n,hk⟩;.obtain⟨È,_,pl,_⟩:=I.list hq;show⟨pl.isList.typeIs,λa e=>?_⟩;cases e;obtain⟨o,n,e,c,hd,_⟩:=pl;show⟨o,e,hd⟩
  .refine⟨⟨o,I.kIn p o hk,hc⟩,λa e=>?_⟩;cases e;show⟨o,I.kIn _ o hk,hd⟩
  .have z:∃o,s.heap.get? p=some o/\o.ExactDict:=by
    rcases hk with⟨Ä,hk⟩|⟨Ä,hk⟩;.obtain⟨_,_,_,_,o,_,_,e,ex,_⟩:=I.hok p _ hk;show⟨o,e,ex⟩
    .obtain⟨_,_,_,_,o,_,_,e,ex,_⟩:=I.hok p _ hk;show⟨o,e,ex⟩
   obtain⟨o,e,ex⟩:=z;show⟨⟨o,e,ex.1⟩,λa e2=>?_⟩;cases e2;show⟨o,e,ex.2.1⟩
  .obtain⟨o,_,_,_,e,ex,_⟩:=I.hok p _ hk;refine⟨⟨o,e,ex.1⟩,λa e2=>?_⟩;cases e2;exact⟨o,e,ex.2.1⟩;|_=>show False.elim ty
def tBM(K:Frag)(T:String)(r:V->List V->Hp->VK->Prop)(to:TE)(t:TA):TE:=λσ H Q=>to σ H λx H1=>tyV K T x H1/\t σ H1 λxs H2=>r x xs H2 Q
variable{apos dP:Pos}{T id:String}
theorem jB(pa:PlainAttrs T)(slot:Slot T name id)(UO:typeOf (.builtin id)=pure (.type "method_descriptor"))(hm:MtR X id r)(ho:PE X o to)(ha:PA X (e::es) t)(CY:attributeBase o name X.env (eval o X.env)=eval o X.env:=by rfl)(Kk:((backTo dP (starEach (e::es) X.env)).all (λx=>!x.1)&&(backToKw dP (keywordEach [] X.env)).all (λx=>x.1.isSome)&&decide ((e::es).length+([]:List Keyword).length+(if([]:List Keyword).isEmpty then 0 else 1)<30))=true:=by rfl)(C3:(apos.endLine==dP.line)=true:=by rfl)(hs:Qa9 X e es:=by rfl)(Kn:Qaa X dP es:=by rfl):PE X (.Call (.Attribute o name apos) (e::es) [] dP) (tBM X.K T r to t):=by intro Á s σ H Q I h;show wpAny_Call_method_late CY Kk C3 O (Û (ho Á s σ H _ I h) λv s1=>?_);rintro⟨x,H1,I1,r1,ty,q1⟩;obtain⟨h1,h2⟩:=Li I1 r1 ty;show⟨T,id,pa,slot,UO,h1,h2,?_⟩;have hA:=ha dP Á s1 σ H1 _ I1 q1;rw[hs]at hA⊢;show Calls.callWith_builtin (by assumption) (Calls.evalArgs_plain ?_);show Û hA λus s2=>by rintro⟨vs,H2,I2,r2,q2⟩;show hm Á s2 σ H2 x vs v us Q I2 r1 r2 q2
end
def MtM(X:Cx)(id:String)(r:V->List V->Hp->VK->Prop):Prop:=∀Á s(σ:St)H x xs v us Q,`c->Ò x v->Î xs us->r x xs H Q->wpAny `d X.A (call (.builtin id) (v::us)) (EP X Á σ Q) X.xe s
theorem Î.one:∀{x:V}{us:ó},Î [x] us->∃u,us=[u]/\Ò x u|_,_,.cons r .nil=>⟨_,O,r⟩
theorem Î.zero:∀{us:ó},Î [] us->us=[]|_,.nil=>rfl
theorem Î.rep(h:Î xs us):∀k,Î (List.replicate k xs).flatten (List.replicate k us).flatten|0=>.nil|k+1=>by show Î.append h (Î.rep h k)
theorem ş(È:ó):∀k acc,List.foldl (λx1 x2=>x1++x2) acc.toArray (List.replicate k È.toArray)=(acc++(List.replicate k È).flatten).toArray
 |0,acc=>by simp;|k+1,acc=>by
  have e:acc.toArray++È.toArray=(acc++È).toArray:=by simp
  have e2:(acc++È)++(List.replicate k È).flatten=acc++(List.replicate (k+1) È).flatten:=by rw[List.replicate_succ,List.flatten_cons,Ġ]
  rw[<-e2,<-ş È k (acc++È),<-e,List.replicate_succ,Zcf]
section
variable{σ:St}
theorem É.lset{È its':ó}(I:`c)(hH:H l=some (.lst xs))(e:s.heap.get? l=some {cls:=.type "list",data:=.seq È.toArray n})(hf:f È.toArray=its'.toArray)(hv:Î ys its')(hz:ys.length<=sizeLine):É X Á σ (upd H l (.lst ys)) {s with heap:=s.heap.update l (Obj.mapSeq f),toks:=t'}:=by have q:=PySem.IsL.update e f;rw[hf]at q;show I.write (x:=l) (e:=l) (by rw[hH];show trivial) (.inl O) (λb' u hb hu=>(Heap.get?_update_other s.heap (Obj.mapSeq f) (Ne.symm hb)).trans hu) ⟨_,q⟩ ?_;show⟨hz,its',_,hv,q⟩
theorem É.lnew(I:`c)(hv:Î ys È)(hz:ys.length<=sizeLine):É X Á σ (upd H s.heap.objs.size (.lst ys)) {s with heap:=s.heap.push {cls:=.type "list",data:=.seq È.toArray},toks:=t'}:=I.laid (λ_ _ q=>ò _ q) (Ø _) ⟨hz,È,0,hv,Ģ _ O⟩
theorem É.fresh(I:`c):H s.heap.objs.size=none:=I.hok.fresh (Ø _)
theorem É.lstM(I:`c)(hH:H l=some (.lst xs)):xs.length<=sizeLine/\∃(È:ó)(n:Nat),Î xs È/\xs.length=È.length/\s.heap.get? l=some {cls:=.type "list",data:=.seq È.toArray n}:=by obtain⟨z,È,n,r,e⟩:=I.hok l _ hH;show⟨z,È,n,r,r.length,e⟩
theorem oY(h:n<=sizeLine):Builtin.List.listTooLong n=false:=by show č À
end
section
inductive Χ(x:V)(vs:List V)(H:Hp)(Q:VK):Prop|mk:∀l xs y,(x=.ref l)->(vs=[y])->(H l=some (.lst xs))->(xs.length<sizeLine)->(Q .non (upd H l (.lst (xs++[y]))))->Χ  x vs H Q
def J1:V->List V->Hp->VK->Prop:=λx vs H Q=>Χ  x vs H Q
theorem di:MtM X "list.append" J1:=by intro Á s σ H x vs v us Q I rx rv h;obtain⟨l,xs,y,rfl,rfl,hH,hz,q⟩:=h;cases rx;obtain⟨u,rfl,ru⟩:=rv.one;obtain⟨z,È,n,r,hl,e⟩:=I.lstM hH;show call_meets F.slot_list_append ⟨_,e,O⟩ F.entry_list_append (F.args_list_append_2 _ _) (PySem.list_append l È.toArray n u (by rw[ă];lia)) ⟨e,?_⟩;show⟨.non,_,I.lset (its':=È++[u]) hH e Õ (r.append (.cons ru .nil)) ?_,O,q⟩;rw[à,List.length_singleton];lia
inductive Φ(x:V)(vs:List V)(H:Hp)(Q:VK):Prop|mk:∀l b xs zs,(x=.ref l)->(vs=[.ref b])->(H l=some (.lst xs))->(H b=some (.lst zs))->(xs.length+zs.length<=sizeLine)->(Q .non (upd H l (.lst (xs++zs))))->Φ  x vs H Q
def J2:V->List V->Hp->VK->Prop:=λx vs H Q=>Φ  x vs H Q
theorem Nb:MtM X "list.extend" J2:=by
 intro Á s σ H x vs v us Q I rx rv h;obtain⟨l,b,xs,zs,rfl,rfl,hH,hB,hz,q⟩:=h;cases rx;obtain⟨u,rfl,ru⟩:=rv.one;cases ru;obtain⟨z,È,n,r,hl,e⟩:=I.lstM hH;obtain⟨z2,cw,n2,r2,gu,e2⟩:=I.lstM hB;have hsz:È.toArray.size+cw.toArray.size<=sizeLine:=by rw[ă,ă];lia
 have gI:¬(!È.toArray.isEmpty&&Builtin.List.listTooLong (È.toArray.size+cw.toArray.size))=true:=by rw[oY hsz,Bool.and_false];show Ō
 show call_meets F.slot_list_extend ⟨_,e,O⟩ F.entry_list_extend (F.args_list_extend_2 _ _) (AutoSeq1.list_extend_list_list_0 l È.toArray n b cw.toArray n2 gI (by rw[ă];lia) À) ⟨e,e2,?_⟩;show⟨.non,_,I.lset (its':=È++cw) hH e Õ (r.append r2) ?_,O,q⟩;rw[à];lia
inductive Z0v(x:V)(y:V)(H:Hp)(Q:VK):Prop|mk:∀l b xs zs,(x=.ref l)->(y=.ref b)->(H l=some (.lst xs))->(H b=some (.lst zs))->(xs.length+zs.length<=sizeLine)->(∀p,H p=none->Q (.ref p) (upd H p (.lst (xs++zs))))->Z0v  x y H Q
def Qf:R2:=λx y H Q=>Z0v  x y H Q
theorem uz:Ī X (binaryOp .Add) Qf:=by
 intro Á s σ H x y v u Q I rx ry h;obtain⟨l,b,xs,zs,rfl,rfl,hH,hB,hz,q⟩:=h;cases rx;cases ry;obtain⟨z,È,n,r,hl,e⟩:=I.lstM hH;obtain⟨z2,cw,n2,r2,gu,e2⟩:=I.lstM hB;show PySem.P.add_list e e2 ?_ (by rw[ă,ă];lia);have ea:È.toArray++cw.toArray=(È++cw).toArray:=by simp
 rw[ea];show⟨.ref _,_,I.lnew (t':=s.toks) (r.append r2) (by rw[à];lia),O,q _ I.fresh⟩
inductive Z0s(x:V)(y:V)(H:Hp)(Q:VK):Prop|mk:∀l k xs,(x=.ref l)->(y=.int k)->(H l=some (.lst xs))->(-(2^63)<=k)->(k<2^63)->(xs.length*k.toNat<=sizeLine)->(∀p,H p=none->Q (.ref p) (upd H p (.lst (List.replicate k.toNat xs).flatten)))->Z0s  x y H Q
def Qg:R2:=λx y H Q=>Z0s  x y H Q
theorem Z0d{α:Type}(xs:List α)(k:Nat):(List.replicate k xs).flatten.length=k*xs.length:=by simp
theorem Lj:Ī X (binaryOp .Mult) Qg:=by
 intro Á s σ H x y v u Q I rx ry h;obtain⟨l,k,xs,rfl,rfl,hH,h1,h2,hz,q⟩:=h;cases rx;obtain⟨t,rfl⟩:=ry;obtain⟨z,È,n,r,hl,e⟩:=I.lstM hH;have hlen:È.toArray.size*k.toNat<=sizeLine:=by rw[ă,<-hl];show hz
 have Kt:¬È.toArray.size*k.toNat>(2^63-1)/8:=by
  have:(sizeLine:Nat)<=(2^63-1)/8:=by decide
  lia
 have Kx:¬(!Builtin.List.listFitsIndex k)=true:=by rw[fitsIndex_both h1 h2];show Ō
 have gI:¬Builtin.List.listTooLong (È.toArray.size*k.toNat)=true:=by rw[oY hlen];show Ō
 have KA:List.foldl (λx1 x2=>x1++x2) #[] (List.replicate (if È.toArray.isEmpty=true then 0 else k.toNat) È.toArray)=(List.replicate k.toNat È).flatten.toArray:=by
  have f0:∀m:Nat,List.foldl (λx1 x2=>x1++x2) #[] (List.replicate m È.toArray)=(List.replicate m È).flatten.toArray:=λm=>by have:=ş È m [];rw[Zce]at this;show this
  rw[f0];cases È with|nil=>simp;|cons a r'=>rw[Ç Õ]
 show wpAny_binaryOp_repeat_ref (T:="list") (U:="int") á ⟨_,e,O⟩ (λs'=>typeIs_int s' k t) noFill_list_mul F.fills_int_mul F.slot_int_rmul repeat_list F.slot_int_index.lookup (call_meets F.slot_int_rmul (typeIs_int s k t) F.entry_int_rmul (F.args_int_rmul_2 _ _) (int___rmul___int_list k t l È.toArray n) ⟨e,O,⟨_,e,O⟩,call_meets F.slot_list_mul ⟨_,e,O⟩ F.entry_list_mul (F.args_list_mul_2 _ _) (AutoListH.list___mul___list_int_3 l È.toArray n k t Kx Kt gI) ⟨e,?_⟩⟩);rw[KA];show⟨.ref _,_,I.lnew (t':=s.toks) (r.rep k.toNat) (by rw[Z0d,Nat.mul_comm];show hz),O,q _ I.fresh⟩
end
section
set_option maxRecDepth 100000 in
end
section
end
end L2
namespace Att
open PySem PySem.W PySem.Calls PyProof.Rows
theorem nM:∀(ns:VV)vs,WellAll P h vs (ns.map WData.int)->IntsAre vs ns:=by intro ns;induction ns with|nil=>intro vs w;cases w;exact .nil;|cons n ns ih=>intro vs w;cases w with|cons a b=>cases a;show .cons _ _ (ih _ b)
theorem Cv{l:OpenLaw}(hn:l.most=some n)(rg:l.row.toRowW.claim.pre args=true)(KG:WellAll P h vals args):∃a vs ns,vals=[Value.ref a]/\args=[WData.list (ns.map WData.int)]/\h.get? a=some {cls:=.type "list",data:=.seq vs.toArray}/\IntsAre vs ns/\ns.length<=n:=by
 have hsh:WShape.hasAll [] args [.list .int]=true:=(pre_splitW rg).1;have hc:l.pre.holds [] {args:=args}=true:=(pre_splitW rg).2;obtain⟨d,r,rfl,h1,h2⟩:=hasAllW_cons hsh;obtain rfl:=hasAllW_nil h2;obtain⟨xs,rfl,h3⟩:=hasW_list h1;obtain⟨ns,rfl⟩:=items_int h3;have hlen:ns.length<=n:=by
  unfold OpenLaw.pre at hc;have h4:(WTm.not (.lt (.lit (.int (n:Int))) (.len (.arg 0)))).holds [] {args:=[.list (ns.map .int)]}=true:=by have h4:=(holds_andW hc).1;rw[hn]at h4;show h4
  have h5:=condW_of h4 (w_not (w_lt w_lit (w_len_list (w_arg O))));rw[Ï]at h5;refine Nat.le_of_not_lt λq=>?_;have q':(n:Int)<((ns.length:Nat):Int):=À;first|(rw[ç q']at h5;exact absurd h5 á);|(simp at h5;lia)
 cases KG with|cons w1 w2=>cases w2;cases w1 with|list ho df=>show⟨_,_,ns,O,O,ho,nM ns _ df,hlen⟩
theorem Cw(l:OpenLaw)(args:List WData):l.row.toRowW.claim.post args (.bool true) args=true:=postW_of (r:=l.row.toRowW) (X:=(true==true)) (show WShape.has [] (.bool true) .bool=true by first|rfl|decide|simp[WShape.has]) (w_eq_bool (w_res O) w_lit) O
theorem attach_call{l:OpenLaw}(hn:l.most=some n)(C4:d.params.defaults=[])(call:∀w s₀ s₁ mg mb fa o pm cd doc a vs(ns:VV),Ground q loose [] XP w s₀ mg mb s₁.heap->YP w s₁.heap->s₁.heap.get? fa=some o->o.data=.func (docDef d.name d.params d.body d.scope pm cd doc)->s₁.heap.CodeRec cd d.name->mg d.name=some (.ref fa)->s₁.heap.get? a=some {cls:=.type "list",data:=.seq vs.toArray}->IntsAre vs ns->ns.length<=n->s₁.gens=#[]->codeAny (model l.prog w) callerA (.call (.ref fa) ⟨[.ref a],[]⟩) (λr s'=>r=.ok (.ret (.bool true))/\OldK s₁.heap s'.heap/\s'.os=s₁.os/\AllBare s'.gens) s₁):WalkO q loose XP YP l.row.toRowW d [] (λf vs=>PySem.call f vs):=by intro w s₀ s₁ mg mb G Y fa o pm cd doc dV kV ho hd mx hD hmg hg args vals as rg UP GH KG fE;obtain rfl:dV=.none:=Dflts.none hD C4;obtain rfl:kV=.none:=Dflts.noKw hD;obtain⟨a,vs,ns,rfl,rfl,xy,hints,hlen⟩:=Cv hn rg KG;show enter_call (codeAny_mono (call w s₀ s₁ mg mb fa o pm cd doc a vs ns G Y ho (fd_plain hd) mx hmg xy hints hlen hg) λr s' hq=>?_);obtain⟨rfl,h2,h3,h4⟩:=hq;show⟨.inl ⟨.bool true,.bool true,[],O,λ_=>rfl,.bool true,Cw l _,λ_=>⟨List.Pairwise.nil,λ_ hm=>(nomatch hm)⟩⟩,h2,h3,h4⟩
section
end
end Att
namespace L2
open PySem PySem.Spec PyProof.Rows
theorem sS:∀{vs:ó}{ns:VV},IntsAre vs ns->Î (ns.map V.int) vs|_,_,.nil=>.nil|_,_,.cons n t h=>.cons ⟨t,O⟩ (sS h)
def Z0y(H:Hp):Prop:=∀b,H b=none\/∃o xs,H b=some (.frz o (.lst xs))
theorem Ek{K:Frag}{sp:Sp}{s₁:Shared}{vs:ó}{ns:VV}(KX:K.In s₁.heap)(Rt:s₁.heap.Ns mainGlobals mg)(hb:s₁.heap.Ns builtinsNs mb)(UQ:∀x:Str,x≠"__name__"->mb x=bootBuiltins x)(KI:s₁.heap.NoLimit)(hg:s₁.gens=#[])(ha:s₁.heap.get? a=some {cls:=.type "list",data:=.seq vs.toArray})(hi:IntsAre vs ns)(hl:ns.length<=sizeLine)(hr:ą k callerA)(F:∀base,K.In base->base.Ns mainGlobals mg->Ú P w K mg base CX k fa fd [x] sp)(C5:∀s u,BindsTo s fd ⟨[u],[]⟩ [(x,u)])(uj:∀H,Z0y H->Ë K H a (ns.map V.int)->sp [.ref a] H (λv _=>v=.bl true) λ_ _ _=>False)(KL:∀H e s',CX [] H s₁ (λ_ _ _=>False) e s'->False):codeAny (model P w) callerA (.call (.ref fa) ⟨[.ref a],[]⟩) (λr s'=>r=.ok (.ret (.bool true))/\OldK s₁.heap s'.heap/\s'.os=s₁.os/\AllBare s'.gens) s₁:=by
 have rv:=sS hi;have KO:=hi.length;have core:∀H:Hp,Z0y H->Ë K H a (ns.map V.int)->Ĳ P w H s₁.heap->(∀b,H b≠none->b=a)->(H a≠none->K.lookup a=none)->codeAny (model P w) callerA (.call (.ref fa) ⟨[.ref a],[]⟩) (λr s'=>r=.ok (.ret (.bool true))/\OldK s₁.heap s'.heap/\s'.os=s₁.os/\AllBare s'.gens) s₁:=by
  intro H hO hS hok hA hK;have kr:∀{b:Addr}{o:Obj},s₁.heap.get? b=some o->H b=none->(uo s₁.heap H).get? b=some o:=λe n=>DY e n;have CM:∀{b:Addr}{o:Obj}{es:Array DictEntry}{ep:Nat},s₁.heap.get? b=some o->o.data=.dict es ep->H b=none:=λ{b o es ep}e d=>by cases q:H b with|none=>rfl;|some u=>have e':b=a:=hA b (by rw[q];simp);subst e';rw[ha]at e;cases e;have d':Data.seq vs.toArray _=Data.dict es ep:=d;cases d'
  have GI:∀{b:Addr}{m:UW},s₁.heap.Ns b m->(uo s₁.heap H).Ns b m:=λ{b m}⟨o,es,ep,e,d,r⟩=>⟨o,es,ep,kr e (CM e d),d,r⟩;have Ru:K.In (uo s₁.heap H):=λb o e=>kr (KX b o e) (by cases q:H b with|none=>rfl;|some u=>have e':b=a:=hA b (by rw[q];simp);subst e';rw[hK (by rw[q];simp)]at e;cases e);have hM:Mod K mg (uo s₁.heap H):=⟨Ru,GI Rt,⟨mb,GI hb,UQ⟩,let⟨mc,h1,h2⟩:=KI;⟨mc,GI h1,h2⟩⟩;have e0:Z0e P w K mg (uo s₁.heap H) callerA [] s₁ H:=⟨O,hM,λb o e=>Im e,Nat.le_of_eq (Ci _ _),trivial,λb hb=>absurd (show b∈([]:ø)from hb) Õ,hok,.of_eq hg⟩;refine codeAny_mono ((F _ Ru (GI Rt)).run callerA [] s₁ H ⟨[.ref a],[]⟩ [.ref a] [.ref a] _ _ hr e0 (C5 s₁ (.ref a)) (.cons O .nil) (uj H hO hS)) λr s' h=>?_;cases r with|error e=>exact(KL H e s' h).elim;|ok fl=>cases fl with|next=>exact False.elim h;|brk=>exact False.elim h;|cont=>exact False.elim h;|ret u=>obtain⟨v,H',os,bare,un,KP,r',q⟩:=h;have q':v=.bl true:=q;subst q';obtain rfl:u=Value.bool true:=r';refine⟨O,OldK.of_keep λb o e=>?_,os,bare⟩;cases q:H b with|none=>exact un.keep b o e q (by intro z;exact absurd (show b∈([]:ø)from z) Õ) Õ;|some u=>
     rcases hO b with z|⟨ob,xs,z⟩;.rw[q]at z;cases z
     .have z2:=un.frzs b ob _ z;obtain⟨e1,_⟩:=hok b _ z;obtain⟨e2,_⟩:=KP b _ z2;rw[e]at e1;cases e1;show e2
 cases hk:K.lookup a with|some o=>have e:=KX a o hk;rw[ha]at e;cases e;refine core (λ_=>none) (λ_=>.inl O) (.inr ⟨_,vs.toArray,_,hk,O,O,O,by rw[ă,KO];exact hl,by simpa using rv⟩) (λb u z=>by have z':(none:Option HO)=some u:=z;cases z') (λb z=>absurd O z) λz=>absurd O z;|none=>
  show core (λb=>if b=a then some (.frz {cls:=.type "list",data:=.seq vs.toArray} (.lst (ns.map V.int)))else none) (λb=>?_) (.inl (.inr ⟨{cls:=.type "list",data:=.seq vs.toArray},Ê O⟩)) (λb u z=>?_) (λb z=>?_) λ_=>hk
  .by_cases hb:b=a;.exact .inr ⟨_,_,Ê hb⟩
   .exact .inl (Ç hb)
  .by_cases hb:b=a;.have z':=(Ê hb).symm.trans z;cases z';subst hb;show⟨ha,by rw[Ï];show hl,vs,_,rv,ha⟩
   .have z':=(Ç hb).symm.trans z;cases z'
  .by_cases hb:b=a;.exact hb
   .exact absurd (Ç hb) z
theorem walk_of{l:PySem.W.OpenLaw}{K:Params->Frag}{CX:World->CXT}{sp:World->Sp}{x:Str}(hn:l.most=some n)(xA:n<=sizeLine)(C4:d.params.defaults=[])(hr:ą k callerA)(hY:∀w h,YP w h->(K w.params).In h)(F:∀w mg fa h,(K w.params).In h->h.Ns mainGlobals mg->mg d.name=some (.ref fa)->∃fd,(∀s u,BindsTo s fd ⟨[u],[]⟩ [(x,u)])/\∀base,(K w.params).In base->base.Ns mainGlobals mg->Ú l.prog w (K w.params) mg base (CX w) k fa fd [x] (sp w))(uj:∀w H a(ns:VV),ns.length<=n->Z0y H->Ë (K w.params) H a (ns.map V.int)->sp w [.ref a] H (λv _=>v=.bl true) λ_ _ _=>False)(KL:∀w H s e s',CX w [] H s (λ_ _ _=>False) e s'->False):PySem.W.WalkO q loose XP YP l.row.toRowW d [] (λf vs=>PySem.call f vs):=by show Att.attach_call hn C4 λw s₀ s₁ mg mb fa o pm cd doc a vs ns G Y ho hd mx hmg xy hints hlen hg=>?_;have KX:=hY w _ Y;obtain⟨fd,hb,hF⟩:=F w mg fa _ KX G.T.g hmg;show Ek KX G.T.g G.T.b G.T.builtins G.T.nolimit hg xy hints (ř hlen xA) hr hF hb (λH hO hS=>uj w H a ns hlen hO hS) λH e s'=>KL w H s₁ e s'
def gD(s:Stmt):Arguments:=match s with|.FunctionDef _ a _ _ _ _ _ _ _ _=>a|_=>{posonlyargs:=[],args:=[],vararg:=none,kwonlyargs:=[],kw_defaults:=[],kwarg:=none,defaults:=[]}
def f9(s:Stmt):List Stmt:=match s with|.FunctionDef _ _ b _ _ _ _ _ _ _=>b|_=>[]
def aG(s:Stmt):Scope:=match s with|.FunctionDef _ _ _ _ _ _ sc _ _ _=>sc|_=>{kind:=.function,names:=[],isGenerator:=false,isCoroutine:=false}
abbrev ù:CXT:=λ_ _ _ _ _ _=>False
abbrev E0:XK:=λ_ _ _=>False
theorem Nx:yf ù X E0:=λ_ _ _ _ _ _ _ h=>h.elim
structure ü(K:Frag)(x qual:Str)(st:Stmt)(f:Addr)(fd:FuncData):Prop where
 ex:∃oc od kV doc pm an av ct ui,fd=PySem.W.fnOf x qual (gD st) (f9 st) (aG st) .none kV doc pm an av ct/\K.lookup f=some ⟨oc,od,.func fd,ui⟩/\PySem.W.codeIn K av qual=true
 kp:PySem.W.keepIn K (.ref f)=true
section
variable{K:Frag}
theorem ü.ok{st:Stmt}(F:ü K x qual st f fd)(S:Å N ps (aG st))(len:∀vs H Q E,sp vs H Q E->vs.length=ps.length)(gE:∀av A outer s H vs Q E,ą k (A.deeper (envOfC qual (aG st) s.heap.objs.size f av))->sp vs H Q E->∃t,Ψ (yg ù P w K mg base N qual (aG st) f av A outer s H E).nox (f9 st) t/\t {nx:=λ_ H'=>Q .non H',rt:=Q} (start N vs) H):Ú P w K mg base ù (k+1) f fd ps sp:=by obtain⟨oc,od,kV,doc,pm,an,av,ct,ui,rfl,lk,mx⟩:=F.ex;show Np lk mx S len λA outer s H vs Q E hr uj=>?_;obtain⟨t,h,q⟩:=gE av A outer s H vs Q E hr uj;show⟨t,h.nox,q⟩
structure Z12(sp:Sp)(ps:Đ):Prop where h:∀vs H Q E,sp vs H Q E->vs.length=ps.length:=by intro _ _ _ _ h;first|(cases h;subst_vars;rfl)|(repeat(first|(subst_vars;rfl)|obtain⟨_,h⟩:=h))
theorem ü.oq{st:Stmt}(F:ü K x qual st f fd)(S:Å N ps (aG st))(gE:∀av A outer s H vs Q E,ą k (A.deeper (envOfC qual (aG st) s.heap.objs.size f av))->sp vs H Q E->∃t,Ψ (yg ù P w K mg base N qual (aG st) f av A outer s H E).nox (f9 st) t/\t {nx:=λ_ H'=>Q .non H',rt:=Q} (start N vs) H)(len:Z12 sp ps:=by exact{}):Ú P w K mg base ù (k+1) f fd ps sp:=F.ok S len.h gE
theorem ü.binds{st:Stmt}(F:ü K x qual st f fd)(h:∀kV doc pm an av ct us,us.length=ps.length->bindArgs (PySem.W.fnOf x qual (gD st) (f9 st) (aG st) .none kV doc pm an av ct) ⟨us,[]⟩=pure (ps.zip us)):Ŕ K fd ps []:=by obtain⟨oc,od,kV,doc,pm,an,av,ct,ui,rfl,lk,mx⟩:=F.ex;show .all (h kV doc pm an av ct)
theorem El{st:Stmt}{kV doc pm av ct:Value}(l:K.lookup f=some ⟨oc,od,.func (PySem.W.fnOf x qual (gD st) (f9 st) (aG st) .none kV doc pm an av ct),ui⟩)(c:PySem.W.codeIn K av qual=true)(k:PySem.W.keepIn K (.ref f)=true):ü K x qual st f (PySem.W.fnOf x qual (gD st) (f9 st) (aG st) .none kV doc pm an av ct):=⟨⟨oc,od,kV,doc,pm,an,av,ct,ui,O,l,c⟩,k⟩
end
theorem dG(hr:ą k A):A.units+1<cLine:=Nat.lt_of_le_of_lt (Nat.add_le_add_left (by decide:1<=64) _) hr.units
section
variable{X:Cx}
theorem pv(i:Nat){pos:Pos}(hN:X.N[i]?=some x:=by rfl)(hv:Vis X.env.scope x:=by first|exact Or.inl O|exact Or.inr (Or.inl O)|show Or.inr (Or.inr O))(hd:Qab x:=by decide)(mx:(x==("__classdict__":Str))=false:=by decide):PE X (.Name x pos) (Ea i):=KN hN hv hd mx
end
theorem bG{A B:Prop}(h:B):if false=true then A else B:=by show h
theorem bM{A B:Prop}(h:A):if true=true then A else B:=by show h
theorem J3{c A B:Prop}[Decidable c](h1:c->A)(h2:¬c->B):if c then A else B:=by
 by_cases h:c;.rw[Ê h];show h1 h
 .rw[Ç h];show h2 h
def Â(H H':Hp):Prop:=∀b o,H b=some o->H' b=some o
theorem Â.refl(H:Hp):Â H H:=λ_ _ h=>h
theorem Â.trans(a:Â H H1)(b:Â H1 H2):Â H H2:=λc o h=>b c o (a c o h)
theorem Â.free(e:Â H H')(h:H' l=Option.none):H l=Option.none:=by cases q:H l with|none=>rfl;|some o=>rw[e l o q]at h;cases h
theorem Â.seq{K:Frag}(e:Â H H')(h:Ë K H a xs):Ë K H' a xs:=by
 rcases h with(h|⟨o,h⟩)|h;.exact .inl (.inl (e _ _ h))
 .exact .inl (.inr ⟨o,e _ _ h⟩)
 .exact .inr h
end L2
inductive Xe3{A B C:Type}(p:A->B->C->Prop):Prop|mk:∀a b c,p a b c->Xe3 p
inductive Xe4{A B C D:Type}(p:A->B->C->D->Prop):Prop|mk:∀a b c d,p a b c d->Xe4 p
inductive Xe5{A B C D E:Type}(p:A->B->C->D->E->Prop):Prop|mk:∀a b c d e,p a b c d e->Xe5 p
inductive Xe6{A B C D E F:Type}(p:A->B->C->D->E->F->Prop):Prop|mk:∀a b c d e f,p a b c d e f->Xe6 p
inductive Xe8{A B C D E F G H:Type}(p:A->B->C->D->E->F->G->H->Prop):Prop|mk:∀a b c d e f g h,p a b c d e f g h->Xe8 p
inductive Xe9{A B C D E F G H I:Type}(p:A->B->C->D->E->F->G->H->I->Prop):Prop|mk:∀a b c d e f g h i,p a b c d e f g h i->Xe9 p
inductive Xe11{A B C D E F G H I J K:Type}(p:A->B->C->D->E->F->G->H->I->J->K->Prop):Prop|mk:∀a b c d e f g h i j k,p a b c d e f g h i j k->Xe11 p
inductive Xe13{A B C D E F G H I J K L M:Type}(p:A->B->C->D->E->F->G->H->I->J->K->L->M->Prop):Prop|mk:∀a b c d e f g h i j k l m,p a b c d e f g h i j k l m->Xe13 p
inductive Z0x{A B C D E F G H I J K L M N:Type}(p:A->B->C->D->E->F->G->H->I->J->K->L->M->N->Prop):Prop|mk:∀a b c d e f g h i j k l m n,p a b c d e f g h i j k l m n->Z0x p
inductive Xe15{A B C D E F G H I J K L M N O:Type}(p:A->B->C->D->E->F->G->H->I->J->K->L->M->N->O->Prop):Prop|mk:∀a b c d e f g h i j k l m n o,p a b c d e f g h i j k l m n o->Xe15 p
inductive Xa2(a b:Prop):Prop|mk:a->b->Xa2 a b
inductive Xa3(a b c:Prop):Prop|mk:a->b->c->Xa3 a b c
inductive Xa4(a b c d:Prop):Prop|mk:a->b->c->d->Xa4 a b c d
inductive Xa5(a b c d e:Prop):Prop|mk:a->b->c->d->e->Xa5 a b c d e
inductive Xa6(a b c d e f:Prop):Prop|mk:a->b->c->d->e->f->Xa6 a b c d e f
inductive Xa7(a b c d e f g:Prop):Prop|mk:a->b->c->d->e->f->g->Xa7 a b c d e f g
inductive Xa8(a b c d e f g h:Prop):Prop|mk:a->b->c->d->e->f->g->h->Xa8 a b c d e f g h
theorem L2.hide{G:Prop}(h:∀X:Prop,(G->X)->X):G:=h G id
namespace L2
open PySem PySem.Spec PyProof.Rows
def dH(cells:List (Str×Addr)):List (Str×NameKind)->List (Str×Addr)->List (Str×Addr)|[],acc=>acc|(n,k)::r,acc=>dH cells r (if k=.free then(n,(cells.lookup n).getD 0)::acc else acc)
theorem sU:∀l acc,(∀p∈l,p.2=NameKind.free->(env.cells.lookup p.1).isSome=true)->(forIn l acc λx r=>(if(x.2==NameKind.free)=true then do let a<-cellOf env x.1;pure (ForInStep.yield ((x.1,a)::r))else pure (ForInStep.yield r):Sem (ForInStep (List (Str×Addr)))))=pure (dH env.cells l acc)
 |[],acc,_=>rfl|(n,k)::r,acc,h=>by
  rw[List.forIn_cons];have ih:=λa=>sU (env:=env) r a λp hp=>h p (ώ _ hp);by_cases hk:k=.free
  .subst hk;have hs:=h (n,.free) Ζ O;obtain⟨c,hc⟩:=Zcb.mp hs;have e1:cellOf env n=pure c:=by unfold cellOf;rw[show env.cells.lookup n=some c from hc]
   have e2:dH env.cells ((n,.free)::r) acc=dH env.cells r ((n,c)::acc):=by show dH env.cells r (if NameKind.free=NameKind.free then(n,(env.cells.lookup n).getD 0)::acc else acc)=_;rw[Ê O,show env.cells.lookup n=some c from hc];rfl
   rw[e2];simp only[beq_self_eq_true,if_true,e1,pure_bind];show ih _
  .have hb:(k==NameKind.free)=false:=by simpa using hk
   have e2:dH env.cells ((n,k)::r) acc=dH env.cells r acc:=by show dH env.cells r (if k=NameKind.free then _ else acc)=_;rw[Ç hk]
   rw[e2];simp only[hb,Bool.false_eq_true,if_false,pure_bind];show ih _
theorem uA(h:∀p∈scope.names,p.2=NameKind.free->(env.cells.lookup p.1).isSome=true):closureFor scope env=pure (dH env.cells scope.names []):=by have e:=sU (env:=env) scope.names [] h;unfold closureFor;simp only[bind_pure];show e
theorem kh:∀l acc,(∀p∈l,p.2=NameKind.free->(cells.lookup p.1).isSome=true)->(dH cells l acc).lookup x=some c->acc.lookup x=some c\/cells.lookup x=some c
 |[],_,_,h=>.inl h|(n,k)::r,acc,hf,h=>by
  have h':(dH cells r (if k=.free then(n,(cells.lookup n).getD 0)::acc else acc)).lookup x=some c:=h;rcases kh r _ (λp hp=>hf p (ώ _ hp)) h' with e|e
  .by_cases hk:k=.free
   .rw[Ê hk]at e;obtain⟨d,hd⟩:=Zcb.mp (hf (n,k) Ζ hk);rw[show cells.lookup n=some d from hd]at e;rw[List.lookup_cons]at e
    cases hx:x==n with|true=>
     rw[hx]at e;have:x=n:=by simpa using hx
     subst this;exact .inr (hd.trans (by simpa using e));|false=>rw[hx]at e;show .inl e
   .rw[Ç hk]at e;show .inl e
  .exact .inr e
theorem vQ:∀l acc,((∃k,(x,k)∈l/\k=NameKind.free)\/(∃c,acc.lookup x=some c))->∃c,(dH cells l acc).lookup x=some c
 |[],_,h=>by
  rcases h with⟨k,hk,_⟩|h;.exact absurd hk Õ
  .exact h;|(n,k)::r,acc,h=>by
  show∃c,(dH cells r (if k=.free then(n,(cells.lookup n).getD 0)::acc else acc)).lookup x=some c;apply vQ r;rcases h with⟨k',hk,e⟩|⟨c,hc⟩
  .rcases ļ.mp hk with z|z;.cases z;show .inr ?_;rw[Ê e];show⟨_,by rw[List.lookup_cons,beq_self_eq_true]⟩
   .exact .inl ⟨k',z,e⟩
  .refine .inr ?_;by_cases hk:k=.free;.rw[Ê hk,List.lookup_cons];cases hx:x==n with|true=>exact⟨_,O⟩;|false=>show⟨c,hc⟩
   .rw[Ç hk];show⟨c,hc⟩
theorem nC(hc:∀p∈scope.names,p.2≠NameKind.cell)(h:(relabel scope env).names.lookup x=some k)(hk:k=.cell\/k=.free):∃k',(x,k')∈scope.names/\k'=NameKind.free:=by
 have m:=PySem.mem_of_lookup h;obtain⟨⟨n,k0⟩,hm,e⟩:=Ù.mp m;dsimp only at e;split at e
 .rename_i c;cases e;have:(k0==NameKind.free)=true:=by cases q:(k0==NameKind.free)with|true=>rfl;|false=>rw[q]at c;simp at c
  show⟨k0,hm,by simpa using this⟩
 .cases e;rcases hk with z|z;.exact absurd z (hc _ hm)
  .exact⟨_,hm,z⟩
def Ŋ(X:Cx)(scope:Scope)(Nc:Đ)(C:Addr)(fp:ø)(Á:gV)(s₂:Shared)(Í:Hp):Cx where prog:=X.prog;w:=X.w;K:=X.K;mg:=X.mg;base:=X.base;A:=X.A;N:=Nc;s₀:=s₂;H₀:=Í;env:=compEnvC scope (dH X.env.cells scope.names []) C X.env;outer:=X.stack;stack:=X.stack;ex:=fp;fn:=λ_=>false;calm:=X.calm;pn:=X.pn++Á;xe:=λ_ _=>False
def ē(X:Cx)(bS:Env):Đ->List (Option Nat)->Prop|[],[]=>True|_::N,none::r=>ē X bS N r|x::N,some i::r=>(X.N[i]?=some x/\(X.env.kindOf x=some .cell\/X.env.kindOf x=some .free)/\bS.cells.lookup x=X.env.cells.lookup x/\(bS.kindOf x=some .cell\/bS.kindOf x=some .free))/\ē X bS N r|_,_=>False
def ħ(σ:St)(src:List (Option Nat)):St:=src.map λo=>match o with|none=>none|some i=>(σ[i]?).join
theorem ē.len:∀{N:Đ}{src:List (Option Nat)},ē X bS N src->src.length=N.length|[],[],_=>rfl|[],_::_,h=>h.elim|_::_,[],h=>h.elim|_::N,none::r,h=>by have h':ē X bS N r:=h;have:=ē.len (N:=N) (src:=r) h';simp[this];|_::N,some _::r,h=>by have:=ē.len (N:=N) (src:=r) h.2;simp[this]
theorem ē.get:∀{N:Đ}{src:List (Option Nat)}{j i:Nat},ē X bS N src->N[j]?=some x->src[j]?=some (some i)->X.N[i]?=some x/\(X.env.kindOf x=some .cell\/X.env.kindOf x=some .free)/\bS.cells.lookup x=X.env.cells.lookup x/\(bS.kindOf x=some .cell\/bS.kindOf x=some .free)|[],[],_,_,_,e,_=>by simp at e;|[],_::_,_,_,h,_,_=>h.elim|_::_,[],_,_,h,_,_=>h.elim|_::_,none::_,0,_,_,_,e=>by simp at e;|_::N,none::r,j+1,_,h,e1,e2=>by have h':ē X bS N r:=h;exact ē.get (N:=N) (src:=r) (j:=j) h' (by simpa using e1) (by simpa using e2);|_::_,some _::_,0,_,h,e1,e2=>by simp at e1 e2;subst e1 e2;exact h.1;|_::_,some _::_,j+1,_,h,e1,e2=>ē.get (j:=j) h.2 (by simpa using e1) (by simpa using e2)
structure ý(X:Cx)(scope:Scope):Prop where
 kind:scope.kind=.function
 cell:scope.names.all (λp=>p.2 !=.cell)=true
 names:scope.names.all (λp=>p.2 !=.local||scope.names.lookup p.1==some .local)=true
 free:scope.names.all (λp=>p.2 !=.free||(X.env.cells.lookup p.1).isSome)=true
section
theorem ý.hcell(S:ý X scope):∀p∈scope.names,p.2≠NameKind.cell:=λp hp=>by have:=Ε.mp S.cell p hp;simpa using this
theorem ý.hnames(S:ý X scope):∀p∈scope.names,p.2=.local->scope.names.lookup p.1=some .local:=λp hp e=>by have:=Ε.mp S.names p hp;simpa[e]using this
theorem ý.hfree(S:ý X scope):∀p∈scope.names,p.2=NameKind.free->(X.env.cells.lookup p.1).isSome=true:=λp hp e=>by have:=Ε.mp S.free p hp;simpa[e]using this
end
def PTs(X:Cx)(ifs:Qa4)(t:TT):Prop:=∀Á s(σ:St)H Q,`c->t σ H Q->wpAny `d X.A (forIn ifs true λc r=>if r=true then do let ok<-isTrue c X.env (eval c X.env);pure (ForInStep.yield ok)else pure (ForInStep.yield r)) (TP X Á σ Q) X.xe s
def qZ:TT:=λ_ H Q=>Q true H
theorem bD:PTs X [] qZ:=λ_ _ _ H _ I h=>wpAny_tests_nil ⟨H,I,h⟩
theorem gF(h:PT X c t):PTs X [c] t:=λÁ s σ H Q I q=>wpAny_tests_one (h Á s σ H Q I q)
theorem J5(I:Nat->Shared->Prop)(turn:∀n s,I n s->wpAny (model prog w) A (pyNext it) (λr s₁=>match r with|none=>R (.ok .next) s₁|some v=>wpAny (model prog w) A (letOwnedTupleGo target it v) (λ_ uu=>wpAny (model prog w) A (assign target env v) (λ_ s₂=>wpAny (model prog w) A (forIn ifs true λc r=>if r=true then do let ok<-isTrue c env (eval c env);pure (ForInStep.yield ok)else pure (ForInStep.yield r)) (λok s₃=>if ok=true then wpAny (model prog w) A (eval elt env) (λx gL=>wpAny (model prog w) A (call (.builtin "list.append") [acc,x]) (λ_ C6=>∃m,m<n/\I m C6) (λ_ _=>False) gL) (λ_ _=>False) s₃ else∃m,m<n/\I m s₃) (λ_ _=>False) s₂) (λ_ _=>False) uu) (λ_ _=>False) s₁) (λ_ _=>False) s)(n:Nat)(h:I n s):codeAny (model prog w) A (.compLoop (.ListComp elt [⟨target,iter,ifs,0⟩] scope pos) 0 it acc env) R s:=by refine codeAny_loop O I (λn s hI=>?_) n h;show wpAny _ A ((compTurn (.ListComp elt [⟨target,iter,ifs,0⟩] scope pos) 0 it acc env).onRaise (λx=>do noteFrame x env;theTreesLotGoes x)) _ _ s;apply wpAny_noted;rw[compTurn_list];refine Ã (wpAny_standAt (Ã (wpAny_mono (turn n s hI) (λr s₁ aS=>?_) λ_ _ h'=>h'.elim)));cases r with|none=>exact Ì aS;|some v=>refine Ã (wpAny_mono aS (λ_ uu C7=>?_) λ_ _ h'=>h'.elim);refine Ã (wpAny_mono C7 (λ_ s₂ iN=>Ã (wpAny_mono iN (λok s₃ rh=>?_) λ_ _ h'=>h'.elim)) λ_ _ h'=>h'.elim);cases ok with|false=>exact Ì ⟨O,rh⟩;|true=>show Ã (Ã (wpAny_mono rh (λx gL KS=>Ã (wpAny_mono KS (λ_ C6 KU=>Ì (Ì ⟨O,KU⟩)) λ_ _ h'=>h'.elim)) λ_ _ h'=>h'.elim))
def km(J:It)(g:TG)(tt:TT)(te:TE)(Fin:List V->Hp->Prop)(cy:St)(H0:Hp):Prop:=∃W:Nat->Nat->List V->St->Hp->Prop,(∃m,W 0 m [] cy H0)/\∀i m ys σ H,W i m ys σ H->ys.length<sizeLine/\((J.stop i H/\Fin ys H)\/(J.go i H/\∀x H',J.yld i H x H'->g x σ H' λay H2=>tt ay H2 λb H3=>if b=true then te ay H3 λy H4=>∃m',m'<m/\W (i+1) m' (ys++[y]) ay H4 else∃m',m'<m/\W (i+1) m' ys ay H3))
abbrev TM:=List V->St->Hp->(List V->St->Hp->Prop)->Prop
abbrev yo(us:ó)(k:Nat):Obj:={cls:=.type "list",data:=.seq us.toArray k}
def Ϟ(X:Cx)(D:Addr):Prop:=D≠X.env.locals/\D∉X.fs/\X.s₀.heap.objs.size<=D/\(∀x c,X.env.cells.lookup x=some c->c≠D)/\∀p∈X.pn,p.1≠D
structure Fil(X:Cx)(Á:gV)(D:Addr)(σ:St)(H:Hp)(s:Shared)(ys:List V):Prop where
 inv:`c
 nD:H D=none
 np:∀p∈Á,p.1≠D
 obj:∃us k,s.heap.get? D=some (yo us k)/\Î ys us
def PM(X:Cx)(D:Addr)(M:Sem Fin->Sem Fin)(tm:TM):Prop:=∀Á s σ H Q ys,Fil X Á D σ H s ys->ys.length<sizeLine->tm ys σ H Q->∀c R E,(∀s' gv af H',Fil X Á D af H' s' gv->Q gv af H'->wpAny `d X.A c R E s')->wpAny `d X.A (M c) R E s
def tmE(te:TE):TM:=λys σ H Q=>te σ H λy H'=>Q (ys++[y]) σ H'
def J6(elt:Expr)(D:Addr)(env:Env):Sem Fin->Sem Fin:=λc=>(do let _<-call (.builtin "list.append") [.ref D,<-eval elt env])>>=λ_=>c
theorem χ{Q Q':α->Shared->Prop}(h:wpAny M A t Q (λ_ _=>False) s)(hQ:∀a s,Q a s->Q' a s):wpAny M A t Q' E s:=wpAny_mono h hQ λ_ _ x=>x.elim
theorem Ln(ap:Ϟ X D)(hx:X.xe=λ_ _=>False)(he:PE X elt te):PM X D (J6 elt D X.env) (tmE te):=by
 intro Á s σ H Q ys F hsz h c R E hc;obtain⟨I,nD,np,us,k,oD,rv⟩:=F;obtain⟨a1,a2,a3,a4,a5⟩:=ap;have I':É X (Á++[(D,yo us k)]) σ H s:=I.pins_of λp hp=>(è.mp hp).elim (λz=>I.pin p (Ļ _ z)) λz=>by rw[ĸ.mp z];show⟨oD,nD,a1,a2,λv z=>by cases z⟩
 have uS:=he _ s σ H _ I' h;rw[hx]at uS;show Ã (Ã (χ uS λxv s8=>?_));rintro⟨y,H8,I8,r8,q8⟩;have pD:=I8.pin (D,yo us k) (Ļ _ (Ļ _ (ĸ.mpr O)));show Ã (append_at (hsz:=by rw[ă,<-rv.length];show Zby hsz) pD.1 λh9 UR US=>Ì ?_);show hc _ _ _ _ ⟨I8.unpinned.turned (t':=s8.toks) (λb o hb e=>UR.extBut b o hb e) pD.2.1 a1 (.inr a3) a4 λp hp=>?_,pD.2.1,np,us++[xv],k+1,?_,rv.append (.cons r8 .nil)⟩ q8;.exact(è.mp hp).elim (a5 p) (np p)
 .show h9.get? D=_;rw[US,List.push_toArray]
def Ke(J:It)(g:TG)(tt:TT)(tm:TM)(Fin:List V->St->Hp->Prop)(UT:List V)(cy:St)(H0:Hp):Prop:=∃W:Nat->Nat->List V->St->Hp->Prop,(∃m,W 0 m UT cy H0)/\∀i m ys σ H,W i m ys σ H->ys.length<sizeLine/\((J.stop i H/\Fin ys σ H)\/(J.go i H/\∀x H',J.yld i H x H'->g x σ H' λay H2=>tt ay H2 λb H3=>if b=true then tm ys ay H3 λgv af H4=>∃m',m'<m/\W (i+1) m' gv af H4 else∃m',m'<m/\W (i+1) m' ys ay H3))
def sV(tg:Expr)(ifs:Qa4)(p:Pos)(it:Value)(env:Env)(M:Sem Fin->Sem Fin)(c:Sem Fin):Sem Fin:=do standAt p match<-pyNext it with
 |none=>pure (.done .next)|some v=>
  letOwnedTupleGo tg it v
  assign tg env v let ok<-forIn ifs true λc r=>if r=true then do let ok<-isTrue c env (eval c env);pure (ForInStep.yield ok)else pure (ForInStep.yield r)if ok=true then M c else c
theorem Ny(hc:X.calm=true)(hx:X.xe=λ_ _=>False)(ap:Ϟ X D)(ht:compTurn (.ListComp elt gens scope pos) d (.ref it) (.ref D) X.env=sV tg ifs p (.ref it) X.env M (again (.compLoop (.ListComp elt gens scope pos) d (.ref it) (.ref D) X.env)))(hg:PG X tg g)(va:PTs X ifs tt)(hm:PM X D M tm)(F:Fil X Á D σ H s ys)(T:į X.prog X.w X.K tg J fp it tn)(st:tn 0 s.heap)(hf:∀b∈fp,gB X Á H b/\b≠D)(hW:Ke J g tt tm Q ys σ H)(hR:∀s' gv af H',Fil X Á D af H' s' gv->gv.length<sizeLine->Q gv af H'->R (.ok .next) s'):codeAny `d X.A (.compLoop (.ListComp elt gens scope pos) d (.ref it) (.ref D) X.env) R s:=by
 obtain⟨W,⟨m0,w0⟩,step⟩:=hW;show codeAny_loop O (λn s'=>∃i ys af H',Fil X Á D af H' s' ys/\tn i s'.heap/\(∀b∈fp,H' b=none)/\W i n ys af H') (λn s3 hI=>?_) m0 ⟨0,ys,σ,H,F,st,λb hb=>(hf b hb).1.1,w0⟩;obtain⟨i,ys,fA,H3,⟨I3,rj,np,us,k,UU,C8⟩,gz,tT,w3⟩:=hI;show wpAny _ _ ((compTurn (.ListComp elt gens scope pos) d (.ref it) (.ref D) X.env).onRaise (λx=>do noteFrame x X.env;theTreesLotGoes x)) _ _ s3;apply wpAny_noted;rw[ht];obtain⟨a1,a2,a3,a4,a5⟩:=ap;obtain⟨hsz,xB⟩:=step i n ys fA H3 w3;have Rv:É X (Á++[(D,yo us k)]) fA H3 s3:=I3.pins_of λp hp=>(è.mp hp).elim (λz=>I3.pin p (Ļ _ z)) λz=>by rw[ĸ.mp z];show⟨UU,rj,a1,a2,λv z=>by cases z⟩
 have mI:∀{H':Hp},(∀b∈fp,H' b=none)->∀b∈fp,gB X (Á++[(D,yo us k)]) H' b:=λ{H'}hn b hb=>by
  obtain⟨⟨_,f1,f2,f3,f4,f5⟩,f6⟩:=hf b hb;show⟨hn b hb,f1,f2,f3,f4,λq hq=>?_⟩;rw[<-Ġ]at hq;rcases è.mp hq with z|z;.exact f5 q z
  .rw[ĸ.mp z];show f6.symm
 refine Ã (wpAny_standAt (Ã ?_));rcases xB with⟨stop,fin⟩|⟨go,turn⟩;.refine χ (T.done X O O O hc i _ s3 fA H3 (λ_ _=>False) Rv (mI tT) gz stop) λr s4=>?_;rintro⟨hr,I4⟩;subst hr;have pD:=I4.pin (D,yo us k) (Ļ _ (Ļ _ (ĸ.mpr O)));show Ì (hR s4 ys fA H3 ⟨I4.unpinned,rj,np,us,k,pD.1,C8⟩ hsz fin)
 .refine χ (T.item X O O O hc i _ s3 fA H3 (λ_ _=>False) Rv (mI tT) gz go) λr s4=>?_;rintro⟨u,hr,h4⟩;subst hr;show Ã (χ h4 λ_ s5=>?_);rintro⟨x,H5,I5,r5,y5,mB,CI⟩;have CL:=I5.pinned (mI CI) (T.obj _ _ mB);have C9:=hg _ s5 fA H5 x u _ CL r5 (turn x H5 y5);rw[hx]at C9;show Ã (χ C9 λ_ s6=>?_);rintro⟨qh,H6,I6,q6⟩;have fS:=va _ s6 qh H6 _ I6 q6;rw[hx]at fS;show Ã (χ fS λokb s7=>?_);rintro⟨H7,I7,q7⟩;have pD:=I7.pin (D,yo us k) (Ļ _ (Zav _ (Ļ _ (ĸ.mpr O))));have Rw:É X (Á++iY fp s5.heap) qh H7 s7:=I7.pins_of λq hq=>(è.mp hq).elim (λz=>I7.pin q (Ļ _ (Zav _ (Zav _ z)))) λz=>I7.pin q (Ļ _ (Ļ _ z));have Rx:∀q∈Á++iY fp s5.heap,q.1≠D:=λq hq=>(è.mp hq).elim (np q) λz=>(hf _ (su z).1).2;have back:∀{H8:Hp}{s8:Shared}{mM:St}{Dx:List V},Fil X (Á++iY fp s5.heap) D mM H8 s8 Dx->Fil X Á D mM H8 s8 Dx/\tn (i+1) s8.heap/\∀b∈fp,H8 b=none:=λ{H8 s8 mM Dx}F8=>by obtain⟨I8,n8,_,o8⟩:=F8;have pf:∀b∈fp,∀o,s5.heap.get? b=some o->s8.heap.get? b=some o:=λb hb o e=>(I8.pin (b,o) (Ļ _ (Ļ _ (eO hb e)))).1;show⟨⟨I8.unpinned,n8,np,o8⟩,T.keep _ _ _ mB pf,λb hb=>?_⟩;obtain⟨o,e,_⟩:=T.obj _ _ mB b hb;show(I8.pin (b,o) (Ļ _ (Ļ _ (eO hb e)))).2.1
  cases okb with|false=>obtain⟨m',lS,w7⟩:=q7;obtain⟨b1,b2,b3⟩:=back ⟨Rw,pD.2.1,Rx,us,k,pD.1,C8⟩;exact Ì ⟨O,m',lS,i+1,ys,qh,H7,b1,b2,b3,w7⟩;|true=>show hm _ s7 qh H7 _ ys ⟨Rw,pD.2.1,Rx,us,k,pD.1,C8⟩ hsz q7 _ _ _ λs8 Dx mM H8 F8 q8=>?_;obtain⟨m',lS,w8⟩:=q8;obtain⟨b1,b2,b3⟩:=back F8;show Ì ⟨O,m',lS,i+1,Dx,mM,H8,b1,b2,b3,w8⟩
theorem Em(hd:gens[d]?=some c)(ha:c.is_async=0)(h0:codeAny `a A (.compLoop (.ListComp elt gens scope pos) d it acc env) R s)(h:wpAny `a A (pyIter it) (λDA s'=>codeAny `a A (.compLoop (.ListComp elt gens scope pos) d DA acc env) R s') (λ_ _=>False) s):codeAny `a A (.compStart (.ListComp elt gens scope pos) d it acc env) R s:=by
 apply codeAny_of_tree;show wpAny _ _ ((compStart (.ListComp elt gens scope pos) d it acc env).onRaise (λx=>do noteFrame x env;standAt theWindowsPlace)) _ _ s;apply wpAny_notedAt;have e:(clausesOf (.ListComp elt gens scope pos))[d]?=some c:=hd;unfold compStart;rw[e];have e2:(Option.elim (some c) false λx=>x.is_async !=0)=false:=by show(c.is_async !=0)=false;rw[ha];rfl
 rw[e2];show wpAny _ _ (ask>>=_) _ _ s;show Ã (wpAny_askSetting (wpAny_ite ?_));split;.exact Ì (And.intro O h0)
 .refine Ã (wpAny_rule (Ã (wpAny_standAt (Ã (χ h λDA s' h'=>Ì (And.intro O h'))))))
section
theorem Cy(hg:gens[d]?=some ⟨tg,iter,ifs,0⟩)(hn:gens[d+1]?=none):compTurn (.ListComp elt gens scope pos) d it (.ref D) env=sV tg ifs iter.pos it env (J6 elt D env) (again (.compLoop (.ListComp elt gens scope pos) d it (.ref D) env)):=by unfold compTurn sV J6;simp only[hg,hn];rfl
end
theorem Z0i(S:ý X scope)(bo:∀C,ē X (compEnvC scope (dH X.env.cells scope.names []) C X.env) Nc src){σ:St}{J:It}(ai:É X Á σ Í s₂)(T:į X.prog X.w X.K tg J fp it tn)(st:tn 0 s₂.heap)(hf:∀b∈fp,gB X Á Í b){C:Addr}{aS:Heap}{m:UW}{n:Nat}(hle:s₂.heap.objs.size<=C)(bp:aS.Ns C m)(old:∀b o,s₂.heap.get? b=some o->aS.get? b=some o):É (Ŋ X scope Nc C fp Á s₂ Í) [] (ħ σ src) Í {s₂ with heap:=aS,toks:=s₂.toks+n}/\(∀b∈fp,b∉Ź X.stack)/\∀{H':Hp},H' C=none->gB X Á H' C:=by
 have aw:∀{b o},s₂.heap.get? b=some o->b≠C:=λ{b o}e=>ĵ (Ŭ (î e) hle);have xC:∀b∈fp,b≠C:=λb hb=>by obtain⟨o,e,_⟩:=T.obj _ _ st b hb;show aw e
 have sub:∀{x c},(dH X.env.cells scope.names []).lookup x=some c->X.env.cells.lookup x=some c:=λ{x c}e=>by
  rcases kh scope.names [] S.hfree e with z|z;.simp at z
  .exact z
 have A2:∀b∈fp,b∉Ź X.stack:=λb hb z=>by
  obtain⟨_,f1,f2,_⟩:=hf b hb;rcases ļ.mp (ai.stkSub b z)with e|e;.exact f1 e
  .exact f2 e
 show⟨?_,A2,λ{H'}hn=>⟨hn,?_,?_,.inr ?_,?_,?_⟩⟩
 .generalize bP:Ŋ X scope Nc C fp Á s₂ Í=X';have UX:X'.Ok:=by
   subst bP;show⟨ai.ok.mod,S.kind,ai.ok.glob,ai.ok.blt,hle,?_,?_,?_,ai.ok.hd,ai.ok.frames,.inl O,?_,ai.bs,ř ai.ok.bsz ai.sz,?_,A2,ai.stack,ai.stkFree⟩;.exact λx y c e1 e2=>ai.ok.inj x y c (sub e1) (sub e2)
   .intro x hx;have hx:(relabel scope X.env).names.lookup x=some .cell\/(relabel scope X.env).names.lookup x=some .free:=hx;have:∃k',(x,k')∈scope.names/\k'=NameKind.free:=by
     rcases hx with z|z;.exact nC S.hcell z (.inl O)
     .exact nC S.hcell z (.inr O)
    show vQ scope.names [] (.inl this)
   .intro x c z;show absurd z (by show¬(false=true);simp)
   .intro b hb;show⟨xC b hb,λx c e=>(hf b hb).2.2.2.2.1 x c (sub e)⟩
   .intro b o e hb;obtain⟨_,_,_,f3,_⟩:=hf b hb;rcases f3 with z|z;.exact ai.ok.noex b o e z
    .exact absurd (Ŭ (î (ai.ok.bs b o e).1) z) (ϯ _)
  have eL:X'.env.locals=C:=by subst bP;rfl
  have eN:X'.env=compEnvC scope (dH X.env.cells scope.names []) C X.env:=by subst bP;rfl
  have ef:X'.fs=Ź X.stack:=by subst bP;rfl
  have ep:X'.pn=X.pn++Á:=by subst bP;rfl
  show⟨UX,by subst bP;rfl,ai.bare,by subst bP;show Un.kept old,⟨_,by rw[eL];show bp,?_⟩,?_,by rw[eL];show ai.hok.fresh hle,?_,?_,by subst bP;show ai.hok.kept old,?_⟩
  .intro j x v e1 e2 e3;have e1:Nc[j]?=some x:=by subst bP;show e1
   have e4:∃i,src[j]?=some (some i)/\(σ[i]?).join=some v:=by unfold ħ at e2;rw[ì]at e2;cases q:src[j]? with|none=>rw[q]at e2;cases e2;|some o=>rw[q]at e2;cases o with|none=>simp at e2;|some i=>show⟨i,O,by simpa using e2⟩
   obtain⟨i,e5,e6⟩:=e4;obtain⟨c1,c2,c3,c4⟩:=(bo C).get e1 e5;have e7:σ[i]?=some (some v):=by cases q:σ[i]? with|none=>rw[q]at e6;simp at e6;|some o=>rw[q]at e6;simp at e6;rw[e6]
   obtain⟨m,_,hl⟩:=ai.loc;obtain⟨u,r,l⟩:=hl i x v c1 e7 (.inr (by rcases c2 with z|z;exact .inl z;exact .inr z));refine⟨u,r,?_⟩;rcases l with⟨k,_⟩|⟨_,c,e,z⟩;.rcases c2 with c2|c2<;>(rw[k]at c2;cases c2)
   .refine .inr ⟨by rw[eN];show c4,c,by rw[eN];show c3.trans e,?_⟩;obtain⟨o,ho,hd⟩:=z;show⟨o,old c o ho,hd⟩
  .intro x c e;rw[eN]at e;obtain⟨v,o,ho,hd⟩:=ai.cell x c (sub e);show⟨v,o,old c o ho,hd⟩
  .intro x c e;rw[eN]at e;show ai.freeC x c (sub e)
  .intro p hp;rw[ep,Ĕ]at hp;obtain⟨e,n,ne,nf,d⟩:=ai.pin p hp;show⟨old _ _ e,n,by rw[eL];show aw e,?_,d⟩;rw[ef];intro z;rcases ļ.mp (ai.stkSub _ z)with q|q;.exact ne q
   .exact nf q
  .have:=(bo C).len;subst bP;show(ħ σ src).length=Nc.length;unfold ħ;rw[Ï,this]
 .exact Θ (Ŭ ai.lt hle)
 .intro z;obtain⟨_,o,ho,_⟩:=ai.funs.mem z;show aw ho O
 .exact ř ai.sz hle
 .intro x c e z;obtain⟨v,o,ho,_⟩:=ai.cell x c e;show aw ho z
 .intro p hp z;show aw (ai.pin p hp).1 z
theorem yp{M:Addr->Env->Sem Fin->Sem Fin}(hc:X.calm=true)(S:ý X scope)(hd:gens[0]?=some ⟨tg,iter,ifs,0⟩)(DB:∀it D env,compTurn (.ListComp elt gens scope pos) 0 (.ref it) (.ref D) env=sV tg ifs p (.ref it) env (M D env) (again (.compLoop (.ListComp elt gens scope pos) 0 (.ref it) (.ref D) env)))(bo:∀C,ē X (compEnvC scope (dH X.env.cells scope.names []) C X.env) Nc src)(hb:∀C fp Á s₂ Í,PG (Ŋ X scope Nc C fp Á s₂ Í) tg g/\PTs (Ŋ X scope Nc C fp Á s₂ Í) ifs tt/\∀D,Ϟ (Ŋ X scope Nc C fp Á s₂ Í) D->PM (Ŋ X scope Nc C fp Á s₂ Í) D (M D (Ŋ X scope Nc C fp Á s₂ Í).env) tm){σ:St}{fp:ø}{tn:Nat->Heap->Prop}{J:It}(ai:É X Á σ Í s₂)(T:į X.prog X.w X.K tg J fp it tn)(st:tn 0 s₂.heap)(hf:∀b∈fp,gB X Á Í b){Fin:List V->Hp->Prop}(hW:Ke J g tt tm (λys _ H=>Fin ys H) [] (ħ σ src) Í){RR:Value->Addr->Result->Shared->Prop}{E:Ry}(DC:∀D C s' ys H' m,Fin ys H'->H' D=none->É X Á σ (upd H' D (.lst ys)) s'->s'.heap.Ns C m->gB X Á (upd H' D (.lst ys)) C->RR (.ref D) C (.ok .next) s'):wpAny `d X.A (newList []) (λacc s₃=>wpAny `d X.A (newFunctionEnv scope X.env.globals (dH X.env.cells scope.names []) [] X.env.qual none .none (some X.env)) (λgX gL=>codeAny `d X.A (.compStart (.ListComp elt gens scope pos) 0 (.ref it) acc {gX with scope:=relabel scope X.env}) (RR acc gX.locals) gL) E s₃) E s₂:=by
 show Η (wpAny_newFunctionEnv S.hcell (by intro y hy;simp at hy) (λaS bp bX=>?_) S.kind);dsimp only at bp bX⊢;generalize KW:s₂.heap.push {cls:=.type "list",dict:=none,data:=.seq ([]:ó).toArray}=HH at bp bX⊢;generalize DD:s₂.heap.objs.size=D at bp bX⊢;have hC:HH.objs.size=D+1:=by rw[<-KW,Heap.size_push,DD]
 generalize K0:HH.objs.size=C at bp bX hC⊢;have K2:D≠C:=À;have below:∀b,b<s₂.heap.objs.size->b≠C/\b≠D:=λb hb=>by rw[DD]at hb;show⟨by rw[hC];show ĵ (Nat.lt_succ_of_lt hb),ĵ hb⟩
 have aw:∀{b o},s₂.heap.get? b=some o->b≠C/\b≠D:=λ{b o}e=>below b (î e);have old:∀b o,s₂.heap.get? b=some o->aS.get? b=some o:=λb o e=>bX.extBut b o (aw e).1 (ò _ (KW▸ò _ e));have rl:aS.get? D=some {cls:=.type "list",data:=.seq ([]:ó).toArray}:=bX.extBut _ _ K2 (ò _ (KW▸DD▸Ģ _ O));have xC:∀b∈fp,b≠C/\b≠D:=λb hb=>by obtain⟨o,e,_⟩:=T.obj _ _ st b hb;show aw e
 have sub:∀{x c},(dH X.env.cells scope.names []).lookup x=some c->X.env.cells.lookup x=some c:=λ{x c}e=>by
  rcases kh scope.names [] S.hfree e with z|z;.simp at z
  .exact z
 have Lc:D∉Ź X.stack:=λhb=>by
  rcases ļ.mp (ai.stkSub D hb)with e|hb;.obtain⟨m,⟨o,_,_,ho,_⟩,_⟩:=ai.loc;show(aw ho).2 e.symm
  .obtain⟨_,o,ho,_⟩:=ai.funs.mem hb;show(aw ho).2 O
 have nD:Í D=none:=ai.hok.fresh (Nat.le_of_eq DD);obtain⟨I0,A2,fC⟩:=Z0i (n:=([]:List (Str×Value)).length) S bo ai T st hf À bp old;generalize bP:Ŋ X scope Nc C fp Á s₂ Í=X' at I0;obtain⟨hg,ht,hm⟩:=hb C fp Á s₂ Í;rw[bP]at hg ht hm;have eP:X'.prog=X.prog:=by subst bP;rfl
 have ew:X'.w=X.w:=by subst bP;rfl
 have eK:X'.K=X.K:=by subst bP;rfl
 have eA:X'.A=X.A:=by subst bP;rfl
 have eE:X'.xe=λ_ _=>False:=by subst bP;rfl
 have eL:X'.env.locals=C:=by subst bP;rfl
 have eN:X'.env=compEnvC scope (dH X.env.cells scope.names []) C X.env:=by subst bP;rfl
 have ec:X'.calm=true:=by subst bP;show hc
 have eS:X'.s₀=s₂:=by subst bP;rfl
 have eH:X'.H₀=Í:=by subst bP;rfl
 have ef:X'.fs=Ź X.stack:=by subst bP;rfl
 have ex:X'.ex=fp:=by subst bP;rfl
 have ep:X'.pn=X.pn++Á:=by subst bP;rfl
 have UY:∀p∈X'.pn,p.1≠D:=λp hp=>by rw[ep]at hp;show(aw (ai.pin p hp).1).2
 have DE:∀x c,X'.env.cells.lookup x=some c->c≠D:=λx c e=>by rw[eN]at e;obtain⟨_,o,ho,_⟩:=ai.cell x c (sub e);show(aw ho).2
 have mI:∀{P:gV}{H:Hp},(∀p∈P,p.1=D)->(∀b∈fp,H b=none)->∀b∈fp,gB X' P H b:=λ{P H}hP hn b hb=>by
  show⟨hn b hb,by rw[eL];show(xC b hb).1,by rw[ef];show A2 b hb,.inl (by rw[ex];show hb),λx c e=>?_,λp hp=>?_⟩;.rw[eN]at e;show(hf b hb).2.2.2.2.1 x c (sub e)
  .rcases è.mp hp with z|z;.rw[ep]at z;show(hf b hb).2.2.2.2.2 p z
   .rw[hP p z];show(xC b hb).2.symm
 have ap:Ϟ X' D:=⟨by rw[eL];show K2,by rw[ef];show Lc,by rw[eS,DD];show Ø _,DE,UY⟩;have T':į X'.prog X'.w X'.K tg J fp it tn:=by rw[eP,ew,eK];show T
 have loop:∀s₃:Shared,s₃={s₂ with heap:=aS,toks:=s₂.toks+([]:List (Str×Value)).length}->codeAny `d X.A (.compLoop (.ListComp elt gens scope pos) 0 (.ref it) (.ref D) (compEnvC scope (dH X.env.cells scope.names []) C X.env)) (RR (.ref D) C) s₃:=by
  rintro s₃ rfl;have L:=Ny (X:=X') (R:=RR (.ref D) C) ec eE ap (DB it D X'.env) hg ht (hm D ap) ⟨I0,nD,λp hp=>absurd hp Õ,[],_,rl,.nil⟩ T' (T.keep _ _ _ st λb _ o e=>old b o e) (λb hb=>⟨mI (λp hp=>absurd hp Õ) (λb hb=>(hf b hb).1) b hb,(xC b hb).2⟩) hW ?_;.rw[eP,ew,eA,eN]at L;show L
  rintro s4 ys fA H3⟨I4,rj,_,us,k,oD,C8⟩hsz fin;obtain⟨mC,DF,_⟩:=I4.loc;rw[eL]at DF;have mN:=I4.base;rw[eS,eH,ef,ex]at mN;have hlen:ys.length<=sizeLine:=Zby hsz;have xD:Ĳ X.prog X.w (upd H3 D (.lst ys)) s4.heap:=λb u e=>by
   by_cases hb:b=D;.subst hb;rw[aa]at e;cases e;show⟨hlen,us,k,C8,oD⟩
   .rw[au hb]at e;have z:=I4.hok b u e;rw[eP,ew]at z;show z.stay (λc v _ q=>q) (λc q=>by rw[au (az q rj)];show q) λc xs q=>by rw[au (az q rj)];show q
  have un:Un (Ź X.stack) fp Í (upd H3 D (.lst ys)) s₂.heap s4.heap:=⟨mN.keep,mN.slot,λb o e n hx=>by rw[au (aw e).2];show mN.free b o e n hx,mN.there,λb xs e=>by have z:=mN.tups b xs e;rw[au (az z rj)];show z,λb o u e=>by have z:=mN.frzs b o u e;rw[au (az z rj)];show z,λb ps e=>by obtain⟨mo,z⟩:=mN.tbls b ps e;show⟨mo,by rw[au (az z rj)];show z⟩⟩;have J4:É X Á σ (upd H3 D (.lst ys)) s4:=ai.call' (ch:=fp) (by have:=I4.os;rw[eS]at this;show this) un xD I4.bare λb hb=>by obtain⟨_,f1,f2,f3,f4,f5⟩:=hf b hb;show⟨f3,f1,f4,f5⟩
  show DC D C s4 ys H3 mC fin rj J4 DF (fC ?_);rw[au K2.symm];have:=I4.free;rw[eL]at this;show this
 show Em hd O (loop _ O) (T.self _ 0 _ _ _ (T.keep _ _ _ st λb _ o e=>old b o e) (loop _ O))
theorem sW(hc:X.calm=true)(S:ý X scope)(bo:∀C,ē X (compEnvC scope (dH X.env.cells scope.names []) C X.env) Nc src)(hb:∀C fp Á s₂ Í,PG (Ŋ X scope Nc C fp Á s₂ Í) tg g/\PTs (Ŋ X scope Nc C fp Á s₂ Í) ifs tt/\PE (Ŋ X scope Nc C fp Á s₂ Í) elt te){σ:St}(ai:É X Á σ Í s₂)(T:į X.prog X.w X.K tg J fp it tn)(st:tn 0 s₂.heap)(hf:∀b∈fp,gB X Á Í b){Fin:List V->Hp->Prop}(hW:km J g tt te Fin (ħ σ src) Í){RR:Value->Addr->Result->Shared->Prop}{E:Ry}(DC:∀D C s' ys H' m,Fin ys H'->H' D=none->É X Á σ (upd H' D (.lst ys)) s'->s'.heap.Ns C m->gB X Á (upd H' D (.lst ys)) C->RR (.ref D) C (.ok .next) s'):wpAny `d X.A (newList []) (λacc s₃=>wpAny `d X.A (newFunctionEnv scope X.env.globals (dH X.env.cells scope.names []) [] X.env.qual none .none (some X.env)) (λgX gL=>codeAny `d X.A (.compStart (.ListComp elt [⟨tg,iter,ifs,0⟩] scope pos) 0 (.ref it) acc {gX with scope:=relabel scope X.env}) (RR acc gX.locals) gL) E s₃) E s₂:=by show yp (gens:=[⟨tg,iter,ifs,0⟩]) (p:=iter.pos) (M:=λD env=>J6 elt D env) (tm:=tmE te) hc S O (λit D env=>Cy O O) bo (λC fp Á s₂ Í=>⟨(hb C fp Á s₂ Í).1,(hb C fp Á s₂ Í).2.1,λD ap=>Ln ap O (hb C fp Á s₂ Í).2.2⟩) ai T st hf hW DC
def zP(wi:TI)(src:List (Option Nat))(g:TG)(tt:TT)(te:TE):TE:=λσ H Q=>wi σ H λJ H1=>km J g tt te (λys H'=>∀D,H' D=none->Q (.ref D) (upd H' D (.lst ys))) (ħ σ src) H1
section
theorem bI(Nc:Đ)(src:List (Option Nat))(hc:X.calm=true)(hi:PI X tg iter wi)(hb:∀C fp Á s₂ Í,PG (Ŋ X scope Nc C fp Á s₂ Í) tg g/\PTs (Ŋ X scope Nc C fp Á s₂ Í) ifs tt/\PE (Ŋ X scope Nc C fp Á s₂ Í) elt te)(bo:∀C,ē X (compEnvC scope (dH X.env.cells scope.names []) C X.env) Nc src)(S:ý X scope)(hs:∀x,foldedSetIterable iter X.env x=pure x:=by intro _;rfl):PE X (.ListComp elt [⟨tg,iter,ifs,0⟩] scope pos) (zP wi src g tt te):=by intro Á s σ H Q I h;rw[eval_ListComp];apply wpAny_comprehension_free (use:=none) O hs (uA S.hfree) S.kind S.hnames;show Û (hi Á s σ H _ I h) λv s1 h1=>Û h1 λCH s2 h2=>?_;obtain⟨it,fp,tn,J,H2,e,I2,T,st2,f2,hW⟩:=h2;subst e;apply sW (RR:=λacc C=>compPost `d X.A X.xe none (EP X Á σ Q) acc C) hc S bo hb I2 T st2 f2 hW;intro D C s' ys H' m fin nD J' hn fC;obtain⟨f0,f1,_,f3,f4,f5⟩:=fC;show⟨m,hn,λRz mP=>?_⟩;show⟨.ref D,_,J'.turned (t':=s'.toks) (λb o hb e=>mP.extBut b o hb e) f0 f1 f3 f4 f5,O,fin D nD⟩
def Lp(wi:TI)(src:List (Option Nat))(g:TG)(tt:TT)(te:TE)(i:Nat):TS:=λD σ H=>zP wi src g tt te σ H λv H'=>D.nx (σ.set i (some v)) H'
theorem gG{pos' DH:Pos}(Nc:Đ)(src:List (Option Nat))(hc:X.calm=true)(hN:X.N.Nodup)(eW:X.N[i]?=some x)(hx:Loc X.env.scope x)(hi:PI X tg iter wi)(hb:∀C fp Á s₂ Í,PG (Ŋ X scope Nc C fp Á s₂ Í) tg g/\PTs (Ŋ X scope Nc C fp Á s₂ Í) ifs tt/\PE (Ŋ X scope Nc C fp Á s₂ Í) elt te)(bo:∀C,ē X (compEnvC scope (dH X.env.cells scope.names []) C X.env) Nc src)(S:ý X scope)(UZ:swapsWith (.ListComp elt [⟨tg,iter,ifs,0⟩] scope pos) (some (.Name x pos')) DH.line X.env=pure true:=by rfl)(hf:X.fn x=true\/X.env.scope.names.lookup x=some .local:=by first|show .inl O|show .inr O|assumption)(hs:∀x,foldedSetIterable iter X.env x=pure x:=by intro _;rfl):PS X (.Assign [.Name x pos'] (.ListComp elt [⟨tg,iter,ifs,0⟩] scope pos) DH) (Lp wi src g tt te i):=by
 intro Á s σ H D I h;rw[exec_Assign_Name_used _ _ _ _ UZ];show Ã (wpAny_standAt (Ã ?_));show wpAny _ _ (do let _<-comprehension (.ListComp elt [⟨tg,iter,ifs,0⟩] scope pos) scope X.env _ (newList []) false (eval iter X.env) (some (assign (.Name x pos') X.env))) _ _ s;show Ã (Û (wpAny_comprehension_free (use:=some (assign (.Name x pos') X.env)) (Q:=λ_ s'=>∃af H',É X Á af H' s'/\D.nx af H') O hs (uA S.hfree) S.kind S.hnames ?_) λ_ s' hq=>Ì (Ì hq));show Û (hi Á s σ H _ I h) λv s1 h1=>Û h1 λCH s2 h2=>?_;obtain⟨it,fp,tn,J,H2,e,I2,T,st2,f2,hW⟩:=h2;subst e;apply sW (RR:=λacc C=>compPost `d X.A X.xe (some (assign (.Name x pos') X.env)) (λ_ s'=>∃af H',É X Á af H' s'/\D.nx af H') acc C) hc S bo hb I2 T st2 f2 hW;intro A C s' ys H' m fin nD J' hn fC;obtain⟨f0,f1,f2',f3,f4,f5⟩:=fC;show wpAny_assign_Name (rW J' hN eW hx (v:=.ref A) O (λAZ U0 U1=>?_) hf);have xA:∃m',AZ.heap.Ns C m':=by
  obtain⟨a,sb,ha⟩:=U1;have gx:C≠a:=by
   rcases ha with z|z;.rw[z];show f1
   .exact λq=>f4 x a z q.symm
  show⟨m,hn.sameBut sb gx⟩
 obtain⟨m',xA⟩:=xA;show⟨m',xA,λRz mP=>?_⟩;show⟨_,_,U0.turned (t':=AZ.toks) (λb o hb e=>mP.extBut b o hb e) f0 f1 f3 f4 f5,fin A nD⟩
end
section
theorem j5:cZ X (.builtin "isinstance") (λxs H Q=>∃x t n b,xs=[x,.ty n]/\Ĺ X.K H x t/\PySem.W.kitOne X.K t (.type n)=some b/\Q (.bl b) H):=by intro Á s σ H xs us Q I r h;obtain⟨x,t,n,b,rfl,ty,e,q⟩:=h;obtain⟨u,c,rfl,ru,rc⟩:=Ŝ r;obtain rfl:c=Value.type n:=rc;show Cr I ru ty e λtk=>⟨.bl b,H,I.tok _,O,q⟩
theorem vR(bs:List Bool):TruthOf prog w A (λi v=>∃b,bs[i]?=some b/\v=Value.bool b) (λi=>(bs[i]?).getD false):=by intro i v s Q E hP hQ;obtain⟨b,hb,rfl⟩:=hP;dsimp only at hQ;rw[hb]at hQ;show wpAny_truthy_bool hQ
theorem ϭ(bs:List Bool):(List.range bs.length).all (λi=>(bs[i]?).getD false)=bs.all id:=by
 apply Bool.eq_iff_iff.mpr;rw[Ε,Ε];constructor;.intro h b hb;obtain⟨i,hi,e⟩:=Zaw hb;have:=h i (ı.mpr hi);rw[Ô hi,e]at this;show this
 .intro h i hi;have hi:=ı.mp hi;rw[Ô hi];show h _ (ĕ hi)
theorem oZ:∀{bs:List Bool}{us:ó},Î (bs.map V.bl) us->us=bs.map Value.bool|[],_,.nil=>rfl|_::bs,_,.cons r t=>by rw[oZ (bs:=bs) t,show _=Value.bool _ from r];rfl
theorem gh(hc:X.calm=true):cZ X (.builtin "all") (λxs H Q=>∃(p:Addr)(bs:List Bool),xs=[.ref p]/\Ë X.K H p (bs.map V.bl)/\Q (.bl (bs.all id)) H):=by
 intro Á s σ H xs us Q I r h;obtain⟨p,bs,rfl,hq,q⟩:=h;obtain⟨u,rfl,ru⟩:=ô r;cases ru;obtain⟨È,rv,pl,hz⟩:=I.list hq;have ei:=oZ rv;subst ei;have ax:p<s.heap.objs.size:=by obtain⟨_,e,_⟩:=pl.isList;show î e
 refine call_all_walk (wpAny_pyIter_list pl.isList ?_);have W:=Walks.list (prog:=X.prog) (w:=X.w) (A:=X.A.in1) (I.ok.hd hc) s.heap.objs.size p (ĵ ax) (bs.map Value.bool).toArray;refine⟨_,_,_,_,_,_,_,O,{sub:=W.sub,frame:=W.frame,item:=λi s Q E hi st hQ=>W.item i s Q E hi st λv h' tk hP=>hQ v h' tk ?_,done:=W.done,self:=W.self},⟨⟨_,Ģ _ O,O,O⟩,pl.isList.push _⟩,vR bs,λh' tk k=>?_⟩;.have DJ:(bs.map Value.bool).toArray[i]?=some v:=hP;rw[ŵ,ì]at DJ;cases e:bs[i]? with|none=>rw[e]at DJ;cases DJ;|some b=>rw[e]at DJ;show⟨b,O,(ģ DJ).symm⟩
 .have hsz:(bs.map Value.bool).toArray.size=bs.length:=by simp
  rw[hsz,ϭ];show⟨.bl _,H,?_,O,q⟩;show I.kept (h':=h') (t':=tk) λb o e=>k b o ?_ (ò _ e);intro z;have:b=s.heap.objs.size:=by simpa using z
  show absurd (î e) (by rw[this];show ϯ _)
end
theorem my{K:Frag}:PySem.W.kitOne K (.type "NoneType") (.type "int")=some false:=by kernel_rfl
theorem kE{K:Frag}:PySem.W.kitOne K (.type "NoneType") (.type "bool")=some false:=by kernel_rfl
theorem jF{K:Frag}:PySem.W.kitOne K (.type "NoneType") (.type "tuple")=some false:=by kernel_rfl
theorem uB{K:Frag}:PySem.W.kitOne K (.type "bool") (.type "int")=some true:=by kernel_rfl
theorem rA{K:Frag}:PySem.W.kitOne K (.type "bool") (.type "bool")=some true:=by kernel_rfl
theorem ph{K:Frag}:PySem.W.kitOne K (.type "bool") (.type "tuple")=some false:=by kernel_rfl
theorem vV{K:Frag}:PySem.W.kitOne K (.type "int") (.type "int")=some true:=by kernel_rfl
theorem uC{K:Frag}:PySem.W.kitOne K (.type "int") (.type "bool")=some false:=by kernel_rfl
theorem rB{K:Frag}:PySem.W.kitOne K (.type "int") (.type "tuple")=some false:=by kernel_rfl
theorem vW{K:Frag}:PySem.W.kitOne K (.type "str") (.type "int")=some false:=by kernel_rfl
theorem uD{K:Frag}:PySem.W.kitOne K (.type "str") (.type "bool")=some false:=by kernel_rfl
theorem rC{K:Frag}:PySem.W.kitOne K (.type "str") (.type "tuple")=some false:=by kernel_rfl
theorem uE{K:Frag}:PySem.W.kitOne K (.type "list") (.type "int")=some false:=by kernel_rfl
theorem rD{K:Frag}:PySem.W.kitOne K (.type "list") (.type "bool")=some false:=by kernel_rfl
theorem pq{K:Frag}:PySem.W.kitOne K (.type "list") (.type "tuple")=some false:=by kernel_rfl
theorem rE{K:Frag}:PySem.W.kitOne K (.type "tuple") (.type "int")=some false:=by kernel_rfl
theorem pC{K:Frag}:PySem.W.kitOne K (.type "tuple") (.type "bool")=some false:=by kernel_rfl
theorem nO{K:Frag}:PySem.W.kitOne K (.type "tuple") (.type "tuple")=some true:=by kernel_rfl
theorem uF{K:Frag}:PySem.W.kitOne K (.type "dict") (.type "int")=some false:=by kernel_rfl
theorem rF{K:Frag}:PySem.W.kitOne K (.type "dict") (.type "bool")=some false:=by kernel_rfl
theorem pF{K:Frag}:PySem.W.kitOne K (.type "dict") (.type "tuple")=some false:=by kernel_rfl
section
variable{κ:Type}[DecidableEq κ]
def cF(Ä:List (κ×V))(k:κ):Option V:=(Ä.find? λkv=>decide (kv.1=k)).map (·.2)
def â(Ä:List (κ×V))(k:κ)(v:V):List (κ×V):=if(Ä.any λkv=>decide (kv.1=k))=true then Ä.map (λkv=>if kv.1=k then(kv.1,v)else kv)else Ä++[(k,v)]
theorem cU{k:κ}(e:p.1=k):cF (p::r) k=some p.2:=by simp[cF,e]
theorem cV{k:κ}(e:¬p.1=k):cF (p::r) k=cF r k:=by simp[cF,e]
theorem fB(k:κ):∀Ä,(Ä.any λkv=>decide (kv.1=k))=(cF Ä k).isSome
 |[]=>rfl|p::r=>by
  rw[List.any_cons];by_cases e:p.1=k;.simp only[cU e,decide_eq_true e,Bool.true_or,Option.isSome_some]
  .rw[cV e,č e];show fB k r
theorem vX(k j:κ)(y:V):∀Ä,cF (Ä.map λkv=>if kv.1=k then(kv.1,y)else kv) j=(cF Ä j).map λx=>if j=k then y else x
 |[]=>rfl|p::r=>by
  have ih:=vX k j y r;rw[Ľ];by_cases h:p.1=k
  .rw[Ê h];by_cases e:p.1=j;.rw[cU (p:=(p.1,y)) e,cU e,Option.map_some,Ê (e.symm.trans h)]
   .rw[cV (p:=(p.1,y)) e,cV e,ih]
  .rw[Ç h];by_cases e:p.1=j;.rw[cU (p:=p) e,cU e,Option.map_some,Ç (λz=>h (e.trans z))]
   .rw[cV (p:=p) e,cV e,ih]
theorem sY(k j:κ)(y:V):∀Ä,cF Ä k=none->cF (Ä++[(k,y)]) j=if j=k then some y else cF Ä j
 |[],_=>by
  by_cases e:k=j;.rw[Ê e.symm];show cU (p:=(k,y)) e
  .rw[Ç (λz=>e z.symm)];exact cV (p:=(k,y)) e;|p::r,hn=>by
  rw[List.cons_append];have hk:¬p.1=k:=λz=>by rw[cU z]at hn;cases hn
  rw[cV hk]at hn;have ih:=sY k j y r hn;by_cases e:p.1=j;.rw[cU e,cU e,Ç (λz=>hk (e.trans z))]
  .rw[cV e,cV e,ih]
theorem gj(Ä:List (κ×V))(k j:κ)(y:V):cF (â Ä k y) j=if j=k then some y else cF Ä j:=by
 unfold â;by_cases a:(Ä.any λkv=>decide (kv.1=k))=true
 .rw[Ê a,vX];rw[fB]at a;by_cases e:j=k;.obtain⟨x,hx⟩:=Zcb.mp a;rw[Ê e,e,hx,Option.map_some,Ê O]
  .rw[Ç e];cases cF Ä j with|none=>rfl;|some x=>rw[Option.map_some,Ç e]
 .rw[Ç a];apply sY k j y Ä;rw[fB]at a;cases q:cF Ä k with|none=>rfl;|some x=>rw[q]at a;show(a O).elim
theorem dU(Ä:List (κ×V))(k:κ)(v:V):(â Ä k v).length<=Ä.length+1:=by
 unfold â;split;.rw[Ï];lia
 .rw[à,İ,Zbu];lia
theorem kI{k:κ}(v:V)(h:cF Ä k=none):â Ä k v=Ä++[(k,v)]:=by unfold â;rw[fB,h];show Ç á
theorem Ł.isSome_eq(r:Ł o u):o.isSome=u.isSome:=by cases o with
 |none=>cases u with|none=>rfl;|some _=>show(r).elim
 |some _=>cases u with|none=>exact(r).elim;|some _=>rfl
theorem Ł.getD(r:Ł o u)(rd:Ò d d'):Ò (o.getD d) (u.getD d'):=by cases o with
 |none=>cases u with|none=>exact rd;|some _=>show(r).elim
 |some _=>cases u with|none=>exact(r).elim;|some _=>show r
theorem KV.val(r:KV Ä vs)(k:κ):Ł (cF Ä k) (valueAt vs k):=by induction r with|nil=>exact True.intro;|@cons p q ps qs h t ih=>
  obtain⟨h1,h2⟩:=h;by_cases e:p.1=k
  .have e':q.1=k:=h1.symm.trans e;have b:valueAt (q::qs) k=some q.2:=by simp[valueAt,e']
   rw[cU e,b];show h2
  .have e':¬q.1=k:=λz=>e (h1.trans z);have b:valueAt (q::qs) k=valueAt qs k:=by simp[valueAt,e']
   rw[cV e,b];show ih
theorem KV.any(r:KV Ä vs)(k:κ):(Ä.any λkv=>decide (kv.1=k))=vs.any λkv=>decide (kv.1=k):=by induction r with|nil=>rfl;|cons h t ih=>rw[List.any_cons,List.any_cons,ih,h.1]
theorem KV.repl(r:KV Ä vs)(k:κ)(ry:Ò y u):KV (Ä.map λkv=>if kv.1=k then(kv.1,y)else kv) (vs.map λkv=>if kv.1=k then(kv.1,u)else kv):=by induction r with|nil=>exact .nil;|@cons p q ps qs h t ih=>
  rw[Ľ,Ľ];show .cons ?_ ih;obtain⟨h1,h2⟩:=h;by_cases e:p.1=k;.rw[Ê e,Ê (h1.symm.trans e)];show⟨h1,ry⟩
  .rw[Ç e,Ç (λz=>e (h1.trans z))];show⟨h1,h2⟩
theorem KV.put(r:KV Ä vs)(k:κ)(ry:Ò y u):KV (â Ä k y) (stored vs k u):=by
 unfold â stored;rw[r.any k];by_cases e:(vs.any λkv=>decide (kv.1=k))=true;.rw[Ê e,Ê e];show r.repl k ry
 .rw[Ç e,Ç e];show Paired.snoc r ⟨O,ry⟩
theorem KV.length{vs:List (κ×Value)}(r:KV Ä vs):Ä.length=vs.length:=Paired.length r
end
theorem sZ(r:Ò (kV k) u):(aZ P w).is k u=true:=by cases k with|inl i=>obtain⟨t,e⟩:=(r);subst e;exact vJ P w i t;|inr x=>obtain⟨t,e⟩:=(r);subst e;show vK P w x t
theorem tD:∀{ks:List Key}{us:ó},Î (ks.map kV) us->ItemsAre (aZ P w) ks us|[],_,r=>by rw[List.map_nil]at r;cases r;exact .nil;|k::ks,_,r=>by cases r with|cons h t=>show .cons (sZ h) (tD t)
abbrev KT(H:Hp):List (List Key×V)->List (List Key×Addr×Value)->Prop:=Paired λp q=>p.1=q.1/\H q.2.1=some (.tup (p.1.map kV))/\Ò p.2 q.2.2
theorem KT.val(r:KT H Ä xs)(k:List Key):Ł (cF Ä k) ((atKey xs k).map (·.2)):=by induction r with|nil=>exact True.intro;|@cons p q ps qs h t ih=>
  obtain⟨h1,_,h2⟩:=h;by_cases e:p.1=k
  .have e':q.1=k:=h1.symm.trans e;have b:atKey (q::qs) k=some q.2:=by simp[atKey,e']
   rw[cU e,b];show h2
  .have e':¬q.1=k:=λz=>e (h1.trans z);have b:atKey (q::qs) k=atKey qs k:=by simp[atKey,e']
   rw[cV e,b];show ih
theorem KT.repl(r:KT H Ä xs)(k:List Key)(ry:Ò y u):KT H (Ä.map λkv=>if kv.1=k then(kv.1,y)else kv) (xs.map (putAt k u)):=by induction r with|nil=>exact .nil;|@cons p q ps qs h t ih=>
  rw[Ľ];show .cons ?_ ih;obtain⟨h1,h2,h3⟩:=h;unfold putAt;by_cases e:p.1=k;.rw[Ê e,Ê (h1.symm.trans e)];show⟨h1,h2,ry⟩
  .rw[Ç e,Ç (λz=>e (h1.trans z))];show⟨h1,h2,h3⟩
theorem KT.put(r:KT H Ä xs)(k:List Key)(hb:H b=some (.tup (k.map kV)))(ry:Ò y u):KT H (â Ä k y) (storedH xs k b u):=by
 have e:(Ä.any λkv=>decide (kv.1=k))=(atKey xs k).isSome:=by rw[fB,(r.val k).isSome_eq,Option.isSome_map]
 unfold â storedH;rw[e];by_cases q:(atKey xs k).isSome=true;.rw[Ê q,Ê q];show r.repl k ry
 .rw[Ç q,Ç q];show Paired.snoc r ⟨O,hb,ry⟩
theorem KT.keeps(r:KT H Ä xs)(ht:∀b ys,H b=some (.tup ys)->H' b=some (.tup ys)):KT H' Ä xs:=Paired.mapP r λ_ _ z=>⟨z.1,ht _ _ z.2.1,z.2.2⟩
section
theorem Kf(ok:Ĳ P w H h)(e:Rd H a u):Ö P w H h a u:=e.ok ok
theorem pH(ok:Ĳ P w H h)(e:Rd H a (.dK Ä)):Ä.length<=sizeLine/\(a==sysModules)=false/\∃vs,KV Ä vs/\h.DictOf (aZ P w) a vs:=show Ö P w H h a (.dK Ä)from Kf ok e
theorem Nz(ok:Ĳ P w H h)(e:H a=some (.dK Ä)):Ä.length<=sizeLine/\(a==sysModules)=false/\∃vs,KV Ä vs/\h.DictOf (aZ P w) a vs:=pH ok (.inl e)
theorem iB(ok:Ĳ P w H h)(e:H a=some (.tup (ks.map kV))):(tupleKind (aZ P w)).is h ks a:=by obtain⟨_,È,r,o,h1,h2,n,h3⟩:=(ok a _ e);show⟨o,È.toArray,n,h1,h2,h3,by simpa using tD r⟩
theorem pI(ok:Ĳ P w H h)(e:Rd H a (.dT Ä)):Ä.length<=sizeLine/\(a==sysModules)=false/\∃xs,KT H Ä xs/\h.DictOfH (tupleKind (aZ P w)) a xs:=by
 obtain⟨z,y,xs,r,o,es,ep,h1,h2,h3,h4,h5⟩:=(Kf ok e);refine⟨z,y,xs,r,o,es,ep,h1,h2,h3,h4,λx hx=>?_,h5⟩;have all:∀{l:List (List Key×V)}{m:List (List Key×Addr×Value)},KT H l m->∀x∈m,(tupleKind (aZ P w)).is h x.1 x.2.1:=by intro l m q;induction q with|nil=>intro x hx;exact nomatch hx;|@cons p q ps qs hq t ih=>
   intro x hx;rcases ļ.mp hx with e|hx;.subst e;show iB ok (by rw[<-hq.1];show hq.2.1)
   .exact ih x hx
 show all r x hx
theorem Kg(ok:Ĳ P w H h)(e:H a=some (.dT Ä)):Ä.length<=sizeLine/\(a==sysModules)=false/\∃xs,KT H Ä xs/\h.DictOfH (tupleKind (aZ P w)) a xs:=pI ok (.inl e)
end
def Ă(H:Hp)(a:Addr)(y:V)(r:Option V):Prop:=(∃Ä k,Rd H a (.dK Ä)/\y=kV k/\r=cF Ä k)\/∃Ä k b,Rd H a (.dT Ä)/\y=.ref b/\H b=some (.tup (k.map kV))/\r=cF Ä k
def ŷ(H:Hp)(a:Addr)(y v:V)(H':Hp):Prop:=(∃Ä k,H a=some (.dK Ä)/\y=kV k/\Ä.length<sizeLine/\H'=upd H a (.dK (â Ä k v)))\/∃Ä k b,H a=some (.dT Ä)/\y=.ref b/\H b=some (.tup (k.map kV))/\Ä.length<sizeLine/\H'=upd H a (.dT (â Ä k v))
theorem Ă.t(e:H a=some (.dT Ä))(eb:H b=some (.tup (k.map kV))):Ă H a (.ref b) (cF Ä k):=.inr ⟨Ä,k,b,.inl e,O,eb,O⟩
theorem ŷ.t(e:H a=some (.dT Ä))(eb:H b=some (.tup (k.map kV)))(hl:Ä.length<sizeLine):ŷ H a (.ref b) v (upd H a (.dT (â Ä k v))):=.inr ⟨Ä,k,b,e,O,eb,hl,O⟩
section
variable{σ:St}
theorem É.big(I:`c):sysModules<s.heap.objs.size:=by have h:mainGlobals<s.heap.objs.size:=(I.mod.glob.keeps I.bk).lt;show Nat.lt_trans á h
theorem Cz(hu:A.units+1<cLine)(I:`c)(g:Ă H a y (some v))(ry:Ò y u)(h:∀w' s',É X Á σ H s'->Ò v w'->Q w' s'):wpAny `d A (getItem (.ref a) u) Q E s:=by
 rcases g with⟨Ä,k,e,ey,l⟩|⟨Ä,k,b,e,ey,eb,l⟩;.subst ey;obtain⟨z,hd,vs,rel,dd⟩:=pH I.hok e;obtain⟨w',hw,dS⟩:=Ł.some_of (v:=v) (o:=valueAt vs k) (by rw[l];show rel.val k);show wpAny_getItem_of (sZ ry) dd.mapOf hw (h w' _ (I.tok _) dS)
 .subst ey;cases(ry);obtain⟨z,hd,xs,rel,dd⟩:=pI I.hok e;obtain⟨w',hw,dS⟩:=Ł.some_of (v:=v) (o:=(atKey xs k).map (·.2)) (by rw[l];show rel.val k);obtain⟨p,hp,lT⟩:=Za5.mp hw;apply wpAny_getItem_heap (tupleKind_room_in1 hu) (iB I.hok eb) dd hp;rw[lT];show h w' _ (I.tok _) dS
theorem Qh(hu:A.units+1<cLine)(I:`c)(g:Ă H a y o)(ry:Ò y u)(h:∀s',É X Á σ H s'->Q (.bool o.isSome) s'):wpAny `d A (compareOp .In u (.ref a)) Q E s:=by
 rcases g with⟨Ä,k,e,ey,l⟩|⟨Ä,k,b,e,ey,eb,l⟩;.subst ey;obtain⟨z,hd,vs,rel,dd⟩:=pH I.hok e;apply wpAny_in_of (sZ ry) hd dd.mapOf;rw[<-(rel.val k).isSome_eq,<-l];show h _ (I.tok _)
 .subst ey;cases(ry);obtain⟨z,hd,xs,rel,dd⟩:=pI I.hok e;apply wpAny_in_heap (tupleKind_room_in1 hu) (iB I.hok eb) hd dd;have q:=(rel.val k).isSome_eq;rw[Option.isSome_map]at q;rw[<-q,<-l];show h _ (I.tok _)
theorem J7(hu:A.units+1<cLine)(I:`c)(g:Ă H a y o)(ry:Ò y u)(h:∀s',É X Á σ H s'->Q (.bool (!o.isSome)) s'):wpAny `d A (compareOp .NotIn u (.ref a)) Q E s:=by
 rcases g with⟨Ä,k,e,ey,l⟩|⟨Ä,k,b,e,ey,eb,l⟩;.subst ey;obtain⟨z,hd,vs,rel,dd⟩:=pH I.hok e;apply wpAny_notIn_of (sZ ry) hd dd.mapOf;rw[<-(rel.val k).isSome_eq,<-l];show h _ (I.tok _)
 .subst ey;cases(ry);obtain⟨z,hd,xs,rel,dd⟩:=pI I.hok e;apply wpAny_notIn_heap (tupleKind_room_in1 hu) (iB I.hok eb) hd dd;have q:=(rel.val k).isSome_eq;rw[Option.isSome_map]at q;rw[<-q,<-l];show h _ (I.tok _)
theorem uG(I:`c)(mu:Mut (H a))(hs:Heap.SameBut a s.heap h')(he:∃q,h'.get? a=some q)(new:Ö X.prog X.w (upd H a ob) h' a ob):É X Á σ (upd H a ob) {s with heap:=h',toks:=t'}:=I.write (x:=a) (e:=a) mu (.inl O) (λb q hb z=>(hs.2 b hb).trans z) he new
theorem Lq(z:Ä.length<=sizeLine)(hd:(a==sysModules)=false)(rel:KV Ä vs)(dd:h'.DictOf (aZ P w) a vs):Ö P w H' h' a (.dK Ä):=⟨z,hd,vs,rel,dd⟩
theorem tE(hu:A.units+1<cLine)(I:`c)(g:ŷ H a y v H')(ry:Ò y u)(rv:Ò v r)(h:∀s',É X Á σ H' s'->Q () s'):wpAny `d A (setItem (.ref a) u r) Q E s:=by
 rcases g with⟨Ä,k,e,ey,l,eH⟩|⟨Ä,k,b,e,ey,eb,l,eH⟩
 .subst ey eH;obtain⟨z,hd,vs,rel,dd⟩:=Nz I.hok e;have hz:vs.length<=sizeLine:=by rw[<-rel.length];show z
  have hl:(â Ä k v).length<=sizeLine:=by have:=dU Ä k v;lia
  show wpAny_setItem_pairs (hsz:=hz) (sZ ry) dd λh' vb hs=>h _ ?_;have he:∃q,h'.get? a=some q:=by obtain⟨q,_,_,hq,_⟩:=vb;show⟨q,hq⟩
  show uG I (by rw[e];show True.intro) hs he (Lq hl hd (rel.put k rv) vb)
 .subst ey eH;cases(ry);obtain⟨z,hd,xs,rel,dd⟩:=Kg I.hok e;have hz:xs.length<=sizeLine:=by rw[<-Paired.length rel];show z
  have hl:(â Ä k v).length<=sizeLine:=by have:=dU Ä k v;lia
  show wpAny_setItem_heap (hsz:=hz) (tupleKind_room_in1 hu) (iB I.hok eb) dd λh' vb hs=>h _ ?_;obtain⟨q,es,ep,hq,h2,h3,h4,_,h5⟩:=vb;show uG I (by rw[e];show True.intro) hs ⟨q,hq⟩ ⟨hl,hd,_,(rel.put k eb rv).keeps λc ys ec=>?_,q,es,ep,hq,h2,h3,h4,h5⟩;rw[au (K5 ec e (λz=>nomatch z))];show ec
end
section
end
def NB(i:Expr):Prop:=∀ov iv,subscripted i false ov iv=operate [ov,iv] (getItem ov iv)
theorem J8{T id:String}(hl:typeLookup (.type T) "__getitem__"=pure (some (.builtin id)))(hs:NB slice)(h:wpAny `a A (eval value env) (λo s₁=>wpAny `a A (eval slice env) (λi s₂=>s₂.TypeIs o T/\wpAny `a A (getItem o i) Q E s₂) E s₁) E s):wpAny `a A (eval (.Subscript value slice pos) env) Q E s:=by
 show Subscript_ (wpAny_mono h (λo s₁ aS=>wpAny_mono aS (λi s₂ iN=>?_) λ_ _ x=>x) λ_ _ x=>x);obtain⟨hT,iN⟩:=iN;apply Ã;show Ã (wpAny_specialOf hT hl ?_);have fin:wpAny `a A (subscripted slice false o i) (λr s₃=>wpAny `a A (letTemporaryGo value o r>>=λ_=>pure r) Q E s₃) E s₂:=by rw[hs o i];show wpAny_operating (wpAny_mono iN (λr s₃ rh=>Ã (wpAny_letTemporaryGo (Ì rh))) λ_ _ x=>x)
 first|exact Ì (Ã fin);|exact Ã (Ì (Ã fin));|show Ã fin
theorem vY{σ:St}(I:`c)(g:Ă H a y o):s.TypeIs (.ref a) "dict":=by
 rcases g with⟨Ä,k,e,_,_⟩|⟨Ä,k,b,e,_,_,_⟩;.obtain⟨_,_,vs,_,dd⟩:=pH I.hok e;show dd.typeIs
 .obtain⟨_,_,xs,_,dd⟩:=pI I.hok e;show dd.typeIs
def NK(td ty:TE):TE:=λσ H Q=>td σ H λx H1=>ty σ H1 λy H2=>∃a v,x=.ref a/\Ă H2 a y (some v)/\Q v H2
def Qi(ty td:TE):TE:=λσ H Q=>ty σ H λy H1=>td σ H1 λx H2=>∃a o,x=.ref a/\Ă H2 a y o/\Q (.bl o.isSome) H2
def J9(ty td:TE):TE:=λσ H Q=>ty σ H λy H1=>td σ H1 λx H2=>∃a o,x=.ref a/\Ă H2 a y o/\Q (.bl (!o.isSome)) H2
def NQ(td ty tv:TE):TS:=λD σ H=>tv σ H λv H1=>td σ H1 λx H2=>ty σ H2 λy H3=>∃a H4,x=.ref a/\ŷ H3 a y v H4/\D.nx σ H4
section
theorem fc(hu:X.A.units+1<cLine)(ho:PE X o td)(hi:PE X i ty)(hs:NB i):PE X (.Subscript o i pos) (NK td ty):=by intro Á s σ H Q I h;show J8 PySem.F.slot_dict_getitem.lookup hs (Û (ho Á s σ H _ I h) λu s1⟨x,H1,I1,rx,q1⟩=>Û (hi Á s1 σ H1 _ I1 q1) λiv s2=>?_);rintro⟨y,H2,I2,ry,a,v,ex,g,q2⟩;subst ex;obtain rfl:u=Value.ref a:=rx;show⟨vY I2 g,Cz hu I2 g ry λw' s3 I3 dS=>⟨v,H2,I3,dS,q2⟩⟩
theorem Lr(hu:X.A.units+1<cLine)(hi:PE X i ty)(ho:PE X o td):PC X .In i o (Qi ty td):=by intro Á s σ H Q I h;show Û (hi Á s σ H _ I h) λiv s1⟨y,H1,I1,ry,q1⟩=>Û (ho Á s1 σ H1 _ I1 q1) λu s2=>?_;rintro⟨x,H2,I2,rx,a,ov,ex,g,q2⟩;subst ex;obtain rfl:u=Value.ref a:=rx;show Qh hu I2 g ry λs3 I3=>⟨.bl ov.isSome,H2,I3,O,q2⟩
theorem CG(hu:X.A.units+1<cLine)(hi:PE X i ty)(ho:PE X o td):PC X .NotIn i o (J9 ty td):=by intro Á s σ H Q I h;show Û (hi Á s σ H _ I h) λiv s1⟨y,H1,I1,ry,q1⟩=>Û (ho Á s1 σ H1 _ I1 q1) λu s2=>?_;rintro⟨x,H2,I2,rx,a,ov,ex,g,q2⟩;subst ex;obtain rfl:u=Value.ref a:=rx;show J7 hu I2 g ry λs3 I3=>⟨.bl (!ov.isSome),H2,I3,O,q2⟩
theorem uH(hu:X.A.units+1<cLine)(ho:PE X o td)(hi:PE X i ty)(hv:PE X value tv)(hs:swapsWith value (some (.Subscript o i pos')) pos.line X.env=pure false):PS X (.Assign [.Subscript o i pos'] value pos) (NQ td ty tv):=by intro Á s σ H D I h;show wpAny_Assign_Subscript (Û (hv Á s σ H _ I h) λr s1⟨v,H1,I1,rv,q1⟩=>Û (ho Á s1 σ H1 _ I1 q1) λu s2⟨x,H2,I2,rx,q2⟩=>Û (hi Á s2 σ H2 _ I2 q2) λiv s3=>?_) hs;rintro⟨y,H3,I3,ry,a,H4,ex,g,q3⟩;subst ex;obtain rfl:u=Value.ref a:=rx;show tE hu I3 g ry rv λs4 I4=>⟨σ,H4,I4,q3⟩
end
theorem vZ(h:Heap)(hb:sysModules<h.objs.size):Ö P w H (h.push {cls:=.type "dict",data:=.dict #[]}) h.objs.size (.dT []):=⟨Ė _,beq_eq_false_iff_ne.mpr (Ne.symm (ĵ hb)),[],.nil,_,#[],0,Ģ _ O,⟨O,O,O⟩,O,O,ϳ⟩
def Ls:TE:=λ_ H Q=>∀p,H p=none->Q (.ref p) (upd H p (.dT []))
section
theorem pJ:PE X (.Dict [] [] pos) Ls:=λÁ s σ H Q I h=>wpAny_Dict_empty ⟨`g,_,I.laid (a:=s.heap.objs.size) (o:=.dT []) (t':=s.toks) (λ_ _ q=>ò _ q) (Ø _) (vZ s.heap I.big),O,h _ (I.hok.fresh (Ø _))⟩
end
structure M2(X:Cx)(o:Expr)(m:Str)(apos:Pos)(e f:Expr)(dP:Pos):Prop where
 base:attributeBase o m X.env (eval o X.env)=eval o X.env
 few:((backTo dP (starEach [e,f] X.env)).all (λx=>!x.1)&&(backToKw dP (keywordEach [] X.env)).all (λx=>x.1.isSome)&&decide (([e,f]:Qa4).length+([]:List Keyword).length+(if([]:List Keyword).isEmpty then 0 else 1)<30))=true
 line:(apos.endLine==dP.line)=true
 trees:backTo dP (starEach [e,f] X.env)=[(false,eval e X.env),(false,eval f X.env)]
def IsD(H:Hp)(a:Addr):Prop:=(∃Ä,Rd H a (.dK Ä))\/∃Ä,Rd H a (.dT Ä)
theorem Lw{σ:St}(I:`c)(d:IsD H a):s.TypeIs (.ref a) "dict"/\(∀b,Value.ref a=.ref b->∃ob,s.heap.get? b=some ob/\ob.dict=none)/\(a==sysModules)=false:=by
 rcases d with⟨Ä,e⟩|⟨Ä,e⟩;.obtain⟨_,hd,vs,_,dd⟩:=pH I.hok e;show⟨dd.typeIs,λb q=>?_,hd⟩;cases q;obtain⟨ob,_,_,h1,h2,_⟩:=dd;show⟨ob,h1,h2.2.1⟩
 .obtain⟨_,hd,xs,_,dd⟩:=pI I.hok e;show⟨dd.typeIs,λb q=>?_,hd⟩;cases q;obtain⟨ob,_,_,h1,h2,_⟩:=dd;show⟨ob,h1,h2.2.1⟩
section
variable{σ:St}
theorem Lx(hu:A.units+1<cLine)(I:`c)(g:Ă H a y o)(ry:Ò y u)(rd:Ò d r)(h:∀w' s',É X Á σ H s'->Ò (o.getD d) w'->Q w' s'):wpAny `d A (call (.builtin "dict.get") [.ref a,u,r]) Q E s:=by
 rcases g with⟨Ä,k,e,ey,l⟩|⟨Ä,k,b,e,ey,eb,l⟩;.subst ey;obtain⟨z,hd,vs,rel,dd⟩:=pH I.hok e;show call_meetsIn PySem.F.slot_dict_get dd.typeIs PySem.F.entry_dict_get (PySem.F.args_dict_get_3 _ _ _) (meets_dict_get_default (aZ X.prog X.w) a (sZ ry) hd r) ⟨_,dd.mapOf,h _ _ (I.tok _) ?_⟩;rw[l];show(rel.val k).getD rd
 .subst ey;cases(ry);obtain⟨z,hd,xs,rel,dd⟩:=pI I.hok e;show call_meetsIn PySem.F.slot_dict_get dd.typeIs PySem.F.entry_dict_get (PySem.F.args_dict_get_3 _ _ _) (meetsH_dict_get_default (tupleKind (aZ X.prog X.w)) a b hd r) ⟨tupleKind_room_in1 hu,k,xs,iB I.hok eb,dd,h _ _ (I.tok _) ?_⟩;rw[l];show(rel.val k).getD rd
end
def Lz(td ty tx:TE):TE:=λσ H Q=>td σ H λx H1=>∃a,x=.ref a/\IsD H1 a/\ty σ H1 λy H2=>tx σ H2 λz H3=>∃o,Ă H3 a y o/\Q (o.getD z) H3
section
theorem kJ(hu:X.A.units+1<cLine)(ho:PE X o td)(he:PE X e ty)(hf:PE X f tx)(m:M2 X o "get" apos e f dP):PE X (.Call (.Attribute o "get" apos) [e,f] [] dP) (Lz td ty tx):=by intro Á s σ H Q I h;show wpAny_Call_method m.base m.few m.line PySem.F.plainAttrs_dict PySem.F.slot_dict_get PySem.F.type_dict_get (Û (ho Á s σ H _ I h) λu s1=>?_);rintro⟨x,H1,I1,rx,a,ex,d,q1⟩;subst ex;obtain rfl:u=Value.ref a:=rx;obtain⟨t1,t2,_⟩:=Lw I1 d;show⟨t1,t2,?_⟩;rw[m.trees];show Calls.callWith_builtin O (Calls.evalArgs_plain (Calls.spliced_cons (Û (he Á s1 σ H1 _ I1 q1) λiv s2⟨y,H2,I2,ry,q2⟩=>Calls.spliced_cons (Û (hf Á s2 σ H2 _ I2 q2) λfv s3⟨z,H3,I3,rz,ov,g,q3⟩=>Calls.spliced_nil ?_))));show Lx hu I3 g ry rz λw' s4 I4 dS=>⟨_,H3,I4,dS,q3⟩
end
section
end
section
end
def Ja:Key->PyData|.inl i=>.int i|.inr x=>.str x
mutual
inductive Ü(S:Addr->Prop)(H:Hp):V->PyData->Prop|non:Ü S H .non .none|bl(b:Bool):Ü S H (.bl b) (.bool b)|int(i:Int):Ü S H (.int i) (.int i)|str(x:Str):Ü S H (.str x) (.str x)|lst{a:Addr}{xs:List V}{ds:Ż}(hs:S a)(e:H a=some (.lst xs))(r:Ð S H xs ds):Ü S H (.ref a) (.list ds)|tup{a:Addr}{xs:List V}{ds:Ż}(e:H a=some (.tup xs))(r:Ð S H xs ds):Ü S H (.ref a) (.tuple ds)|dct{a:Addr}{ks:List (Key×Int)}(hs:S a)(e:H a=some (.dK (ks.map λp=>(p.1,V.int p.2)))):Ü S H (.ref a) (.dict (ks.map λp=>(Ja p.1,.int p.2)))
inductive Ð(S:Addr->Prop)(H:Hp):List V->Ż->Prop|nil:Ð S H [] []|cons{v:V}{d:PyData}{vs:List V}{ds:Ż}(h:Ü S H v d)(t:Ð S H vs ds):Ð S H (v::vs) (d::ds)
end
section
theorem Ð.length:∀{vs:List V}{ds:Ż},Ð S H vs ds->vs.length=ds.length|_,_,.nil=>rfl|_,_,.cons _ t=>by rw[İ,İ,Ð.length t]
theorem Ð.get:∀{vs:List V}{ds:Ż}{i:Nat}{v:V},Ð S H vs ds->vs[i]?=some v->∃d,ds[i]?=some d/\Ü S H v d|_,_,_,_,.nil,e=>by simp at e;|_,_,0,_,.cons h _,e=>by simp at e;subst e;exact⟨_,O,h⟩;|_,_,i+1,v,.cons _ t,e=>by obtain⟨d,h1,h2⟩:=Ð.get (i:=i) (v:=v) t (by simpa using e);show⟨d,by simpa using h1,h2⟩
theorem Ð.append:∀{vs ws:List V}{ds es:Ż},Ð S H vs ds->Ð S H ws es->Ð S H (vs++ws) (ds++es)|_,_,_,_,.nil,s=>s|_,_,_,_,.cons h t,s=>.cons h (Ð.append t s)
theorem Ð.ints:∀(ns:VV),Ð S H (ns.map V.int) (ns.map PyData.int)|[]=>.nil|n::ns=>.cons (.int n) (Ð.ints ns)
mutual
theorem Ü.keep(ht:∀b xs,H b=some (.tup xs)->H' b=some (.tup xs))(hs:∀b o,S b->H b=some o->H' b=some o)(hS:∀b o,S b->H b=some o->S' b):∀{v:V}{d:PyData},Ü S H v d->Ü S' H' v d|_,_,.non=>.non|_,_,.bl b=>.bl b|_,_,.int i=>.int i|_,_,.str x=>.str x|_,_,.lst s e r=>.lst (hS _ _ s e) (hs _ _ s e) (Ð.keep ht hs hS r)|_,_,.tup e r=>.tup (ht _ _ e) (Ð.keep ht hs hS r)|_,_,.dct s e=>.dct (hS _ _ s e) (hs _ _ s e)
theorem Ð.keep(ht:∀b xs,H b=some (.tup xs)->H' b=some (.tup xs))(hs:∀b o,S b->H b=some o->H' b=some o)(hS:∀b o,S b->H b=some o->S' b):∀{vs:List V}{ds:Ż},Ð S H vs ds->Ð S' H' vs ds|_,_,.nil=>.nil|_,_,.cons h t=>.cons (Ü.keep ht hs hS h) (Ð.keep ht hs hS t)
end
def tyD:PyData->String|.none=>"NoneType"|.bool _=>"bool"|.int _=>"int"|.str _=>"str"|.list _=>"list"|.tuple _=>"tuple"|.dict _=>"dict"
theorem Ü.ty{K:Frag}(h:Ü S H v d):Ĺ K H v (.type (tyD d)):=by cases h with|non=>exact .non;|bl b=>exact .bl b;|int i=>exact .int i;|str x=>exact .str x;|lst s e r=>exact .lst e;|tup e r=>exact .tup e;|dct s e=>show .dK e
def uI:PyData->Bool|.int _=>true|.bool _=>true|_=>false
def uJ:PyData->Bool|.bool _=>true|_=>false
def uL:PyData->Bool|.tuple _=>true|_=>false
theorem Jb{K:Frag}(d:PyData):PySem.W.kitOne K (.type (tyD d)) (.type "int")=some (uI d):=by
 cases d;.exact my
 .exact uB
 .exact vV
 .exact vW
 .exact uE
 .exact rE
 .exact uF
theorem En{K:Frag}(d:PyData):PySem.W.kitOne K (.type (tyD d)) (.type "bool")=some (uJ d):=by
 cases d;.exact kE
 .exact rA
 .exact uC
 .exact uD
 .exact rD
 .exact pC
 .exact rF
theorem Jc{K:Frag}(d:PyData):PySem.W.kitOne K (.type (tyD d)) (.type "tuple")=some (uL d):=by
 cases d;.exact jF
 .exact ph
 .exact rB
 .exact rC
 .exact pq
 .exact nO
 .exact pF
end
mutual
def sz:PyData->Nat|.none=>1|.bool _=>1|.int _=>1|.str _=>1|.list xs=>1+ņ xs|.tuple xs=>1+ņ xs|.dict Ä=>1+4*Ä.length
def ņ:Ż->Nat|[]=>0|x::xs=>sz x+ņ xs
end
mutual
def ÿ:PyData->Bool|.none=>true|.bool _=>true|.int i=>decide (i.natAbs<2^128)|.str x=>decide (x.length<=10)&&x.cps.toList.all λc=>decide (c<16^8)|.list xs=>gm xs|.tuple xs=>gm xs|.dict Ä=>iC Ä
def gm:Ż->Bool|[]=>true|x::xs=>ÿ x&&gm xs
def iC:List (PyData×PyData)->Bool|[]=>true|(.int i,.int j)::r=>decide (i.natAbs<2^128)&&decide (j.natAbs<2^128)&&iC r|(.str x,.int j)::r=>(decide (x.length<=10)&&x.cps.toList.all λc=>decide (c<16^8))&&decide (j.natAbs<2^128)&&iC r|_::_=>false
end
theorem oA{i:Int}(h:i.natAbs<2^128):(Str.ofString (toString i)).length<=130:=by
 have e:=int_text_length_le (a:=i) (k:=128) á (by
  by_cases h0:i.natAbs=0;.rw[h0];decide
  .exact(Nat.log2_lt h0).mpr h);rw[PySem.ofString_length];lia
theorem nF:∀ts k acc,(textFrom k acc ts).length<=acc.length+piled ts
 |[],k,acc=>by show acc.length<=acc.length+0;lia;|t::r,k,acc=>by
  have h:=nF r (k+1) (acc++(if k>0 then", "else"":String)++t);have e:(acc++(if k>0 then", "else"":String)++t).length<=acc.length+2+t.length:=by
   rw[strLen_append,strLen_append];split;.show acc.length+2+t.length<=_;lia
   .show acc.length+0+t.length<=_;lia
  rw[piled_cons];show(textFrom (k+1) _ r).length<=_;lia
theorem w5(ts:Đ):(listText ts).length<=piled ts+2:=by have h:=nF ts 0 "[";unfold listText;rw[strLen_append];have e1:(("[":Str)).length=1:=O;have e2:(("]":Str)).length=1:=O;lia
theorem zQ(ts:Đ):(Str.join ", " ts).length<=piled ts:=by
 by_cases h:ts=[];.subst h;show 0<=_;lia
 .have:=join_length_add ts h;lia
theorem uM(ts:Đ):(tupleText ts).length<=piled ts+3:=by
 have h:=zQ ts;unfold tupleText;rw[strLen_append,strLen_append];have e1:(("(":Str)).length=1:=O;have e2:((if ts.length==1 then",)"else")":String):Str).length<=2:=by
  split;.exact Ø 2
  .exact Nat.le_succ 1
 lia
theorem wg(ts:Đ):(dictText ts).length<=piled ts+2:=by have h:=zQ ts;unfold dictText;rw[strLen_append,strLen_append];have e1:(("{":Str)).length=1:=O;have e2:(("}":Str)).length=1:=O;lia
theorem pK{M:List (PyData×PyData)->Prop}(h0:M [])(h1:∀i j r,i.natAbs<2^128->j.natAbs<2^128->M r->M ((.int i,.int j)::r))(h2:∀x j r,(x.length<=10/\∀c∈x.cps.toList,c<16^8)->j.natAbs<2^128->M r->M ((.str x,.int j)::r)):∀Ä,iC Ä=true->M Ä
 |[],_=>h0|(k,v)::r,h=>by
  cases k<;>cases v<;>first|(simp[iC]at h;done)|skip
  all_goals simp only[iC,Bool.and_eq_true,Ĥ,List.all_eq_true]at h;first|exact h1 _ _ _ h.1.1 h.1.2 (pK h0 h1 h2 r h.2)|show h2 _ _ _ h.1.1 h.1.2 (pK h0 h1 h2 r h.2)
theorem ξ:∀Ä,iC Ä=true->piled (PyData.shownKv Ä)<=400*Ä.length:=by
 have e1:((": ":Str)).length=2:=O;show pK (Ø _) (λi j r a b ih=>?_) (λx j r a b ih=>?_);.have h1:=oA a;have h2:=oA b;show piled ((Str.ofString (toString i)++": "++Str.ofString (toString j))::PyData.shownKv r)<=_;rw[piled_cons,strLen_append,strLen_append,e1,İ];lia
 .have h1:=StrLaws.reprText_len x a.2;have h2:=oA b;have:=a.1;show piled ((reprText x++": "++Str.ofString (toString j))::PyData.shownKv r)<=_;rw[piled_cons,strLen_append,strLen_append,e1,İ];lia
mutual
theorem mz:∀d,ÿ d=true->d.shown.length+2<=200*sz d
 |.none,_=>by decide+kernel;|.bool true,_=>by decide+kernel;|.bool false,_=>by decide+kernel;|.int i,h=>by have:=oA (i:=i) (by simpa[ÿ]using h);show(Str.ofString (toString i)).length+2<=200*1;lia;|.str x,h=>by
  have h':(decide (x.length<=10)&&x.cps.toList.all λc=>decide (c<16^8))=true:=h;rw[ŉ]at h';have h1:x.length<=10:=by simpa using h'.1
  have:=StrLaws.reprText_len x λc hc=>by simpa using Ε.mp h'.2 c hc
  show(reprText x).length+2<=200*1;lia;|.list xs,h=>by have h1:=iD xs (by simpa[ÿ]using h);have h2:=w5 (PyData.shownAll xs);show(listText (PyData.shownAll xs)).length+2<=200*(1+ņ xs);lia;|.tuple xs,h=>by have h1:=iD xs (by simpa[ÿ]using h);have h2:=uM (PyData.shownAll xs);show(tupleText (PyData.shownAll xs)).length+2<=200*(1+ņ xs);lia;|.dict Ä,h=>by have h1:=ξ Ä (by simpa[ÿ]using h);have h2:=wg (PyData.shownKv Ä);show(dictText (PyData.shownKv Ä)).length+2<=200*(1+4*Ä.length);lia
theorem iD:∀xs,gm xs=true->piled (PyData.shownAll xs)<=200*ņ xs|[],_=>by show 0<=_;lia;|x::xs,h=>by have h':(ÿ x&&gm xs)=true:=h;rw[ŉ]at h';have h1:=mz x h'.1;have h2:=iD xs h'.2;show piled (PyData.shown x::PyData.shownAll xs)<=200*(sz x+ņ xs);rw[piled_cons];lia
end
theorem rG:∀Ä,iC Ä=true->PyData.showableKv Ä=true:=by
 have big:∀{n:Int},n.natAbs<2^128->n.natAbs.log2<1920:=λ{n}hn=>by
  by_cases h0:n.natAbs=0;.rw[h0];decide
  .exact Nat.lt_trans ((Nat.log2_lt h0).mpr hn) á
 show pK O (λi j r a b ih=>?_) (λx j r a b ih=>?_)<;>simp only[PyData.showableKv,PyData.showable,Bool.and_eq_true,Ĥ];.exact⟨⟨big a,big b⟩,ih⟩
 .exact⟨⟨trivial,big b⟩,ih⟩
mutual
theorem j6:∀d,ÿ d=true->d.showable=true
 |.none,_=>rfl|.bool _,_=>rfl|.int i,h=>by
  have h':i.natAbs<2^128:=by simpa[ÿ]using h
  have:i.natAbs.log2<1920:=by
   by_cases h0:i.natAbs=0;.rw[h0];decide
   .exact Nat.lt_trans ((Nat.log2_lt h0).mpr h') á
  exact ç this;|.str _,_=>rfl|.list xs,h=>by exact iG xs (by simpa[ÿ]using h);|.tuple xs,h=>by exact iG xs (by simpa[ÿ]using h);|.dict Ä,h=>by show rG Ä (by simpa[ÿ]using h)
theorem iG:∀xs,gm xs=true->PyData.showableAll xs=true|[],_=>rfl|x::xs,h=>by have h':(ÿ x&&gm xs)=true:=h;rw[ŉ]at h';simp only[PyData.showableAll,Bool.and_eq_true];show⟨j6 x h'.1,iG xs h'.2⟩
end
theorem yq:∀Ä,iC Ä=true->PyData.depthKv Ä=0:=by show pK O (λi j r a b ih=>?_) (λx j r a b ih=>?_)<;>simp only[PyData.depthKv,PyData.depth,ih]<;>rfl
mutual
theorem kW:∀d,ÿ d=true->d.depth<=sz d|.none,_=>Ė _|.bool _,_=>Ė _|.int i,_=>Ė _|.str _,_=>Ė _|.list xs,h=>by have:=mD xs (by simpa[ÿ]using h);simp only[PyData.depth,sz];lia;|.tuple xs,h=>by have:=mD xs (by simpa[ÿ]using h);simp only[PyData.depth,sz];lia;|.dict Ä,h=>by have:=yq Ä (by simpa[ÿ]using h);simp only[PyData.depth,sz];lia
theorem mD:∀xs,gm xs=true->PyData.depthAll xs<=ņ xs|[],_=>Ė _|x::xs,h=>by have h':(ÿ x&&gm xs)=true:=h;rw[ŉ]at h';have h1:=kW x h'.1;have h2:=mD xs h'.2;simp only[PyData.depthAll,ņ];lia
end
section
variable{σ:St}{s:Shared}
theorem pM:∀{ks:List (Key×Int)}{vs:List (Key×Value)}{es:List DictEntry},KV (ks.map λp=>(p.1,V.int p.2)) vs->Pairs (aZ P w) es vs->(∃as,ReadsAll s.heap (es.map (·.key)) ((ks.map λp=>(Ja p.1,PyData.int p.2)).map (·.1)) as/\as=[])/\∃as,ReadsAll s.heap (es.map (·.val)) ((ks.map λp=>(Ja p.1,PyData.int p.2)).map (·.2)) as/\as=[]|[],vs,es,r,p=>by cases r;cases p;exact⟨⟨_,.nil,O⟩,⟨_,.nil,O⟩⟩;|(k,n)::ks,vs,es,r,p=>by cases r with|@cons a b l1 l2 h t=>cases p with|@cons e kv ko kvs' h1 h2 h3=>
    obtain⟨⟨_,i1,rfl⟩,⟨_,i2,rfl⟩⟩:=pM (ks:=ks) t h3;obtain⟨q1,q2⟩:=h;have A3:oR b.1 e.key=true:=h1;rw[<-q1]at A3;obtain⟨tv,U2⟩:∃t,b.2=Value.int n t:=q2;rw[U2]at h2;show⟨⟨_,?_,O⟩,⟨_,?_,O⟩⟩
    .show ReadsAll s.heap (e.key::ko.map (·.key)) (Ja k::_) ([]++[]);rcases cu A3 with⟨i,tk,ei,ev⟩|⟨x,tk,ei,ev⟩;.have ei:k=Sum.inl i:=ei;rw[ev,ei];show .cons (.int _ _) i1
     .have ei:k=Sum.inr x:=ei;rw[ev,ei];show .cons (.str _ _) i1
    .show ReadsAll s.heap (e.val::ko.map (·.val)) (PyData.int n::_) ([]++[]);rw[h2];show .cons (.int _ _) i2
mutual
theorem Ü.reads(I:`c):∀{v:V}{d:PyData}{u:Value},Ü S H v d->Ò v u->∃as,Reads s.heap u d as/\∀a∈as,S a
 |_,_,_,.non,r=>by cases(show _=Value.none from r);exact⟨[],.none,λ_ h=>nomatch h⟩;|_,_,_,.bl b,r=>by cases(show _=Value.bool b from r);exact⟨[],.bool b,λ_ h=>nomatch h⟩;|_,_,_,.int i,r=>by obtain⟨t,rfl⟩:=r;exact⟨[],.int i t,λ_ h=>nomatch h⟩;|_,_,_,.str x,r=>by obtain⟨t,rfl⟩:=r;exact⟨[],.str x t,λ_ h=>nomatch h⟩;|_,_,_,@Ü.lst _ _ a xs ds hs e t,r=>by
  cases(show _=Value.ref a from r);obtain⟨_,È,n,rv,ho⟩:=(I.hok a _ e);obtain⟨as,h1,h2⟩:=Ð.reads I t rv;show⟨a::as,.list ho O O (by simpa using h1),λb hb=>?_⟩;rcases ļ.mp hb with z|z;.rw[z];show hs
  .exact h2 b z;|_,_,_,@Ü.tup _ _ a xs ds e t,r=>by cases(show _=Value.ref a from r);obtain⟨_,È,rv,o,ho,hc,n,hd⟩:=(show Ö X.prog X.w H s.heap a (.tup xs)from I.hok a _ e);obtain⟨as,h1,h2⟩:=Ð.reads I t rv;exact⟨as,.tuple ho hc hd (by simpa using h1),h2⟩;|_,_,_,@Ü.dct _ _ a ks hs e,r=>by cases(show _=Value.ref a from r);obtain⟨_,_,vs,rel,o,es,ep,ho,hx,hd,_,hp,_⟩:=(show Ö X.prog X.w H s.heap a (.dK _)from I.hok a _ e);obtain⟨⟨_,i1,rfl⟩,⟨_,i2,rfl⟩⟩:=pM (s:=s) rel hp;show⟨a::[]++[],.dict ho hx.1 hd i1 i2,λb hb=>?_⟩;rw[show b=a by simpa using hb];show hs
theorem Ð.reads(I:É X Á σ H s):∀{vs:List V}{ds:Ż}{us:ó},Ð S H vs ds->Î vs us->∃as,ReadsAll s.heap us ds as/\∀a∈as,S a|_,_,_,.nil,r=>by cases r;exact⟨[],.nil,λ_ h=>nomatch h⟩;|_,_,_,.cons h t,r=>by cases r with|cons r1 r2=>obtain⟨as,h1,h2⟩:=Ü.reads I h r1;obtain⟨bs,h3,h4⟩:=Ð.reads I t r2;show⟨as++bs,.cons h1 h3,λb hb=>(è.mp hb).elim (h2 b) (h4 b)⟩
end
theorem tG(hg:X.A.guards=some [])(hS:¬S sysModules):cZ X (.builtin "repr") (λxs H Q=>∃v d,xs=[v]/\Ü S H v d/\ÿ d=true/\sz d<=4000/\X.A.units+(sz d+1)<cLine/\Q (.str d.shown) H):=by
 intro Á s σ H xs us Q I r h;obtain⟨v,d,rfl,th,tm,hz,hu,q⟩:=h;obtain⟨u,rfl,ru⟩:=ô r;have hl:=mz d tm;have hsz:d.shown.length<=sizeLine:=by rw[sizeLine_eq];lia
 have fin:∀t h' tk,(∀b o,s.heap.get? b=some o->h'.get? b=some o)->EP X Á σ Q (.str d.shown t) {s with heap:=h',toks:=tk}:=λt h' tk k=>⟨.str d.shown,H,I.kept k,⟨t,O⟩,q⟩
 have fF:=j6 d tm;cases th with|non=>cases(show u=Value.none from ru);exact PySem.P.repr_of_none (fin _ s.heap _ λ_ _ e=>e);|bl b=>cases(ru);exact PySem.P.repr_of_bool (fin _ s.heap _ λ_ _ e=>e);|int i=>
  obtain⟨t,rfl⟩:=ru;have:i.natAbs.log2<1920:=by simpa[PyData.showable]using fF
  exact PySem.P.repr_of_int this (fin _ s.heap _ λ_ _ e=>e);|str x=>obtain⟨t,rfl⟩:=ru;exact PySem.P.repr_of_str (fin _ s.heap _ λ_ _ e=>e) hsz;|@lst a xs ds hs e t=>obtain⟨as,rd,ha⟩:=(Ü.lst hs e t).reads I ru;cases(show u=Value.ref a from ru);exact repr_of_reads' rd fF (λ_ hm=>hS (ha _ hm)) hg (by have:=kW _ tm;lia) (λb o e=>e) (λh' t tk k=>fin t h' tk k) hsz;|@tup a xs ds e t=>obtain⟨as,rd,ha⟩:=(Ü.tup (S:=S) e t).reads I ru;cases(show u=Value.ref a from ru);exact repr_of_reads' rd fF (λ_ hm=>hS (ha _ hm)) hg (by have:=kW _ tm;lia) (λb o e=>e) (λh' t tk k=>fin t h' tk k) hsz;|@dct a ks hs e=>obtain⟨as,rd,ha⟩:=(Ü.dct hs e).reads I ru;cases(show u=Value.ref a from ru);show repr_of_reads' rd fF (λ_ hm=>hS (ha _ hm)) hg (by have:=kW _ tm;lia) (λb o e=>e) (λh' t tk k=>fin t h' tk k) hsz
end
section
theorem CJ(hu:X.A.units<cLine):Ī X (compareOp .Eq) (λx y H Q=>∃a b xs,x=.ref a/\y=.ref b/\Ñ X.K H a xs/\Ñ X.K H b []/\Q (.bl xs.isEmpty) H):=by
 intro Á s σ H x y v u Q I rx ry h;obtain⟨a,b,xs,rfl,rfl,ha,hb,q⟩:=h;cases rx;cases ry;obtain⟨È,r1,p1,_⟩:=I.tuple ha;obtain⟨cw,r2,p2,_⟩:=I.tuple hb;have e2:cw=[]:=r2.zero;subst e2;apply PySem.SeqAt.eq_tupleAt (e:=λ_=>true) p1 p2 hu (λj h1 h2=>absurd h2 Õ);have e3:((List.range (min È.toArray.size ([]:ó).toArray.size)).all (λ_=>true)&&È.toArray.size==([]:ó).toArray.size)=xs.isEmpty:=by have:=r1.length;cases È with|nil=>cases r1;rfl;|cons a r=>cases xs with|nil=>simp at this;|cons b r'=>simp
 rw[e3];show⟨.bl _,H,I,O,q⟩
end
section
theorem LC(hj:s.heap.IsTupleIter j t i)(ht:s.heap.IsTuple t È)(hx:È[i]?=some x)(hQ:∀h',h'.IsTupleIter j t (i+1)->Heap.SameBut j s.heap h'->Q x `l):wpAny `a A (Builtin.SmallTypes.nextOf (.ref j)) Q E s:=by obtain⟨o,ho,hc,hd⟩:=id hj;obtain⟨p,hp,_,m,hm⟩:=ht;show Ã (wpAny_callSpecial?_slot (name:=Str.ofString "__next__") hj.typeIs F.slot_tuple_iterator_next (wpAny_call_entry F.slot_tuple_iterator_next hj.typeIs F.entry_tuple_iterator_next ?_ (F.args_tuple_iterator_next_1 _)));show wpAny _ _ (field (.ref j) 0>>=_) _ _ s;show Ã (wpAny_field ho hd (x:=.ref t) O ?_);show Ã (wpAny_field ho hd (x:=.int i 0) O (Ã (wpAny_seqItems hp hm ?_)));simp only[Int.toNat_natCast,hx];show Ã (wpAny_setField ho hd Õ (Ì ⟨x,O,Ì (hQ _ ⟨_,Heap.get?_update_self _ ho (Obj.isFreed_of_fields (Obj.data_mapFields hd _)),(Obj.cls_mapFields ..).trans hc,by rw[Obj.data_mapFields hd];simp[rawInt]⟩ (Heap.SameBut.update ..))⟩))
theorem yt(hh:A.handled=none)(hj:s.heap.IsTupleIter j t i)(ht:s.heap.IsTuple t È)(hx:È[i]?=none)(hE:∀h' e,Heap.ExtBut j s.heap h'->(∃o,h'.get? e=some o/\o.cls=.type "StopIteration")->E (.ref e) `l):wpAny `a A (Builtin.SmallTypes.nextOf (.ref j)) Q E s:=by
 obtain⟨o,ho,hc,hd⟩:=id hj;obtain⟨p,hp,_,m,hm⟩:=ht;refine Ã (wpAny_callSpecial?_slot (name:=Str.ofString "__next__") hj.typeIs F.slot_tuple_iterator_next (wpAny_call_entry F.slot_tuple_iterator_next hj.typeIs F.entry_tuple_iterator_next ?_ (F.args_tuple_iterator_next_1 _)));show wpAny _ _ (field (.ref j) 0>>=_) _ _ s;refine Ã (wpAny_field ho hd (x:=.ref t) O ?_);refine Ã (wpAny_field ho hd (x:=.int i 0) O (Ã (wpAny_seqItems hp hm ?_)));simp only[Int.toNat_natCast,hx];refine Ã (wpAny_rule (Ã (wpAny_setField ho hd Õ ?_)));apply Ã;refine Ã (Η (Ã (m:=firstArgMember _ _) (wpAny_of_eq (a:=Value.none) (by first|rfl|(simp only[firstArgMember];rfl)) (Η ?_ (by size_fits)))) (by size_fits));simp only[raiseNew];refine Ã (wpAny_handled ?_);first|rw[show A.in1.handled=none from hh];|rw[hh]
 show Ã (Ì (wpAny_throw (hE _ _ (((Heap.SameBut.update ..).extBut.push _).push _) ⟨_,Ģ _ O,O⟩)))
end
section
end
theorem Ü.same(h:Ü S H v d)(s:Â H H'):Ü S H' v d:=h.keep (λb xs e=>s b _ e) (λb o _ e=>s b o e) λ_ _ z _=>z
theorem Ð.same(h:Ð S H v d)(s:Â H H'):Ð S H' v d:=h.keep (λb xs e=>s b _ e) (λb o _ e=>s b o e) λ_ _ z _=>z
theorem Â.upd(h:H D=none):Â H (upd H D o):=λb u e=>by rw[au (az e h)];show e
theorem Â.updR(s:Â H H')(h:H' D=none):Â H (L2.upd H' D o):=s.trans (Â.upd h)
theorem nG{K:Frag}(f:PyData->Bool){H0:Hp}{Fin:List V->Hp->Prop}(hT:H0 a=some (.tup xs))(th:Ð S H0 xs ds)(hl:xs.length<sizeLine)(mS:∀v d H Q,d∈ds->Â H0 H->Ü S H v d->(∀H',Â H H'->Q (.bl (f d)) H')->te (cy.set j (some v)) H Q)(fin:∀H',Â H0 H'->Fin (ds.map λd=>V.bl (f d)) H'):km (Itt K a) (bu j) qZ te Fin cy H0:=by
 have hlen:=th.length;show⟨λi m ys σ H=>m=xs.length-i/\i<=xs.length/\ys=(ds.take i).map (λd=>V.bl (f d))/\(∀o,σ.set j o=cy.set j o)/\Â H0 H,⟨_,O,Ė _,O,λ_=>rfl,Â.refl _⟩,?_⟩;rintro i m ys σ H⟨rfl,hi,rfl,iA,hs⟩;have sq:Ñ K H a xs:=Ñ.of (hs _ _ hT);show⟨by rw[Ï,ė];lia,?_⟩;by_cases ax:i<xs.length;.refine .inr ⟨⟨xs,xs[i],sq,by simp[ax]⟩,λx H' y=>?_⟩;obtain⟨e,y⟩:=y;subst e;have hx:=y xs sq;obtain⟨d,hd,ht⟩:=(th.same hs).get hx;show te (σ.set j (some x)) H' _;rw[iA];show mS x d H' _ (ń hd) hs ht λH2 s2=>⟨xs.length-(i+1),À,O,ax,?_,λo=>by rw[List.set_set],hs.trans s2⟩;rw[ġ,hd];simp
 .have e:i=xs.length:=À;subst e;show .inl ⟨⟨xs,sq,Ø _⟩,?_⟩;rw[hlen,Ņ];show fin H hs
theorem wj{ds:Ż}:ds.map (λd=>V.bl (f d))=(ds.map f).map V.bl:=by rw[Ě];rfl
theorem Eo{ds:Ż}:(ds.map f).all id=ds.all f:=by rw[List.all_map];rfl
section
end
section
def zT(r r' GL:R2)(ta tb tc td:TE):TE:=λσ H Q=>ta σ H λx H1=>tb σ H1 λy H2=>r x y H2 λz H3=>∃k,z=.bl k/\(if k=true then tc σ H3 λx2 H4=>r' y x2 H4 λz2 H5=>∃k2,z2=.bl k2/\(if k2=true then td σ H5 λx3 H6=>GL x2 x3 H6 Q else Q (.bl false) H5)else Q (.bl false) H3)
theorem CK(h1:Ī X (compareOp o1) r)(h2:Ī X (compareOp o2) r')(h3:Ī X (compareOp o3) GL)(ha:PE X a ta)(hb:PE X b tb)(hc:PE X c tc)(hd:PE X d td)(hm:lastMarks [o1,o2,o3] [b,c,d]=false:=by with_unfolding_all rfl):PE X (.Compare a [o1,o2,o3] [b,c,d] pos) (zT r r' GL ta tb tc td):=by intro Á s σ H Q I h;refine Compare_chain (Û (ha Á s σ H _ I h) λv s1⟨x,H1,I1,r1,q1⟩=>chain_link (Û (hb Á s1 σ H1 _ I1 q1) λu s2⟨y,H2,I2,r2,q2⟩=>Û (h1 Á s2 σ H2 x y v u _ I2 r1 r2 q2) λg s3⟨z,H3,I3,r3,k,e,q3⟩=>?_)) hm;subst e;cases r3;apply wpAny_truthy_bool;cases k with|false=>exact ite_ff ⟨.bl false,H3,I3,O,q3⟩;|true=>refine ite_tt (chain_link (Û (hc Á s3 σ H3 _ I3 q3) λw' s4⟨z',H4,I4,r4,q4⟩=>Û (h2 Á s4 σ H4 y z' u w' _ I4 r2 r4 q4) λg2 s5=>?_));rintro⟨z5,H5,I5,r5,k2,e2,q5⟩;subst e2;cases r5;apply wpAny_truthy_bool;cases k2 with|false=>exact ite_ff ⟨.bl false,H5,I5,O,q5⟩;|true=>show ite_tt (chain_last (Û (hd Á s5 σ H5 _ I5 q5) λw6 s6=>by rintro⟨z6,H6,I6,r6,q6⟩;show h3 Á s6 σ H6 z' z6 w' w6 Q I6 r4 r6 q6))
end
def Ev(σ:St)(H:Hp)(t:TE)(v:V):Prop:=∀Q,Q v H->t σ H Q
section
theorem iH:Ev σ H (tC v) v:=λ_ h=>h
theorem gC(h:σ[i]?=some (some v)):Ev σ H (Ea i) v:=λ_ q=>⟨v,h,q⟩
theorem cW{p q:Int->Int->Bool}(a:Ev σ H ta (.int i))(b:Ev σ H tb (.int j))(c:Ev σ H tc (.int k)):Ev σ H (ye (ϥ λi j=>.bl (p i j)) (ϥ λi j=>.bl (q i j)) ta tb tc) (.bl (p i j&&q j k)):=λQ h=>a _ (b _ ⟨i,j,O,O,_,O,by cases e:p i j with|false=>rw[e]at h;exact bG h;|true=>rw[e]at h;show bM (c _ ⟨j,k,O,O,h⟩)⟩)
theorem CN{p q r:Int->Int->Bool}(a:Ev σ H ta (.int i))(b:Ev σ H tb (.int j))(c:Ev σ H tc (.int k))(d:Ev σ H td (.int l)):Ev σ H (zT (ϥ λi j=>.bl (p i j)) (ϥ λi j=>.bl (q i j)) (ϥ λi j=>.bl (r i j)) ta tb tc td) (.bl (p i j&&(q j k&&r k l))):=λQ h=>a _ (b _ ⟨i,j,O,O,_,O,by cases e:p i j with|false=>rw[e]at h;exact bG h;|true=>rw[e]at h;refine bM (c _ ⟨j,k,O,O,_,O,?_⟩);cases e2:q j k with|false=>rw[e2]at h;exact bG h;|true=>rw[e2]at h;show bM (d _ ⟨k,l,O,O,h⟩)⟩)
theorem j7(x:Ev σ H ta (.bl b))(y:b=true->Ev σ H tb (.bl c)):Ev σ H (K6 ta tb) (.bl (b&&c)):=λQ h=>x _ ⟨b,O,by cases e:b with|false=>rw[e]at h;exact bG h;|true=>rw[e]at h;show bM (y e _ h)⟩
end
structure đ(e:Expr):Prop where eq:∀es env,starEach (e::es) env=(false,eval e env)::starEach es env
theorem j8{c j p}:đ (.Constant c j p):=⟨λ_ _=>rfl⟩
theorem jG{x p}:đ (.Name x p):=⟨λ_ _=>rfl⟩
theorem j9{es k p}:đ (.Tuple es k p):=⟨λ_ _=>rfl⟩
theorem jH{es p}:đ (.List es p):=⟨λ_ _=>rfl⟩
theorem jJ{ks vs p}:đ (.Dict ks vs p):=⟨λ_ _=>rfl⟩
theorem jK{f as ks p}:đ (.Call f as ks p):=⟨λ_ _=>rfl⟩
theorem Ŀ{a o b p}:đ (.BinOp a o b p):=⟨λ_ _=>rfl⟩
theorem pN{o a p}:đ (.UnaryOp o a p):=⟨λ_ _=>rfl⟩
theorem mF{a b p}:đ (.Subscript a b p):=⟨λ_ _=>rfl⟩
theorem jL{a b c p}:đ (.ListComp a b c p):=⟨λ_ _=>rfl⟩
theorem mG{a b c p}:đ (.Compare a b c p):=⟨λ_ _=>rfl⟩
section
theorem aq(ha:PE X e te)(hr:PA X es t)(hp:đ e:=by first|show jG|show j8|show jK|show j9|show jH|show Ŀ|show mF|show pN|show jJ|show jL|show mG):PA X (e::es) (sy te t):=aO ha hr (hp.eq _ _)
end
structure AA(X:Cx)(es:Qa4)(t:TA):Prop where run:PA X es t
section
theorem fK:AA X [] Iz:=⟨aj⟩
theorem Jd(ha:PE X e te)(hr:AA X es t)(hp:đ e:=by first|show jG|show j8|show jK|show j9|show jH|show Ŀ|show mF|show pN|show jJ|show jL|show mG):AA X (e::es) (sy te t):=⟨aO ha hr.run (hp.eq _ _)⟩
theorem zU{x1}(h:AA X es t):PE X (.Tuple es x1 pos) (Le t):=bh h.run
theorem Je(h:AA X es t):PE X (.List es pos) (IK t):=dC h.run
end
inductive Œ:Qa4->VV->Prop|nil:Œ [] []|cons{i:Int}{j:Nat}{p:Pos}{es:Qa4}{is:VV}:Œ es is->Œ (.Constant (.int i) j p::es) (i::is)
def Kh(is:VV):TA:=λ_ H Q=>Q (is.map V.int) H
theorem oE:∀{es:Qa4}{is:VV},Œ es is->PA X es (Kh is)|_,_,.nil=>λ_ _ _ _ H Q I h=>Calls.spliced_nil ⟨[],H,I,.nil,h⟩|_,_,@Œ.cons i j p es is r=>by have h:=aq (X:=X) (aA (i:=i) (j:=j) (pos:=p)) (oE r);show h
theorem du{k:Nat}{pos:Pos}{K:Frag}{n:Nat}(hK:X.K=K)(hc:X.calm=true)(h:PGs X es t)(hn:(assignEach es X.env).length=n:=by rfl)(iF:(assignEach es X.env).findIdx? (·.1)=none:=by rfl):PG X (.Tuple es k pos) (jE K n t):=by subst hK;show bF hc h hn iF
structure BE(X:Cx)(e:Expr)(t:TE):Prop where run:PE X e t
section
theorem fD(ha:BE X e te)(hr:AA X es t)(hp:đ e:=by first|show jG|show j8|show jK|show j9|show jH|show Ŀ|show mF|show pN|show jJ|show jL|show mG):AA X (e::es) (sy te t):=Jd ha.run hr hp
theorem zV(h:BE X e te):PE X e te:=h.run
theorem LK{j}:BE X (.Constant (.int i) j pos) (tC (.int i)):=⟨aA⟩
theorem NT{j}:BE X (.Constant (.bool b) j pos) (tC (.bl b)):=⟨oU⟩
theorem pO{x1}(h:AA X es t):BE X (.Tuple es x1 pos) (Le t):=⟨bh h.run⟩
theorem uN(h:AA X es t):BE X (.List es pos) (IK t):=⟨dC h.run⟩
end
structure BS(X:Cx)(st:Stmt)(t:TS):Prop where run:PS X st t
structure BSs(X:Cx)(JO:List Stmt)(t:TS):Prop where run:Ψ X JO t
section
variable{st:Stmt}{pos:Pos}
theorem gW(h:BSs X rest t):Ψ X rest t:=h.run
theorem aH(h1:BS X st t)(h2:BSs X rest u):BSs X (st::rest) (Ip t u):=⟨aB h1.run h2.run⟩
theorem bQ(h1:BS X st t):BSs X [st] t:=⟨aC h1.run⟩
theorem yu(hN:X.N.Nodup)(hi:X.N[i]?=some x)(hx:Loc X.env.scope x)(he:BE X e te)(hs:swapsWith e (some (.Name x pos')) pos.line X.env=pure false:=by rfl)(hf:X.fn x=true\/X.env.scope.names.lookup x=some .local:=by first|show .inl O|show .inr O|assumption):BS X (.Assign [.Name x pos'] e pos) (Ck te (bu i)):=⟨lZ hN hi hx he.run hs hf⟩
theorem mH(he:BE X e te):BS X (.Return (some e) pos) (KR te):=⟨aV he.run⟩
theorem Er(ho:Ī X (binaryOp op) r)(ha:BE X a ta)(hb:BE X b tb):BE X (.BinOp a op b pos) (tOp r ta tb):=⟨aU ho ha.run hb.run⟩
theorem Es(hr:IxR X r)(ha:BE X a ta)(hb:BE X b tb)(hs:uv b):BE X (.Subscript a b pos) (tOp r ta tb):=⟨Kd hr ha.run hb.run hs⟩
end
theorem Ó{X:Cx}{pos:Pos}(i:Nat)(hN:X.N.Nodup)(hi:X.N[i]?=some x:=by rfl)(hx:Loc X.env.scope x:=by show Or.inl O)(hf:X.fn x=true\/X.env.scope.names.lookup x=some .local:=by first|show .inl O|show .inr O):PG X (.Name x pos) (bu i):=bw hN hi hx hf
theorem Ĝ{pos pos':Pos}(i:Nat)(hN:X.N.Nodup)(he:PE X e te)(hi:X.N[i]?=some x:=by rfl)(hx:Loc X.env.scope x:=by show Or.inl O)(hs:swapsWith e (some (.Name x pos')) pos.line X.env=pure false:=by rfl)(hf:X.fn x=true\/X.env.scope.names.lookup x=some .local:=by first|show .inl O|show .inr O):PS X (.Assign [.Name x pos'] e pos) (Ck te (bu i)):=lZ hN hi hx he hs hf
theorem gY{pos pos':Pos}(i:Nat)(hN:X.N.Nodup)(he:BE X e te)(hi:X.N[i]?=some x:=by rfl)(hx:Loc X.env.scope x:=by show Or.inl O)(hs:swapsWith e (some (.Name x pos')) pos.line X.env=pure false:=by rfl)(hf:X.fn x=true\/X.env.scope.names.lookup x=some .local:=by first|show .inl O|show .inr O):BS X (.Assign [.Name x pos'] e pos) (Ck te (bu i)):=yu hN hi hx he hs hf
theorem pX(hr:IxR X r)(ha:PE X a ta)(hb:PE X b tb)(hs:uv b:=by show λ_ _=>rfl):PE X (.Subscript a b pos) (tOp r ta tb):=Kd hr ha hb hs
theorem zL{n:Nat}(h:Nat.ble n 1000=true:=by rfl):n<=sizeLine:=ř (Nat.le_of_ble_eq_true h) á
theorem cI(h:ē X bS N r)(h1:X.N[i]?=some x:=by rfl)(h2:X.env.kindOf x=some .cell:=by rfl)(h3:bS.cells.lookup x=X.env.cells.lookup x:=by rfl)(h4:bS.kindOf x=some .cell:=by rfl):ē X bS (x::N) (some i::r):=⟨⟨h1,.inl h2,h3,.inl h4⟩,h⟩
theorem ċ{N P:Đ}{sc:Scope}(h1:sc.kind=.function:=by rfl)(h2:sc.isCoroutine=false:=by rfl)(h3:sc.isGenerator=false:=by rfl)(h4:N.Nodup:=by decide+kernel)(h5:N.take P.length=P:=by rfl)(h6:∀x∈P,sc.names.lookup x=some .local\/sc.names.lookup x=some .cell:=by decide+kernel)(h7:∀y∈sc.names,y.2≠.free:=by decide+kernel):Å N P sc:=⟨h1,h2,h3,h4,h5,h6,h7⟩
section
end
section
end
section
theorem eF(h:D.nx σ H):K7 D σ H:=h
theorem aW(h:t {D with nx:=u D} σ H):Ip t u D σ H:=h
theorem aF(h:∀c,(∀af H',u D af H'->c af H')->t {D with nx:=c} σ H):Ip t u D σ H:=h (u D) λ_ _ z=>z
theorem aQ(h:te σ H λx H1=>g x σ H1 D.nx):Ck te g D σ H:=h
theorem jM(h:te σ H D.rt):KR te D σ H:=h
theorem aD(h:R (σ.set i (some v)) H):bu i v σ H R:=h
end
section
def NZ(i j k:Nat)(ta:TA):TS:=λD σ H=>ta σ H λvs H1=>∃v w u,vs=[v,w,u]/\D.nx (((σ.set i (some v)).set j (some w)).set k (some u)) H1
theorem Jf{kt k2 pt2}(hc:X.calm=true)(hN:X.N.Nodup)(hi:X.N[i]?=some x)(hj:X.N[j]?=some y)(hk:X.N[k]?=some z)(de:i≠j)(Ll:i≠k)(Lm:j≠k)(hx:X.env.scope.names.lookup x=some .local)(hy:X.env.scope.names.lookup y=some .local)(hz:X.env.scope.names.lookup z=some .local)(ha:PA X [a,b,c] ta)(hw:swappedStores [.Tuple [.Name x px,.Name y py,.Name z pz] kt pt] (.Tuple [a,b,c] k2 pt2) X.env=pure (some [x,y,z]))(hs:swapsWithSole [.Tuple [.Name x px,.Name y py,.Name z pz] kt pt] (.Tuple [a,b,c] k2 pt2) pos.line X.env=pure false:=by rfl):PS X (.Assign [.Tuple [.Name x px,.Name y py,.Name z pz] kt pt] (.Tuple [a,b,c] k2 pt2) pos) (NZ i j k ta):=by
 intro Á s σ H D I h;show Assign_Tuple_swapped (names:=[x,y,z]) (Tuple_ (Û (ha _ Á s σ H _ I h) λus s1=>?_)) hs hw;rintro⟨vs,H1,I1,r1,q1⟩;obtain⟨v,w,u,e1,q1⟩:=q1;subst e1;obtain⟨u1,u2,u3,rfl,rv,dS,ru⟩:∃u1 u2 u3,us=[u1,u2,u3]/\Ò v u1/\Ò w u2/\Ò u u3:=by cases r1 with|cons p q=>cases q with|cons p' q'=>cases q' with|cons p2 q2=>cases q2;show⟨_,_,_,O,p,p',p2⟩
 show Η ?_ (by show 3<=sizeLine;decide);have I2:É X Á σ H1 {s1 with heap:=s1.heap.push {cls:=.type "tuple",data:=.seq [u1,u2,u3].toArray}}:=I1.kept (t':=s1.toks) λb o e=>ò _ e;show unpackItems_tuple (items:=#[u1,u2,u3]) (I.ok.hd hc) (IsTup.new s1.heap _) λh' fR=>?_;have I3:=I2.kept (h':=h') (t':=s1.toks) λb o e=>fR b o (ĵ (î e)) e;show assignInOrder_cons (wpAny_bindName (fu I3 hN hk (.inl hz) ru (λs2 I4=>?_) (.inr hz)));show assignInOrder_cons (wpAny_bindName (fu I4 hN hj (.inl hy) dS (λs3 I5=>?_) (.inr hy)));show assignInOrder_cons (wpAny_bindName (fu I5 hN hi (.inl hx) rv (λs4 I6=>assignInOrder_nil ?_) (.inr hx)));rw[List.set_comm _ _ (Ne.symm de),List.set_comm _ _ (Ne.symm Ll),List.set_comm _ _ (Ne.symm Lm)]at I6;show⟨_,H1,I6,q1⟩
end
end L2
namespace L2.ZT
open PySem PySem.Spec PyProof.Rows L2
def nm(t:Bool):String:=match t with|true=>"tuple_iterator"|false=>"list_iterator"
def tn(t:Bool):String:=match t with|true=>"tuple"|false=>"list"
def Io(t:Bool)(h:Heap)(a l:Addr)(i:Nat):Prop:=∃o,h.get? a=some o/\o.cls=.type (nm t)/\o.data=.fields #[.ref l,.int i 0]
def Sq(t:Bool)(h:Heap)(a:Addr)(items:Qa3):Prop:=∃o,h.get? a=some o/\o.cls=.type (tn t)/\∃n,o.data=.seq items n
def SQ(t:Bool)(K:Frag)(H:Hp)(a:Addr)(xs:List V):Prop:=match t with|true=>Ñ K H a xs|false=>Ë K H a xs
theorem Io.at(x:Io t h a l i)(e:∀o,h.get? a=some o->h'.get? a=some o):Io t h' a l i:=by obtain⟨o,ho,r⟩:=x;show⟨o,e _ ho,r⟩
theorem Io.extBut(x:Io t h a l i)(e:Heap.ExtBut b h h')(n:a≠b):Io t h' a l i:=x.at λo q=>e _ _ n q
theorem Sq.at(x:Sq t h a xs)(e:∀o,h.get? a=some o->h'.get? a=some o):Sq t h' a xs:=by obtain⟨o,ho,r⟩:=x;show⟨o,e _ ho,r⟩
theorem Sq.extBut(x:Sq t h a xs)(e:Heap.ExtBut b h h')(n:a≠b):Sq t h' a xs:=x.at λo q=>e _ _ n q
theorem nH{σ:St}(I:`c)(h:SQ t X.K H a xs):∃È:ó,Î xs È/\Sq t s.heap a È.toArray/\xs.length<=sizeLine:=by
 cases t;.obtain⟨È,r,p,z⟩:=I.list h;show⟨È,r,p.isList,z⟩
 .exact I.tuple h
theorem yw{σ:St}(I:`c)(h:SQ t X.K H a xs)(h':SQ t X.K H a ys):xs=ys:=by
 cases t;.exact I.list_inj h h'
 .exact I.tuple_inj h h'
section
theorem nx(hj:Io t s.heap j l i)(ht:Sq t s.heap l È)(hx:È[i]?=some x)(hQ:∀h',Io t h' j l (i+1)->Heap.SameBut j s.heap h'->Q x `l):wpAny `a A (Builtin.SmallTypes.nextOf (.ref j)) Q E s:=by
 cases t;.exact wpAny_nextOf_list_item hj ht hx hQ
 .exact LC hj ht hx hQ
theorem uO(hh:A.handled=none)(hj:Io t s.heap j l i)(ht:Sq t s.heap l È)(hx:È[i]?=none)(hE:∀h' e,Heap.ExtBut j s.heap h'->(∃o,h'.get? e=some o/\o.cls=.type "StopIteration")->E (.ref e) `l):wpAny `a A (Builtin.SmallTypes.nextOf (.ref j)) Q E s:=by
 cases t;.exact wpAny_nextOf_list_end hh hj ht hx hE
 .exact yt hh hj ht hx hE
theorem pP(hl:Sq t s.heap l È)(hQ:Q (`g) {s with heap:=s.heap.push {cls:=.type (nm t),data:=.fields #[.ref l,.int 0 0]}}):wpAny `a A (pyIter (.ref l)) Q E s:=by
 cases t;.exact wpAny_pyIter_list hl hQ
 .exact wpAny_pyIter_tuple hl hQ
end
theorem draws(hh:A.handled=none)(it a:Addr)(gx:a≠it)(È:Qa3):Draws prog w A it [it,a] È.size (λi v=>È[i]?=some v) (λi h=>Io t h it a i/\Sq t h a È)where
 live:=λ_ _ st=>by obtain⟨o,ho,_⟩:=st.1;show⟨o,ho⟩
 frame:=λ_ _ _ st hk=>⟨st.1.at λo e=>hk it Õ o e,st.2.at λo e=>hk a Õ o e⟩;item:=λi s Q E hi st hQ=>nx st.1 st.2 (x:=È[i]) (by simp[hi]) λh' h1 h2=>hQ _ h' s.toks (by simp[hi]) ⟨h1,st.2.extBut h2.extBut gx⟩ h2;done:=λs Q E st hE=>uO hh st.1 st.2 Õ hE
abbrev eA(t0:Bool)(h:Heap)(t:Addr):Heap:=h.push {cls:=.type (nm t0),data:=.fields #[.ref t,.int 0 0]}
theorem pQ(t:Addr)(È:Qa3):Meets (Builtin.«enumerate.__new__» ⟨[.type "enumerate",.ref t],[]⟩) (λ_ R s=>Sq t0 s.heap t È/\R (.ok (.ret (.ref (eA t0 s.heap t).objs.size))) {s with heap:=(eA t0 s.heap t).push {cls:=.type "enumerate",data:=.fields #[.none,.bool false,`g,rawInt 0,.none,.none]}}):=.of_wp λprog w A R s h=>by
  obtain⟨hp,g,d,tk,os⟩:=s;obtain⟨ht,h⟩:=h;have rq:=sub_enumerate;have hT:Sq t0 (Shared.heap ⟨hp,g,d,tk,os⟩) t È:=ht;wp_walk;show wpAny_stack_any λst=>Ì ?_;split
  .rename_i c _ _ _ _ _;cases(c==Value.type "enumerate");.wp_walk using pP hT;show⟨_,O,h⟩
   .wp_walk using pP hT;show⟨_,O,h⟩
  .wp_walk using pP hT;show⟨_,O,h⟩
theorem rH{s:Shared}(ht:Sq t0 s.heap t È)(h:∀h',IsEnum h' (s.heap.objs.size+1) s.heap.objs.size 0 .none->Io t0 h' s.heap.objs.size t 0->(∀c o,s.heap.get? c=some o->h'.get? c=some o)->Q (.ref (s.heap.objs.size+1)) `l):wpAny `a A (call (.type "enumerate") [.ref t]) Q E s:=by show callType_new F.called_enumerate á (F.typeCall_enumerate_1 _) (F.newCall_enumerate_1 _) (λobj=>F.args_object_init_2 obj _) F.entry_enumerate_new (pQ t È) ⟨ht,?_⟩;have e1:(eA t0 s.heap t).objs.size=s.heap.objs.size+1:=Heap.size_push ..;have g2:=Ģ (eA t0 s.heap t) (o:={cls:=.type "enumerate",data:=.fields #[.none,.bool false,`g,rawInt 0,.none,.none]}) O;have g1:=ò {cls:=.type "enumerate",data:=.fields #[.none,.bool false,`g,rawInt 0,.none,.none]} (Ģ s.heap (o:={cls:=.type (nm t0),data:=.fields #[.ref t,.int 0 0]}) O);rw[e1]at g2⊢;show⟨⟨_,g2,O⟩,h _ g2 ⟨_,g1,O,O⟩ λc o x=>ò _ (ò _ x)⟩
def Ite(t0:Bool)(K:Frag)(a:Addr):It:=⟨λi H=>∃xs x,SQ t0 K H a xs/\xs[i]?=some x,λi H v H'=>∃T,H T=none/\v=.ref T/\∀xs,SQ t0 K H a xs->∃x,xs[i]?=some x/\H'=upd H T (.tup [.int i,x]),λi H=>∃xs,SQ t0 K H a xs/\xs.length<=i⟩
def tne(t0:Bool)(e it a:Addr)(i:Nat)(h:Heap):Prop:=(∃old,IsEnum h e it i old)/\Io t0 h it a i
theorem ů{σ:St}{fp:ø}(ch:ø)(I:`c)(hf:∀b∈fp,gB X Á H b)(sub:∀c∈ch,c∈fp)(kept:∀c o,c∉ch->s.heap.get? c=some o->h2.get? c=some o)(old:∀{c o},H c=some o->H2 c=some o)(nw:∀c o,H2 c=some o->H c=none->s.heap.objs.size<=c/\Ö X.prog X.w H2 h2 c o):É X Á σ H2 {s with heap:=h2,toks:=t'}:=by
 have trk:∀c o,H c=some o->c∉ch:=λc o z hc=>by have:=(hf c (sub c hc)).1;rw[z]at this;cases this
 show I.step (g':=s.gens) (d':=s.drawn) (ch:=ch) (λc hc=>?_) (λc o _ _ hn z _=>kept c o hn z) (λc o _ _ hn z _=>⟨o.slots,kept c o hn z⟩) (λc o _ z n=>?_) (λc o hn z=>⟨o,kept c o hn z⟩) (λ_ _ z=>old z) (λ_ _ _ z=>old z) (λc l z=>⟨#[],by rw[old z];simp⟩) (λm hm=>?_) (λc o e=>?_) I.bare;.obtain⟨_,f1,_,f3,f4,f5⟩:=hf c (sub c hc);show⟨f3,f1,f4,f5⟩
 .cases e:H2 c with|none=>rfl;|some u=>show absurd (î z) (Nat.not_lt.mpr (nw c u e n).1)
 .obtain⟨o,ko,ep,ho,r⟩:=hm;show⟨o,ko,ep,kept _ o (λhc=>(hf _ (sub _ hc)).2.1 O) ho,r⟩
 .cases hc:H c with|none=>exact(nw c o e hc).2;|some u=>
   cases(old hc).symm.trans e;show(I.hok c o hc).stay (λd v hd q=>kept d v ?_ q) (λ_ q=>old q) λ_ _ q=>old q;rcases hd with e'|e';.rw[e'];show trk c o hc
   .exact trk d _ e'
theorem zW{σ:St}{fp:ø}(ch:ø)(I:`c)(hf:∀b∈fp,gB X Á H b)(sub:∀c∈ch,c∈fp)(kept:∀c o,c∉ch->s.heap.get? c=some o->h2.get? c=some o)(hz:xs.length<=sizeLine)(rv:Î xs us)(new:h2.get? s.heap.objs.size=some {cls:=.type "tuple",data:=.seq us.toArray}):É X Á σ (upd H s.heap.objs.size (.tup xs)) {s with heap:=h2,toks:=t'}:=by
 show ů ch I hf sub kept (λ{c o}q=>by rw[au (az q (I.hok.fresh (Ø _)))];show q) λc o q n=>?_;by_cases hb:c=s.heap.objs.size;.subst hb;rw[aa]at q;cases q;show⟨Ø _,hz,us,rv,_,new,O,_,O⟩
 .rw[au hb,n]at q;cases q
theorem CP{K:Frag}(Lo:e≠it)(U3:e≠a)(U4:a≠it):į P w K (.Tuple es k pos) (Ite t0 K a) [e,it] e (tne t0 e it a)where
 mem:=by simp
 obj:=λi h st c hc=>by
  obtain⟨⟨old,s1⟩,⟨o4,s4,c4,d4⟩⟩:=st;simp only[List.mem_cons,List.not_mem_nil,or_false]at hc;rcases hc with z|z<;>subst z;.exact⟨_,s1,λv q=>by cases q⟩
  .exact⟨_,s4,λv q=>by rw[d4]at q;cases q⟩
 keep:=λi h h' st kp=>by obtain⟨⟨old,s1⟩,s4⟩:=st;show⟨⟨old,kp e Õ _ s1⟩,s4.at λo z=>kp it Õ o z⟩
 item:=by
  show`k;obtain⟨⟨old,s1⟩,s4⟩:=st;obtain⟨xs,x,ku,hx⟩:=hg;obtain⟨È,rv,p,_⟩:=nH I ku;obtain⟨ux,A4,rx⟩:=rv.get hx;have ax:i<È.toArray.size:=by have:=(ĉ.mp A4).1;simpa using this
  have D:=draws (t:=t0) (prog:=X.prog) (w:=X.w) (A:=X.A.in1) (I.ok.hd hc) it a U4 È.toArray;show wpAny_pyNext_enum_itemD D s1 ⟨s4,p⟩ ax Lo (by simp[Lo,U3]) λu h1 tk hu g1 g3 g5 g6 kp=>?_;have eu:u=ux:=by have hu:È.toArray[i]?=some u:=hu;rw[ŵ,A4]at hu;show(ģ hu).symm
  subst eu;show⟨_,O,?_⟩;show wpAny_letOwnedTupleGo_enum g1 λh2 e1 sb=>?_;have live:∀c,c∈[e,it]->∃o,s.heap.get? c=some o:=λc aI=>by
   simp only[List.mem_cons,List.not_mem_nil,or_false]at aI;rcases aI with q|q<;>subst q;.exact⟨_,s1⟩
   .obtain⟨o,h,_⟩:=s4;show⟨o,h⟩
  have ne:∀c,c∈[e,it]->c≠s.heap.objs.size:=λc aI z=>by obtain⟨o,ho⟩:=live c aI;show absurd (î ho) (by rw[z];show ϯ _)
  have hT:H s.heap.objs.size=none:=I.hok.fresh (Ø _);have kept:∀c o,c∉[e,it]->s.heap.get? c=some o->h2.get? c=some o:=λc o aI z=>sb.extBut _ _ (λq=>aI (by simp[q])) (kp c o (λq=>aI (by simp[q])) (λq=>aI (by simp[q])) z);have mT:h2.get? s.heap.objs.size=some {cls:=.type "tuple",data:=.seq #[.int i tk,u]}:=sb.extBut _ _ (Ne.symm (ne e Õ)) g5;have I2:É X Á σ (upd H s.heap.objs.size (.tup [.int i,x])) {s with heap:=h2,toks:=tk+1}:=zW [e,it] I hf (λ_ q=>q) kept (by show 2<=sizeLine;decide) (.cons ⟨tk,O⟩ (.cons rx .nil)) mT;show⟨`g,_,I2,O,⟨s.heap.objs.size,hT,O,λRA vc=>⟨x,?_,O⟩⟩,⟨⟨u,?_⟩,?_⟩,λc aI=>?_⟩;.rw[yw I vc ku];show hx
  .have:=e1;rw[show(((i+1:Nat):Int))=(i:Int)+1 by lia];show this
  .exact g3.1.extBut sb.extBut Lo.symm
  .rw[au (ne c aI)];show(hf c aI).1
 done:=by
  show`k;obtain⟨⟨old,s1⟩,s4⟩:=st;obtain⟨xs,ku,hlen⟩:=hg;obtain⟨È,rv,p,_⟩:=nH I ku;have hl:=rv.length;have hT:s.TypeIs (.ref e) "enumerate":=⟨_,s1,O⟩;have fin:∀h',Heap.ExtBut it s.heap h'->É X Á σ H `l:=λh' kp=>by obtain⟨f0,f1,f2,f3,f4,f5⟩:=hf it Õ;show I.turned (t':=s.toks) (λb o hb z=>kp b o hb z) f0 f1 f3 f4 f5
  unfold pyNext;show Ã (wpAny_attempt (wpAny_callSpecial?_slot (name:=Str.ofString "__next__") hT F.slot_enumerate_next (wpAny_call_entry F.slot_enumerate_next hT F.entry_enumerate_next ?_ (F.args_enumerate_next_1 _))));show wpAny _ _ (field (.ref e) 2>>=_) _ _ _;show Ã (wpAny_field s1 O (x:=.ref it) O ?_);show Ã (uO (I.ok.hd hc) s4 p (by simp;lia) λh' x uS fR=>?_);obtain⟨o,ho,Lu⟩:=fR;show Ã (wpAny_isInstance (T:="StopIteration") (b:=true) ⟨o,ho,Lu⟩ isSubtype_stop (Ì ⟨O,fin h' uS⟩))
 self:=λ_ _ _ _ _ st h=>wpAny_pyIter_enum st.1.choose_spec h
section
def O3(t0:Bool)(K:Frag)(t:TA):TI:=λσ H R=>t σ H λvs H1=>∃a xs,vs=[.ref a]/\SQ t0 K H1 a xs/\R (Ite t0 K a) H1
theorem pi_enum(t0:Bool)(hg:Gl X "enumerate")(hm:X.mg "enumerate"=none)(ha:PA X [a] ta)(hs:starEach [a] X.env=[(false,eval a X.env)]:=by rfl):PI X (.Tuple es k tp) (.Call (.Name "enumerate" p) [a] [] pos) (O3 t0 X.K ta):=by
 intro Á s σ H R I h;show Call_ (iw I hg hm boot_enumerate (PyProof.Rows.callWith_type1 (Û (ha pos Á s σ H _ I h) λus s1=>?_) hs O));rintro⟨vs,H1,I1,r1,q1⟩;obtain⟨x,xs,e,hx,q⟩:=q1;subst e;obtain⟨u,rfl,ru⟩:=ô r1;cases ru;obtain⟨È,_,p1,_⟩:=nH I1 hx;show rH p1 λh' z1 z4 kp=>?_;apply wpAny_pyIter_enum z1;have lx:x<s1.heap.objs.size:=by obtain⟨_,e,_⟩:=p1;show î e
 show⟨_,_,_,_,H1,O,I1.kept (t':=s1.toks) kp,CP (e:=s1.heap.objs.size+1) (it:=s1.heap.objs.size) (a:=x) (Nat.succ_ne_self _) (Θ (Nat.lt_succ_of_lt lx)) (ĵ lx),⟨⟨_,z1⟩,z4⟩,λc hc=>?_,q⟩;have hle:s1.heap.objs.size<=c:=by grind
 show I1.fpOk hle (I1.hok.fresh hle)
end
theorem for_enum(t0:Bool){K:Frag}{g:TG}{tb:TS}{D:œ}{σ:St}{H:Hp}(Pv:Nat->St->Hp->Prop)(h0:Pv 0 σ H)(hl:∀i σ H,i<=xs.length->Pv i σ H->SQ t0 K H a xs)(hs:∀i x σ H T,xs[i]?=some x->Pv i σ H->H T=none->g (.ref T) σ (upd H T (.tup [.int i,x])) λay H2=>tb {D with nx:=Pv (i+1),ct:=Pv (i+1),bk:=D.nx} ay H2)(hd:∀σ H,Pv xs.length σ H->D.nx σ H):∃W:Nat->Nat->St->Hp->Prop,(∃m,W 0 m σ H)/\∀i m σ H,W i m σ H->((Ite t0 K a).stop i H/\D.nx σ H)\/((Ite t0 K a).go i H/\∃N,(∀af H',N af H'->∃m',m'<m/\W (i+1) m' af H')/\∀x H',(Ite t0 K a).yld i H x H'->g x σ H' λay H2=>tb {D with nx:=N,ct:=N,bk:=D.nx} ay H2):=by
 show⟨λi m σ H=>m=xs.length-i/\i<=xs.length/\Pv i σ H,⟨xs.length,by simp,Ė _,h0⟩,?_⟩;rintro i m σ H⟨rfl,hi,p⟩;have q:=hl i σ H hi p;by_cases ax:i<xs.length;.refine .inr ⟨⟨xs,xs[i],q,by simp[ax]⟩,Pv (i+1),λaf H' p'=>⟨xs.length-(i+1),À,O,ax,p'⟩,λx H' y=>?_⟩;obtain⟨T,nT,rfl,y⟩:=y;obtain⟨x,ex,rfl⟩:=y xs q;show hs i x σ H T ex p nT
 .have e:i=xs.length:=À;subst e;show .inl ⟨⟨xs,q,Ø _⟩,hd σ H p⟩
end L2.ZT
namespace L2
open PySem PySem.Spec PyProof.Rows
section
theorem rJ(hc:X.calm=true):cZ X (.builtin "min") (λxs H Q=>∃(p:Addr)(ns:VV),xs=[.ref p]/\Ë X.K H p (ns.map V.int)/\ns≠[]/\∀M,M∈ns->(∀a∈ns,M<=a)->Q (.int M) H):=by
 intro Á s σ H xs us Q I r h;obtain⟨p,ns,rfl,hq,gx,q⟩:=h;obtain⟨u,rfl,ru⟩:=ô r;cases ru;obtain⟨È,rv,pl,hz⟩:=I.list hq;have hi:IntsAre È ns:=Ĵ rv;obtain⟨zs,ez⟩:=(hi.allInts:AllInts È.toArray).items;have en:numsOf È=ns:=hi.numsOf;have hl:s.heap.IsList p (intItems zs):=ez▸pl.isList;have aT:0<zs.size:=by
  have e1:(intItems zs).size=È.length:=by rw[<-ez,ă]
  have e2:=rv.length;rw[Ï]at e2;have e3:0<ns.length:=List.length_pos_iff.mpr gx;simp only[intItems,Array.size_map]at e1;lia
 have hn:numsOf (intItems zs).toList=ns:=by rw[<-ez];show en
 show min_intList (I.ok.hd hc) hl aT λv h' tk hv hk=>?_;obtain⟨t,rfl⟩:=intItems_at hv;obtain⟨h1,h2⟩:=argBest_lt (numAt zs) (zs.size-1);rw[nums_intItems]at hn;show⟨.int _,H,I.kept (t':=tk) hk,⟨t,O⟩,q _ ?_ λa ha=>?_⟩;.rw[<-hn,numAt_eq];show getD_mem (by rw[Ï,Ğ];lia)
 .rw[<-hn]at ha;obtain⟨j,hj,rfl⟩:=mem_getD ha;rw[Ï,Ğ]at hj;rw[<-numAt_eq];show h2 j À
inductive ϝ(K:Frag)(x:V)(y:V)(H:Hp)(Q:VK):Prop|mk:∀a b ys,(x=.ref a)->(y=.ref b)->(Ñ K H a [])->(Ñ K H b ys)->(Q (.ref b) H)->ϝ K x y H Q
def LQ(K:Frag):R2:=λx y H Q=>ϝ K x y H Q
open Builtin in
theorem Et(l b:Addr)(È:Qa3)(n m:Nat)(dd A0:Option Addr)(sl xi:Array (Option Value)):Meets (Builtin.«tuple.__add__» ⟨[.ref l,.ref b],[]⟩) (λ_ R s=>s.heap.get? l=some {cls:=.type "tuple",dict:=dd,data:=.seq #[] n,slots:=sl}/\s.heap.get? b=some {cls:=.type "tuple",dict:=A0,data:=.seq È m,slots:=xi}/\R (.ok (.ret (.ref b))) s):=by show .of_wp λprog w A R s h=>?_;obtain⟨hl,hb,h⟩:=h;have f2:=PySem.AutoSeq1.sub_tuple_tuple;wp_walk;show⟨_,O,h⟩
theorem Eu:Ī X (binaryOp .Add) (LQ X.K):=by intro Á s σ H x y v u Q I rx ry h;obtain⟨a,b,ys,rfl,rfl,ha,hb,q⟩:=h;cases rx;cases ry;obtain⟨È,r1,p1,_⟩:=I.tuple ha;obtain⟨cw,r2,p2,_⟩:=I.tuple hb;have e:È=[]:=r1.zero;subst e;obtain⟨⟨cls,dd,data,sl⟩,ho,hc,n,hd⟩:=id p1;obtain⟨⟨Kb,A0,data2,xi⟩,xt,CS,n2,hd2⟩:=id p2;simp only at hc hd CS hd2;subst hc hd CS hd2;show concat_meets ⟨_,ho,O⟩ ⟨_,xt,O⟩ noFill_tuple_add seq_tuple_add PySem.F.slot_tuple_add PySem.F.entry_tuple_add (PySem.F.args_tuple_add_2 _ _) (Et a b cw.toArray n n2 dd A0 sl xi) ⟨ho,xt,.ref b,H,I,O,q⟩
theorem Ew:Ī X (binaryOp .Add) (λx y H Q=>∃a b xs ys,x=.ref a/\y=.ref b/\Ñ X.K H a xs/\Ñ X.K H b ys/\ys≠[]/\xs.length+ys.length<=sizeLine/\(xs=[]->Q (.ref b) H)/\(xs≠[]->∀p,H p=none->Q (.ref p) (upd H p (.tup (xs++ys))))):=by
 intro Á s σ H x y v u Q I rx ry h;obtain⟨a,b,xs,ys,rfl,rfl,ha,hb,hy,hz,q1,q2⟩:=h;by_cases hx:xs=[];.subst hx;show Eu Á s σ H _ _ v u Q I rx ry ⟨a,b,ys,O,O,ha,hb,q1 O⟩
 .exact ou Á s σ H _ _ v u Q I rx ry ⟨a,b,xs,ys,O,O,ha,hb,hx,hz,λz=>absurd z hy,λ_=>q2 hx⟩
end
section
open HT in
theorem kY{lo hi:Option Int}(ht:IsTup s.heap t items)(hs:s.heap.IsSliceOf sl vl vu .none)(pl:IsPart vl lo)(pu:IsPart vu hi)(h1:sIx items.size 0 lo=0)(h2:sIx items.size items.size hi=items.size)(h:Q (.ref t) s):wpAny `a A (getItem (.ref t) (.ref sl)) Q E s:=by
 obtain⟨os,xw,iL,CU⟩:=id hs;have Ki:s.TypeIs (.ref sl) "slice":=⟨os,xw,iL⟩;unfold getItem;try with_reducible apply wpAny_holding
 first|refine Ã (Ì ?_)|skip
 show Ã (wpAny_sequenceKey ht.typeIs á ?_);show Ã (wpAny_callSpecial?_slot (name:=Str.ofString "__getitem__") ht.typeIs PyProof.Rows.slot_tuple_getitem (wpAny_call_entry PyProof.Rows.slot_tuple_getitem ht.typeIs entry_tuple_getitem ?_ (args_tuple_getitem _ _)));show wpAny _ _ (Builtin.Tuple.tupleItemsOf (.ref t)>>=_) _ _ s;show Ã (tupleItemsOf_ ht ?_);show Ã (wpAny_typeOf Ki ?_);show Ã (gR hs pl pu ?_);rw[h1,h2];show wpAny _ _ (if((((0:Nat):Int))==0&&(1:Int)==1&&(items.size-0)==items.size)=true then _ else _) _ _ s;rw[Ê Õ];show Ã (Ã (wpAny_typeOf ht.typeIs (Ì ?_)));rw[Ê á];show Ã (wpAny_rule (Ì ⟨_,O,Ì h⟩))
end
section
inductive Z0p(K:Frag)(x:V)(lo:Option Int)(hi:Option Int)(H:Hp)(Q:VK):Prop|mk:∀a xs,(x=.ref a)->(Ñ K H a xs)->(((HT.sIx xs.length 0 lo=0/\HT.sIx xs.length xs.length hi=xs.length)->Q (.ref a) H))->((¬(HT.sIx xs.length 0 lo=0/\HT.sIx xs.length xs.length hi=xs.length)->∀p,H p=none->Q (.ref p) (upd H p (.tup (nJ xs lo hi)))))->Z0p K x lo hi H Q
def Qj(K:Frag):V->Option Int->Option Int->Hp->VK->Prop:=λx lo hi H Q=>Z0p K x lo hi H Q
theorem zZ:SlR X (Qj X.K):=by
 intro Á s σ H x v vl vu lo hi sl Q I rx hs pl pu h;obtain⟨a,xs,rfl,hx,q1,q2⟩:=h;by_cases hw:HT.sIx xs.length 0 lo=0/\HT.sIx xs.length xs.length hi=xs.length
 .cases rx;obtain⟨È,r,ht,hz⟩:=I.tuple hx;have hlen:È.toArray.size=xs.length:=by rw[ă];show r.length.symm
  show⟨"tuple",_,PyProof.Rows.slot_tuple_getitem.lookup,ht.typeIs,?_⟩;show kY ht hs pl pu (by rw[hlen];show hw.1) (by rw[hlen];show hw.2) ⟨.ref a,H,I,O,q1 hw⟩
 .exact Lh Á s σ H _ v vl vu lo hi sl Q I rx hs pl pu ⟨a,xs,O,hx,hw,q2 hw⟩
end
section
end
section
end
end L2
namespace L2.ZT
open PySem PySem.Spec PyProof.Rows L2
abbrev ι(h:Heap)(z TI TO:Addr)(f0 f1:Value):Prop:=h.get? z=some {cls:=.type "zip",dict:=none,data:=.fields #[f0,f1,.bool false,.ref TI,.ref TO],slots:=#[]}
def Ow(f0:Value):Prop:=f0=.none\/∃a:Nat,f0=rawInt a
section
variable{l1 l2 i1 i2 TI TO z:Addr}
theorem Z11(h:Q (s.heap.get? a) s):wpAny `a A (loadIfAlive a) Q E s:=λ_ _ _=>h
theorem O4(hf:Ow f0)(hz:ι s.heap z TI TO f0 (.bool f))(q1:Q true s)(q2:∀g0,f0≠.none->ι g0 z TI TO f0 (.bool true)->Heap.SameBut z s.heap g0->Q false {s with heap:=g0}):wpAny `a A (Builtin.SmallTypes.ownedTupleIsFree (.ref z)) Q E s:=by
 unfold Builtin.SmallTypes.ownedTupleIsFree;show Ã (wpAny_field hz O (x:=f0) O ?_);rcases hf with rfl|⟨a,rfl⟩;.exact Ì q1
 .replace q2:=λg0=>q2 g0 (λh=>by unfold rawInt at h;cases h);show wpAny _ _ (loadIfAlive ((a:Int).toNat)>>=_) _ _ _;refine Ã (Z11 ?_);cases(s.heap.get? ((a:Int).toNat)).isNone with|true=>rw[Ê O];exact Ì q1;|false=>rw[Ç Ō];refine Ã (wpAny_field hz O (x:=.bool f) O ?_);cases f with|true=>rw[Ç (show¬((Value.bool true !=Value.bool true)=true)from Ō)];exact Ì (q2 s.heap hz (Heap.SameBut.refl _ _));|false=>rw[Ê (show(Value.bool false !=Value.bool true)=true from O)];show Ã (wpAny_setField_rec hz Õ λg0 z0 s0=>Ì (q2 g0 z0 s0))
theorem Aa{Q:Ry}(D:ZipApart z TI TO i1 i2 l1 l2)(hf:Ow f0)(hz:ι s.heap z TI TO f0 (.bool f))(xE:IsPair s.heap TI (.ref i1) (.ref i2))(xI:∃a b,IsPair s.heap TO a b)(h1:Io t1 s.heap i1 l1 k)(h2:Io t2 s.heap i2 l2 k)(q1:Sq t1 s.heap l1 xs)(q2:Sq t2 s.heap l2 ys)(hx:xs[k]?=some x)(hy:ys[k]?=some y)(hQ:∀h' A5 f',Ow A5->(f0=.none->A5=rawInt s.heap.objs.size/\f'=false)->ι h' z TI TO A5 (.bool f')->(∃a b,IsPair h' TO a b)->Io t1 h' i1 l1 (k+1)->Io t2 h' i2 l2 (k+1)->IsPair h' s.heap.objs.size x y->h'.objs.size=s.heap.objs.size+1->(∀c o,c≠z->c≠TO->c≠i1->c≠i2->s.heap.get? c=some o->h'.get? c=some o)->Q (`g) `l):wpAny `a A (Builtin.«zip.__next__» ⟨[.ref z],[]⟩) (λr s'=>∃v,r=.done (.ret v)/\Q v s') E s:=by
 obtain⟨a,b,xI⟩:=xI;show wpAny _ _ (field (.ref z) 2>>=_) _ _ _;show Ã (wpAny_field hz O (x:=.bool false) O ?_);show wpAny _ _ (field (.ref z) 3>>=_) _ _ _;show Ã (wpAny_field hz O (x:=.ref TI) O (Ã (wpAny_seqItems xE O ?_)));show wpAny _ _ (Builtin.SmallTypes.ownedTupleIsFree (.ref z)>>=_) _ _ _;show Ã (O4 hf hz ?_ λg0 nf z0 s0=>?_)
 .simp only[if_true];show Ã (wpAny_rule (Ã (wpAny_field hz O (x:=.ref TO) O (Ã (wpAny_setField_rec hz Õ λg1 z1 s1=>?_)))));replace z1:ι g1 z TI TO .ellipsis (.bool f):=z1;apply Ã;simp only[List.zipIdx_cons,List.zipIdx_nil,List.forIn_cons,List.forIn_nil];show Ã (Ã (wpAny_onRaise ?_));show wpAny _ _ (Builtin.SmallTypes.nextOf (.ref i1)>>=_) _ _ _;show Ã (nx (h1.extBut s1.extBut D.i1z) (q1.extBut s1.extBut D.l1z) hx λg2 p1 s2=>Ì ?_);have o2:IsPair g2 TO a b:=s2.extBut _ _ D.TOi1 (s1.extBut _ _ D.TOz xI);show Ã (wpAny_seqItems o2 O (Ã (wpAny_updateSeq_pair o2 λg3 o3 s3=>?_)));replace o3:IsPair g3 TO x b:=o3;show Ã (wpAny_letGo (Ì (Ã (Ã (wpAny_onRaise ?_)))));show wpAny _ _ (Builtin.SmallTypes.nextOf (.ref i2)>>=_) _ _ _;have k3:∀d o,d≠z->d≠TO->d≠i1->s.heap.get? d=some o->g3.get? d=some o:=λd o n1 n2 n3 e=>s3.extBut _ _ n2 (s2.extBut _ _ n3 (s1.extBut _ _ n1 e));show Ã (nx (h2.at λo e=>k3 _ o D.i2z D.TOi2.symm D.i12.symm e) (q2.at λo e=>k3 _ o D.l2z D.l2TO D.l2i1 e) hy λg4 p2 s4=>Ì ?_);have o4:IsPair g4 TO x b:=s4.extBut _ _ D.TOi2 o3;show Ã (wpAny_seqItems o4 O (Ã (wpAny_updateSeq_pair o4 λg5 o5 s5=>?_)));replace o5:IsPair g5 TO x y:=o5;show Ã (wpAny_letGo (Ì (Ì (Ã (wpAny_seqItems o5 O (Ã (wpAny_newTuple ?_)))))));have hsz:g5.objs.size=s.heap.objs.size:=by rw[s5.1,s4.1,s3.1,s2.1,s1.1]
  have k5:∀d o,d≠TO->d≠i2->g3.get? d=some o->g5.get? d=some o:=λd o n1 n2 e=>s5.extBut _ _ n1 (s4.extBut _ _ n2 e);have z5:ι g5 z TI TO .ellipsis (.bool f):=k5 _ _ D.TOz.symm D.i2z.symm (s3.extBut _ _ D.TOz.symm (s2.extBut _ _ D.i1z.symm z1));have RB:z<g5.objs.size:=î z5;show wpAny _ _ (Builtin.SmallTypes.ownedTupleHandOut (.ref z) (.ref g5.objs.size)>>=_) _ _ _;apply Ã;unfold Builtin.SmallTypes.ownedTupleHandOut;have z6:ι (g5.push {cls:=.type "tuple",data:=.seq #[x,y]}) z TI TO .ellipsis (.bool f):=ò _ z5;show Ã (wpAny_setField_rec z6 Õ λg7 z7 s7=>?_);replace z7:ι g7 z TI TO (rawInt g5.objs.size) (.bool f):=z7;show wpAny_setField_rec z7 Õ λg8 z8 s8=>?_;replace z8:ι g8 z TI TO (rawInt g5.objs.size) (.bool false):=z8;have up:∀c o,c≠z->g5.get? c=some o->g8.get? c=some o:=λc o c1 e=>s8.extBut _ _ c1 (s7.extBut _ _ c1 (ò _ e));have t8:IsPair g8 g5.objs.size x y:=s8.extBut _ _ (Θ RB) (s7.extBut _ _ (Θ RB) (Ģ _ O));have n8:g8.objs.size=g5.objs.size+1:=by rw[s8.1,s7.1,Heap.size_push]
  rw[hsz]at z8 t8 n8;show Ì ⟨_,O,?_⟩;show Q (.ref g5.objs.size) _;rw[hsz];show hQ g8 _ false (.inr `i) (λ_=>⟨O,O⟩) z8 ⟨_,_,up _ _ D.TOz o5⟩ (p1.at λo e=>up _ o D.i1z (k5 _ o D.TOi1.symm D.i12 (s3.extBut _ _ D.TOi1.symm e))) (p2.at λo e=>up _ o D.i2z (s5.extBut _ _ D.TOi2.symm e)) t8 n8 λc o c1 c2 c3 c4 e=>up c o c1 (k5 c o c2 c4 (k3 c o c1 c2 c3 e))
 .simp only[Bool.false_eq_true,if_false,List.forIn_toArray,List.forIn_cons,List.forIn_nil];show Ã (Ã (Ã (wpAny_holding ?_)));show wpAny _ _ (Builtin.SmallTypes.nextOf (.ref i1)>>=_) _ _ _;show Ã (nx (h1.extBut s0.extBut D.i1z) (q1.extBut s0.extBut D.l1z) hx λg1 p1 s1=>Ì (Ì ?_));have k1:∀d o,d≠z->d≠i1->s.heap.get? d=some o->g1.get? d=some o:=λd o n1 n2 e=>s1.extBut _ _ n2 (s0.extBut _ _ n1 e);show Ã (Ã (wpAny_holding ?_));show wpAny _ _ (Builtin.SmallTypes.nextOf (.ref i2)>>=_) _ _ _;show Ã (nx (h2.at λo e=>k1 _ o D.i2z D.i12.symm e) (q2.at λo e=>k1 _ o D.l2z D.l2i1 e) hy λg2 p2 s2=>Ì (Ì (Ì ?_)));have k2:∀d o,d≠z->d≠i1->d≠i2->s.heap.get? d=some o->g2.get? d=some o:=λd o n1 n2 n3 e=>s2.extBut _ _ n3 (k1 _ _ n1 n2 e);show Ã (wpAny_newTuple (hsz:=by show 2<=sizeLine;decide) ?_);have hsz:g2.objs.size=s.heap.objs.size:=by rw[s2.1,s1.1,s0.1]
  have z3:ι g2 z TI TO f0 (.bool true):=s2.extBut _ _ D.i2z.symm (s1.extBut _ _ D.i1z.symm z0);have tn:IsPair (g2.push {cls:=.type "tuple",data:=.seq #[x,y]}) g2.objs.size x y:=Ģ _ O;have RC:(g2.push {cls:=.type "tuple",data:=.seq #[x,y]}).objs.size=g2.objs.size+1:=Heap.size_push ..;rw[hsz]at tn RC;show Ì ⟨_,O,?_⟩;show Q (.ref g2.objs.size) _;rw[hsz];show hQ _ f0 true hf (λe=>absurd e nf) (ò _ z3) ⟨_,_,ò _ (k2 _ _ D.TOz D.TOi1 D.TOi2 xI)⟩ (p1.at λo e=>ò _ (s2.extBut _ _ D.i12 e)) (p2.at λo e=>ò _ e) tn RC λd o n1 n2 n3 n4 e=>ò _ (k2 _ _ n1 n3 n4 e)
theorem Ex(hh:A.handled=none)(D:ZipApart z TI TO i1 i2 l1 l2)(hf:Ow f0)(hz:ι s.heap z TI TO f0 (.bool f))(xE:IsPair s.heap TI (.ref i1) (.ref i2))(h1:Io t1 s.heap i1 l1 k)(q1:Sq t1 s.heap l1 xs)(hx:xs[k]?=none)(hE:∀h' x,(∀c o,c≠z->c≠i1->s.heap.get? c=some o->h'.get? c=some o)->(∃o,h'.get? x=some o/\o.cls=.type "StopIteration")->E (.ref x) `l):wpAny `a A (Builtin.«zip.__next__» ⟨[.ref z],[]⟩) Q E s:=by
 show wpAny _ _ (field (.ref z) 2>>=_) _ _ _;show Ã (wpAny_field hz O (x:=.bool false) O ?_);show wpAny _ _ (field (.ref z) 3>>=_) _ _ _;show Ã (wpAny_field hz O (x:=.ref TI) O (Ã (wpAny_seqItems xE O ?_)));show wpAny _ _ (Builtin.SmallTypes.ownedTupleIsFree (.ref z)>>=_) _ _ _;show Ã (O4 hf hz ?_ λg0 _ z0 s0=>?_)
 .simp only[if_true];show Ã (wpAny_rule (Ã (wpAny_field hz O (x:=.ref TO) O (Ã (wpAny_setField_rec hz Õ λg1 z1 s1=>?_)))));replace z1:ι g1 z TI TO .ellipsis (.bool f):=z1;apply Ã;simp only[List.zipIdx_cons,List.zipIdx_nil,List.forIn_cons,List.forIn_nil];show Ã (Ã (wpAny_onRaise ?_));show wpAny _ _ (Builtin.SmallTypes.nextOf (.ref i1)>>=_) _ _ _;show Ã (uO hh (h1.extBut s1.extBut D.i1z) (q1.extBut s1.extBut D.l1z) hx λg2 x s2 he=>?_);obtain⟨oe,Lv,RD⟩:=he;have z2:ι g2 z TI TO .ellipsis (.bool f):=s2 _ _ D.i1z.symm z1;have U5:x≠z:=λq=>by subst q;rw[z2]at Lv;cases Lv;simp at RD
  show wpAny_setField_rec z2 Õ λg3 _ s3=>?_;show hE g3 x (λc o n1 n2 q=>s3.extBut _ _ n1 (s2 _ _ n2 (s1.extBut _ _ n1 q))) ⟨oe,s3.extBut _ _ U5 Lv,RD⟩
 .simp only[Bool.false_eq_true,if_false,List.forIn_toArray,List.forIn_cons,List.forIn_nil];show Ã (Ã (Ã (wpAny_holding ?_)));show wpAny _ _ (Builtin.SmallTypes.nextOf (.ref i1)>>=_) _ _ _;show Ã (uO hh (h1.extBut s0.extBut D.i1z) (q1.extBut s0.extBut D.l1z) hx λg1 x s1 he=>hE g1 x (λd o n1 n2 y=>s1 _ _ n2 (s0.extBut _ _ n1 y)) he)
theorem wk(D:ZipApart z TI TO i1 i2 l1 l2)(hz:IsZip s.heap z TI TO .none)(xE:IsPair s.heap TI (.ref i1) (.ref i2))(xI:IsPair s.heap TO a b)(h1:Io t1 s.heap i1 l1 k)(h2:Io t2 s.heap i2 l2 k)(fI:Sq t1 s.heap l1 xs)(gu:Sq t2 s.heap l2 ys)(hx:xs[k]?=some x)(hy:ys[k]?=some y)(hQ:∀h',IsZip h' z TI TO (rawInt s.heap.objs.size)->(∃a b,IsPair h' TO a b)->Io t1 h' i1 l1 (k+1)->Io t2 h' i2 l2 (k+1)->IsPair h' s.heap.objs.size x y->h'.objs.size=s.heap.objs.size+1->(∀c o,c≠z->c≠TO->c≠i1->c≠i2->s.heap.get? c=some o->h'.get? c=some o)->Q (some (`g)) `l):wpAny `a A (pyNext (.ref z)) Q E s:=by have hT:s.TypeIs (.ref z) "zip":=⟨_,hz,O⟩;unfold pyNext;show Ã (wpAny_attempt (wpAny_callSpecial?_slot (name:=Str.ofString "__next__") hT F.slot_zip_next (wpAny_call_entry F.slot_zip_next hT F.entry_zip_next (Aa D (.inl O) hz xE ⟨_,_,xI⟩ h1 h2 fI gu hx hy λh' A5 f' _ e z1 o1 p1 p2 t1 n1 kp=>?_) (F.args_zip_next_1 _))));obtain⟨rfl,rfl⟩:=e O;show Ì (hQ h' z1 o1 p1 p2 t1 n1 kp)
theorem yx(hh:A.handled=none)(D:ZipApart z TI TO i1 i2 l1 l2)(hz:IsZip s.heap z TI TO .none)(xE:IsPair s.heap TI (.ref i1) (.ref i2))(xI:IsPair s.heap TO a b)(h1:Io t1 s.heap i1 l1 k)(fI:Sq t1 s.heap l1 xs)(hx:xs[k]?=none)(hQ:∀h',(∀c o,c≠z->c≠i1->s.heap.get? c=some o->h'.get? c=some o)->Q none `l):wpAny `a A (pyNext (.ref z)) Q E s:=by have hT:s.TypeIs (.ref z) "zip":=⟨_,hz,O⟩;unfold pyNext;show Ã (wpAny_attempt (wpAny_callSpecial?_slot (name:=Str.ofString "__next__") hT F.slot_zip_next (wpAny_call_entry F.slot_zip_next hT F.entry_zip_next (Ex hh D (.inl O) hz xE h1 fI hx λh' x kp he=>?_) (F.args_zip_next_1 _))));show Ã (wpAny_isInstance (T:="StopIteration") (b:=true) he isSubtype_stop (Ì (hQ _ kp)))
end
abbrev zA(t1:Bool)(h:Heap)(t:Addr):Heap:=h.push {cls:=.type (nm t1),data:=.fields #[.ref t,.int 0 0]}
abbrev zB(t1 t2:Bool)(h:Heap)(t l:Addr):Heap:=(zA t1 h t).push {cls:=.type (nm t2),data:=.fields #[.ref l,.int 0 0]}
abbrev zC(t1 t2:Bool)(h:Heap)(t l:Addr):Heap:=(zB t1 t2 h t l).push {cls:=.type "tuple",data:=.seq #[.ref h.objs.size,.ref (zA t1 h t).objs.size]}
abbrev zD(t1 t2:Bool)(h:Heap)(t l:Addr):Heap:=(zC t1 t2 h t l).push {cls:=.type "tuple",data:=.seq #[.none,.none]}
abbrev zE(t1 t2:Bool)(h:Heap)(t l:Addr):Heap:=(zD t1 t2 h t l).push {cls:=.type "zip",data:=.fields #[.none,.bool false,.bool false,.ref (zB t1 t2 h t l).objs.size,.ref (zC t1 t2 h t l).objs.size]}
theorem uP(t l:Addr)(xs ys:Qa3):Meets (Builtin.«zip.__new__» ⟨[.type "zip",.ref t,.ref l],[]⟩) (λ_ R s=>Sq t1 s.heap t xs/\Sq t2 s.heap l ys/\R (.ok (.ret (.ref (zD t1 t2 s.heap t l).objs.size))) {s with heap:=zE t1 t2 s.heap t l}):=.of_wp λprog w A R s h=>by obtain⟨hp,g,d,tk,os⟩:=s;obtain⟨ht,hl,h⟩:=h;have rq:=sub_zip;have hT:Sq t1 (Shared.heap ⟨hp,g,d,tk,os⟩) t xs:=ht;have hL:Sq t2 (Shared.heap ⟨hp.push {cls:=.type (nm t1),data:=.fields #[.ref t,.int 0 0]},g,d,tk,os⟩) l ys:=hl.at λo e=>ò _ e;wp_walk using pP hT,pP hL;show⟨_,O,h⟩
theorem call_zip_tt{s:Shared}(ht:Sq t1 s.heap t xs)(hl:Sq t2 s.heap l ys)(h:∀h',IsZip h' (s.heap.objs.size+4) (s.heap.objs.size+2) (s.heap.objs.size+3) .none->IsPair h' (s.heap.objs.size+2) (`g) (.ref (s.heap.objs.size+1))->IsPair h' (s.heap.objs.size+3) .none .none->Io t1 h' s.heap.objs.size t 0->Io t2 h' (s.heap.objs.size+1) l 0->(∀c o,s.heap.get? c=some o->h'.get? c=some o)->Q (.ref (s.heap.objs.size+4)) `l):wpAny `a A (call (.type "zip") [.ref t,.ref l]) Q E s:=by
 show callType_new F.called_zip á (F.typeCall_zip_2 _ _) (F.newCall_zip_2 _ _) (λobj=>F.args_object_init_3 obj _ _) F.entry_zip_new (uP t l xs ys) ⟨ht,hl,?_⟩;have e1:(zA t1 s.heap t).objs.size=s.heap.objs.size+1:=Heap.size_push ..;have e2:(zB t1 t2 s.heap t l).objs.size=s.heap.objs.size+2:=by rw[Heap.size_push,e1]
 have e3:(zC t1 t2 s.heap t l).objs.size=s.heap.objs.size+3:=by rw[Heap.size_push,e2]
 have e4:(zD t1 t2 s.heap t l).objs.size=s.heap.objs.size+4:=by rw[Heap.size_push,e3]
 have RE:∀{c o},(zD t1 t2 s.heap t l).get? c=some o->(zE t1 t2 s.heap t l).get? c=some o:=λe=>ò _ e;have RF:∀{c o},(zC t1 t2 s.heap t l).get? c=some o->(zE t1 t2 s.heap t l).get? c=some o:=λe=>RE (ò _ e);have RG:∀{c o},(zB t1 t2 s.heap t l).get? c=some o->(zE t1 t2 s.heap t l).get? c=some o:=λe=>RF (ò _ e);have up1:∀{c o},(zA t1 s.heap t).get? c=some o->(zE t1 t2 s.heap t l).get? c=some o:=λe=>RG (ò _ e);have g5:(zE t1 t2 s.heap t l).get? (zD t1 t2 s.heap t l).objs.size=some _:=Ģ _ O;have g4:(zE t1 t2 s.heap t l).get? (zC t1 t2 s.heap t l).objs.size=some _:=RE (Ģ _ O);have g3:(zE t1 t2 s.heap t l).get? (zB t1 t2 s.heap t l).objs.size=some _:=RF (Ģ _ O);have g2:(zE t1 t2 s.heap t l).get? (zA t1 s.heap t).objs.size=some _:=RG (Ģ _ O);have g1:(zE t1 t2 s.heap t l).get? s.heap.objs.size=some _:=up1 (Ģ _ O);rw[e4,e2,e3]at g5;rw[e2,e1]at g3;rw[e3]at g4;rw[e1]at g2;rw[e4];show⟨⟨_,g5,O⟩,h _ g5 g3 g4 ⟨_,g1,O,O⟩ ⟨_,g2,O,O⟩ λc o x=>up1 (ò _ x)⟩
def Itz(t1 t2:Bool)(K:Frag)(a b:Addr):It:=⟨λi H=>∃xs ys x y,SQ t1 K H a xs/\SQ t2 K H b ys/\xs[i]?=some x/\ys[i]?=some y,λi H v H'=>∃T,H T=none/\v=.ref T/\∀xs ys,SQ t1 K H a xs->SQ t2 K H b ys->∃x y,xs[i]?=some x/\ys[i]?=some y/\H'=upd H T (.tup [x,y]),λi H=>∃xs,SQ t1 K H a xs/\xs.length<=i⟩
def tnz(t1 t2:Bool)(z TI TO i1 i2 a b:Addr)(i:Nat)(h:Heap):Prop:=IsZip h z TI TO .none/\IsPair h TI (.ref i1) (.ref i2)/\(∃u v,IsPair h TO u v)/\Io t1 h i1 a i/\Io t2 h i2 b i
theorem Ey{K:Frag}{z TI TO i1 i2 a b:Addr}(D:ZipApart z TI TO i1 i2 a b):į P w K (.Tuple es k pos) (Itz t1 t2 K a b) [z,TI,TO,i1,i2] z (tnz t1 t2 z TI TO i1 i2 a b)where
 mem:=by simp
 obj:=λi h st c hc=>by
  obtain⟨s1,s2,⟨u,v,s3⟩,⟨o4,s4,c4,d4⟩,⟨o5,s5,c5,d5⟩⟩:=st;simp only[List.mem_cons,List.not_mem_nil,or_false]at hc;rcases hc with e|e|e|e|e<;>subst e;.exact⟨_,s1,λv q=>by cases q⟩
  .exact⟨_,s2,λv q=>by cases q⟩
  .exact⟨_,s3,λv q=>by cases q⟩
  .exact⟨_,s4,λv q=>by rw[d4]at q;cases q⟩
  .exact⟨_,s5,λv q=>by rw[d5]at q;cases q⟩
 keep:=λi h h' st kp=>by obtain⟨s1,s2,⟨u,v,s3⟩,s4,s5⟩:=st;show⟨kp z Õ _ s1,kp TI Õ _ s2,⟨u,v,kp TO Õ _ s3⟩,s4.at λo e=>kp i1 Õ o e,s5.at λo e=>kp i2 Õ o e⟩
 item:=by
  show`k;obtain⟨s1,s2,⟨u,v,s3⟩,s4,s5⟩:=st;obtain⟨xs,ys,x,y,ku,rL,hx,hy⟩:=hg;obtain⟨È,rv,p,_⟩:=nH I ku;obtain⟨LA,dS,q,_⟩:=nH I rL;obtain⟨ux,A4,rx⟩:=rv.get hx;obtain⟨uy,LB,ry⟩:=dS.get hy;show wk D s1 s2 s3 s4 s5 p q (x:=ux) (y:=uy) (by simpa using A4) (by simpa using LB) λh1 g1 g2 g3 g4 g5 g6 kp=>?_;show⟨_,O,?_⟩;show wpAny_letOwnedTupleGo_zip g1 λh2 e1 sb=>?_;have ne:∀c,c∈[z,TI,TO,i1,i2]->c≠s.heap.objs.size:=λc aI e=>by
   obtain⟨f0,f1,f2,f3,f4,f5⟩:=hf c aI;have:∃o,s.heap.get? c=some o:=by
    simp only[List.mem_cons,List.not_mem_nil,or_false]at aI;rcases aI with q|q|q|q|q<;>subst q;.exact⟨_,s1⟩
    .exact⟨_,s2⟩
    .exact⟨_,s3⟩
    .obtain⟨o,h,_⟩:=s4;show⟨o,h⟩
    .obtain⟨o,h,_⟩:=s5;show⟨o,h⟩
   obtain⟨o,ho⟩:=this;show absurd (î ho) (by rw[e];show ϯ _)
  have hT:H s.heap.objs.size=none:=I.hok.fresh (Ø _);have kept:∀c o,c∉[z,TO,i1,i2]->s.heap.get? c=some o->h2.get? c=some o:=λc o aI e=>sb.extBut _ _ (λq=>aI (by simp[q])) (kp c o (λq=>aI (by simp[q])) (λq=>aI (by simp[q])) (λq=>aI (by simp[q])) (λq=>aI (by simp[q])) e);have LD:∀c,c∈[z,TO,i1,i2]->c∈[z,TI,TO,i1,i2]:=λc aI=>by simp only[List.mem_cons,List.not_mem_nil,or_false]at aI⊢;rcases aI with q|q|q|q<;>simp[q]
  have mT:h2.get? s.heap.objs.size=some {cls:=.type "tuple",data:=.seq #[ux,uy]}:=sb.extBut _ _ (Ne.symm (ne z Õ)) g5;have I2:É X Á σ (upd H s.heap.objs.size (.tup [x,y])) {s with heap:=h2}:=zW (t':=s.toks) [z,TO,i1,i2] I hf LD kept (by show 2<=sizeLine;decide) (.cons rx (.cons ry .nil)) mT;show⟨`g,_,I2,O,⟨s.heap.objs.size,hT,O,λRA gv vc xS=>⟨x,y,?_,?_,O⟩⟩,⟨e1,?_,?_,?_,?_⟩,λc aI=>?_⟩;.rw[yw I vc ku];show hx
  .rw[yw I xS rL];show hy
  .exact sb.extBut _ _ D.TIz (kp _ _ D.TIz D.TITO D.TIi1 D.TIi2 s2)
  .obtain⟨u,v,g2⟩:=g2;show⟨_,_,sb.extBut _ _ D.TOz g2⟩
  .exact g3.extBut sb.extBut D.i1z
  .exact g4.extBut sb.extBut D.i2z
  .rw[au (ne c aI)];show(hf c aI).1
 done:=by
  show`k;obtain⟨s1,s2,⟨u,v,s3⟩,s4,s5⟩:=st;obtain⟨xs,ku,hlen⟩:=hg;obtain⟨È,rv,p,_⟩:=nH I ku;have hl:=rv.length;show yx (I.ok.hd hc) D s1 s2 s3 s4 p (by simp;lia) λh' kp=>⟨O,?_⟩;show ů (t':=s.toks) [z,i1] I hf (λc aI=>?_) (λc o hn e=>kp c o (λq=>hn (by simp[q])) (λq=>hn (by simp[q])) e) (λq=>q) λc o q n=>?_;.simp only[List.mem_cons,List.not_mem_nil,or_false]at aI⊢;rcases aI with q|q<;>simp[q]
  .rw[n]at q;cases q
 self:=λ_ _ _ _ _ st h=>wpAny_pyIter_zip st.1 h
section
def Qk(t1 t2:Bool)(K:Frag)(t:TA):TI:=λσ H R=>t σ H λvs H1=>∃a b xs ys,vs=[.ref a,.ref b]/\SQ t1 K H1 a xs/\SQ t2 K H1 b ys/\R (Itz t1 t2 K a b) H1
theorem pi_zip(t1 t2:Bool){es:Qa4}{k:Nat}{tp:Pos}{p pos:Pos}(hg:Gl X "zip")(hm:X.mg "zip"=none)(ha:PA X [a,b] ta)(hs:starEach [a,b] X.env=[(false,eval a X.env),(false,eval b X.env)]:=by rfl)(tS:starEach [b] X.env=[(false,eval b X.env)]:=by rfl):PI X (.Tuple es k tp) (.Call (.Name "zip" p) [a,b] [] pos) (Qk t1 t2 X.K ta):=by
 intro Á s σ H R I h;show Call_ (iw I hg hm boot_zip (PyProof.Rows.callWith_type1 (Û (ha pos Á s σ H _ I h) λus s1=>?_) (by rw[hs,tS]) (by rw[tS];rfl)));rintro⟨vs,H1,I1,r1,q1⟩;obtain⟨x,y,xs,ys,e,hx,hy,q⟩:=q1;subst e;obtain⟨u,v,rfl,ru,rv⟩:=Ŝ r1;cases ru;cases rv;obtain⟨È,_,p1,_⟩:=nH I1 hx;obtain⟨LA,_,p2,_⟩:=nH I1 hy;show call_zip_tt p1 p2 λh' z1 z2 z3 z4 z5 kp=>?_;apply wpAny_pyIter_zip z1;have lx:x<s1.heap.objs.size:=by obtain⟨_,e,_⟩:=p1;show î e
 have ly:y<s1.heap.objs.size:=by obtain⟨_,e,_⟩:=p2;show î e
 show⟨_,_,_,_,H1,O,I1.kept (t':=s1.toks) kp,Ey (zipApart_new lx ly),⟨z1,z2,⟨_,_,z3⟩,z4,z5⟩,λc hc=>?_,q⟩;have hle:s1.heap.objs.size<=c:=by grind
 show I1.fpOk hle (I1.hok.fresh hle)
end
theorem for_zip{K:Frag}{g:TG}{tb:TS}{D:œ}{σ:St}{H:Hp}(Pv:Nat->St->Hp->Prop)(he:xs.length=ys.length)(h0:Pv 0 σ H)(hl:∀i σ H,i<=xs.length->Pv i σ H->SQ t1 K H a xs/\SQ t2 K H b ys)(hs:∀i x y σ H T,xs[i]?=some x->ys[i]?=some y->Pv i σ H->H T=none->g (.ref T) σ (upd H T (.tup [x,y])) λay H2=>tb {D with nx:=Pv (i+1),ct:=Pv (i+1),bk:=D.nx} ay H2)(hd:∀σ H,Pv xs.length σ H->D.nx σ H):∃W:Nat->Nat->St->Hp->Prop,(∃m,W 0 m σ H)/\∀i m σ H,W i m σ H->((Itz t1 t2 K a b).stop i H/\D.nx σ H)\/((Itz t1 t2 K a b).go i H/\∃N,(∀af H',N af H'->∃m',m'<m/\W (i+1) m' af H')/\∀x H',(Itz t1 t2 K a b).yld i H x H'->g x σ H' λay H2=>tb {D with nx:=N,ct:=N,bk:=D.nx} ay H2):=by
 show⟨λi m σ H=>m=xs.length-i/\i<=xs.length/\Pv i σ H,⟨xs.length,by simp,Ė _,h0⟩,?_⟩;rintro i m σ H⟨rfl,hi,p⟩;obtain⟨q1,q2⟩:=hl i σ H hi p;by_cases ax:i<xs.length;.have nr:i<ys.length:=À;show .inr ⟨⟨xs,ys,xs[i],ys[i],q1,q2,by simp[ax],by simp[nr]⟩,Pv (i+1),λaf H' p'=>⟨xs.length-(i+1),À,O,ax,p'⟩,λv H' y=>?_⟩;obtain⟨T,nT,rfl,y⟩:=y;obtain⟨x,z,ex,ez,rfl⟩:=y xs ys q1 q2;show hs i x z σ H T ex ez p nT
 .have e:i=xs.length:=À;subst e;show .inl ⟨⟨xs,q1,Ø _⟩,hd σ H p⟩
end L2.ZT
namespace L2
open PySem PySem.Spec PyProof.Rows PySem.Calls
section
theorem cY(hc:X.calm=true):cZ X (.builtin "sum") (λxs H Q=>∃(p:Addr)(ns:VV),xs=[.ref p]/\(Ë X.K H p (ns.map V.int)\/Ñ X.K H p (ns.map V.int))/\Q (.int ns.sum) H):=by
 intro Á s σ H xs us Q I r h;obtain⟨p,ns,rfl,hq,q⟩:=h;obtain⟨u,rfl,ru⟩:=ô r;cases ru;have go:∀È:ó,Î (ns.map V.int) È->∃zs:Array (Int×Tok),È.toArray=intItems zs/\preSum (numAt zs) zs.size=ns.sum:=λÈ rv=>by have hi:IntsAre È ns:=Ĵ rv;obtain⟨zs,ez⟩:=(hi.allInts:AllInts È.toArray).items;show⟨zs,ez,?_⟩;have en:numsOf È.toArray.toList=ns:=hi.numsOf;rw[ez,nums_intItems]at en;rw[preSum_eq,θ Õ,en]
 rcases hq with hq|hq;.obtain⟨È,rv,pl,hz⟩:=I.list hq;obtain⟨zs,ez,es⟩:=go È rv;show sum_intListG (I.ok.hd hc) (ez▸pl.isList) λh' tk t' hk=>?_;rw[es];show⟨.int _,H,I.kept (t':=tk) hk,⟨t',O⟩,q⟩
 .obtain⟨È,rv,pl,hz⟩:=I.tuple hq;obtain⟨zs,ez,es⟩:=go È rv;have ht:s.heap.IsTuple p È.toArray:=pl;show PySem.W.ktm_sumG (I.ok.hd hc) (ez▸ht) λh' tk t' hk=>?_;rw[es];show⟨.int _,H,I.kept (t':=tk) hk,⟨t',O⟩,q⟩
end
section
open PySem.W
end
section
end
end L2
namespace Srt
open PySem PyProof.Rows
def gH:Bool->Keyed->`h->Nat->Nat->Nat->StateT SortSt Sem (Option Nat):=sortPriv%PySem.Builtin.gallop
section
def O5(prog:Program)(w:World)(A:Around)(E:Ry)(s:Shared)(κ:Ś)(st:SortSt):Prop:=∀x y a b Q,κ.keyOf x.1=some a->κ.keyOf y.1=some b->Q (some (κ.blt a b)) st->wpS `a A E s (lt' x y) Q st
theorem bA{st:SortSt}(e:arr[i]?=some p)(h:Q p st):wpS `a A E s (elem' arr i) Q st:=by rw[elem'_eq,e];show ã h
def bey(κ:Ś)(left:Bool)(k:κ.α)(x:κ.α):Bool:=if left then κ.blt x k else !(κ.blt k x)
theorem sB{r l m k x:Nat}(h:r-l<=k-x)(p:l<=m):r-(m+1)<=k-(x+1):=ř (Nat.sub_le_sub_left (Nat.succ_le_succ p) r) (Nat.pred_le_pred h)
theorem sw{r l m k x:Nat}(h:r-l<=k-x)(p:l<=m)(q:m<r):m-l<=k-(x+1):=Nat.le_sub_one_of_lt (Ŭ (Nat.sub_lt_sub_right p q) h)
theorem eV{st:SortSt}(hL:O5 prog w A E s κ st)(hk:κ.keyOf key.1=some kk)(hn:h<n)(kM:∀i,i<n->∃p a,arr[b+i]?=some p/\κ.keyOf p.1=some a/\KK κ arr (b+i)=a)(hm:∀i j,i<=j->j<n->bey κ left kk (KK κ arr (b+j))=true->bey κ left kk (KK κ arr (b+i))=true)(q:∀k,k<=n->(∀i,i<k->bey κ left kk (KK κ arr (b+i))=true)->(∀i,k<=i->i<n->bey κ left kk (KK κ arr (b+i))=false)->Q (some k) st):wpS `a A E s (gH left key arr b n h) Q st:=by
 have kN:∀(i:Nat)(R:Option Bool->SortSt->Prop),i<n->R (some (bey κ left kk (KK κ arr (b+i)))) st->wpS `a A E s (do let x<-elem' arr (b+i)if left=true then lt' x key else do
    let r<-lt' key x
    pure (Option.map (λx=>!x) r)) R st:=λi R hi hR=>by obtain⟨p,a,e1,e2,e3⟩:=kM i hi;refine Þ (bA e1 ?_);unfold bey at hR;rw[e3]at hR;cases left with|true=>rw[Ê O];exact hL _ _ _ _ _ e2 hk hR;|false=>rw[Ç á];show Þ (hL _ _ _ _ _ hk e2 (ã hR))
 generalize U6:(λi=>bey κ left kk (KK κ arr (b+i)))=β;have LF:∀i,bey κ left kk (KK κ arr (b+i))=β i:=λi=>by rw[<-U6]
 simp only[LF]at kN hm q
 delta gH;show Þ (kN h _ hn ?_);cases e0:β h with|true=>
  dsimp only;rw[Ê O];show Þ (wpS_mono (wpS_forRange (I:=λx c Æ=>Æ=st/\c.1=none/\c.2.1<c.2.2/\c.2.1<n-h/\x<c.2.2/\β (h+c.2.1)=true) (Q:=λc Æ=>Æ=st/\c.1=none/\c.2.1<c.2.2/\c.2.1<n-h/\β (h+c.2.1)=true/\(c.2.2≥n-h\/(c.2.2<n-h/\β (h+c.2.2)=false))) ?_ ?_ ⟨O,O,(by show 0<1;decide),(by show 0<n-h;lia),(by show 0<1;decide),(show β (h+0)=true from e0)⟩) ?_)
  .rintro x⟨c0,l,o⟩Æ _ hx⟨rfl,rfl,g1,g2,g3,g4⟩;dsimp only at g1 g2 g3 g4⊢;by_cases ho:o≥n-h;.rw[Ê ho];show ã ⟨O,O,g1,g2,g4,.inl ho⟩
   .rw[Ç ho];refine Þ (kN (h+o) _ À ?_);cases eb:β (h+o)with|true=>dsimp only;rw[Ç á];exact ã ⟨O,O,by dsimp only;lia,by dsimp only;lia,by dsimp only;lia,eb⟩;|false=>dsimp only;rw[Ê á];show ã ⟨O,O,g1,g2,g4,.inr ⟨by dsimp only;lia,eb⟩⟩
  .rintro⟨c0,l,o⟩Æ⟨rfl,rfl,g1,g2,g3,g4⟩;dsimp only at g1 g2 g3 g4⊢;show⟨O,O,g1,g2,g4,.inl À⟩
  .rintro⟨c0,l,o⟩Æ⟨rfl,rfl,g1,g2,g4,g5⟩;dsimp only at g1 g2 g4 g5⊢;have w4:∀i,h+min o (n-h)<=i->i<n->β i=false:=λi hi kP=>by
    rcases g5 with g5|⟨g5,g6⟩;.rw[Nat.min_eq_right g5]at hi;lia
    .rw[Nat.min_eq_left (Zby g5)]at hi;cases e2:β i with|false=>rfl;|true=>have:=hm _ i hi kP e2;rw[g6]at this;cases this
   obtain⟨lo,fE⟩:∃lo,lo=h+l+1:=`i;obtain⟨hi,l7⟩:∃hi,hi=h+min o (n-h):=`i;have w1:lo<=hi:=by rw[fE,l7];show Nat.add_le_add_left (Nat.le_min.mpr ⟨g1,g2⟩) h
   have w2:hi<=n:=by rw[l7];have:=Nat.min_le_right o (n-h);lia
   have w3:∀i,i<lo->β i=true:=λi hi=>hm i (h+l) À À g4;have w4:∀i,hi<=i->i<n->β i=false:=by rw[l7];show w4
   rw[<-fE,<-l7];show Þ (wpS_mono (wpS_forRange (I:=λx c e8=>e8=Æ/\c.1=none/\c.2.1<=c.2.2/\c.2.2<=n/\c.2.2-c.2.1<=n-x/\(∀i,i<c.2.1->β i=true)/\(∀i,c.2.2<=i->i<n->β i=false)) (Q:=λc e8=>e8=Æ/\c.1=none/\c.2.2<=n/\(∀i,i<c.2.2->β i=true)/\(∀i,c.2.2<=i->i<n->β i=false)) ?_ ?_ ⟨O,O,w1,w2,(by show hi-lo<=n-0;lia),w3,w4⟩) ?_)
   .rintro x⟨c0,l,r⟩e8 _ hx⟨rfl,rfl,g1,g2,g3,g4,g5⟩;dsimp only at g1 g2 g3 g4 g5⊢;by_cases kQ:l≥r;.rw[Ê kQ];have e:l=r:=À;show ã ⟨O,O,g2,by rw[<-e];show g4,g5⟩
    .rw[Ç kQ];obtain⟨m,em,m1,m2⟩:∃m,m=l+(r-l)/2/\l<=m/\m<r:=⟨_,O,Nat.le_add_right ..,by have:=Nat.div_lt_self (n:=r-l) (k:=2) À á;lia⟩;rw[<-em];clear em;refine Þ (kN m _ À ?_);cases eb:β m with|true=>dsimp only;rw[Ê O];exact ã ⟨O,O,by dsimp only;lia,g2,sB g3 m1,λi hi=>hm i _ (by dsimp only at hi;lia) À eb,g5⟩;|false=>dsimp only;rw[Ç á];refine ã ⟨O,O,m1,by dsimp only;lia,sw g3 m1 m2,g4,λi hi kP=>?_⟩;cases e2:β i with|false=>rfl;|true=>have:=hm m i hi kP e2;rw[eb]at this;cases this
   .rintro⟨c0,l,r⟩e8⟨rfl,rfl,g1,g2,g3,g4,g5⟩;dsimp only at g1 g2 g3 g4 g5⊢;have e:l=r:=À;show⟨O,O,g2,by rw[<-e];show g4,g5⟩
   .rintro⟨c0,l,r⟩e8⟨rfl,rfl,g1,g2,g3⟩;exact ã (q _ g1 g2 g3);|false=>
  dsimp only;rw[Ç á];show Þ (wpS_mono (wpS_forRange (I:=λx c Æ=>Æ=st/\c.1=none/\c.2.1<c.2.2/\c.2.1<h+1/\x<c.2.2/\β (h-c.2.1)=false) (Q:=λc Æ=>Æ=st/\c.1=none/\c.2.1<c.2.2/\c.2.1<h+1/\β (h-c.2.1)=false/\(c.2.2≥h+1\/(c.2.2<h+1/\β (h-c.2.2)=true))) ?_ ?_ ⟨O,O,(by show 0<1;decide),(by show 0<h+1;lia),(by show 0<1;decide),(show β (h-0)=false from e0)⟩) ?_)
  .rintro x⟨c0,l,o⟩Æ _ hx⟨rfl,rfl,g1,g2,g3,g4⟩;dsimp only at g1 g2 g3 g4⊢;by_cases ho:o≥h+1;.rw[Ê ho];show ã ⟨O,O,g1,g2,g4,.inl ho⟩
   .rw[Ç ho];refine Þ (kN (h-o) _ À ?_);cases eb:β (h-o)with|false=>dsimp only;rw[Ç á];exact ã ⟨O,O,by dsimp only;lia,by dsimp only;lia,by dsimp only;lia,eb⟩;|true=>dsimp only;rw[Ê O];show ã ⟨O,O,g1,g2,g4,.inr ⟨by dsimp only;lia,eb⟩⟩
  .rintro⟨c0,l,o⟩Æ⟨rfl,rfl,g1,g2,g3,g4⟩;dsimp only at g1 g2 g3 g4⊢;show⟨O,O,g1,g2,g4,.inl À⟩
  .rintro⟨c0,l,o⟩Æ⟨rfl,rfl,g1,g2,g4,g5⟩;dsimp only at g1 g2 g4 g5⊢;have w3:∀i,i<h+1-min o (h+1)->β i=true:=λi hi=>by
    rcases g5 with g5|⟨g5,g6⟩;.lia
    .exact hm i (h-o) À À g6
   have w4:∀i,h-l<=i->i<n->β i=false:=λi hi kP=>by cases e2:β i with|false=>rfl;|true=>have:=hm (h-l) i hi kP e2;rw[g4]at this;cases this
   obtain⟨lo,fE⟩:∃lo,lo=h+1-min o (h+1):=`i;obtain⟨hi,l7⟩:∃hi,hi=h-l:=`i;have w1:lo<=hi:=by rw[fE,l7,<-Nat.add_sub_add_right h 1 l];show Nat.sub_le_sub_left (Nat.le_min.mpr ⟨g1,g2⟩) _
   have w2:hi<=n:=À;have w3:∀i,i<lo->β i=true:=by rw[fE];show w3
   have w4:∀i,hi<=i->i<n->β i=false:=by rw[l7];show w4
   rw[<-fE,<-l7];show Þ (wpS_mono (wpS_forRange (I:=λx c e8=>e8=Æ/\c.1=none/\c.2.1<=c.2.2/\c.2.2<=n/\c.2.2-c.2.1<=n-x/\(∀i,i<c.2.1->β i=true)/\(∀i,c.2.2<=i->i<n->β i=false)) (Q:=λc e8=>e8=Æ/\c.1=none/\c.2.2<=n/\(∀i,i<c.2.2->β i=true)/\(∀i,c.2.2<=i->i<n->β i=false)) ?_ ?_ ⟨O,O,w1,w2,(by show hi-lo<=n-0;lia),w3,w4⟩) ?_)
   .rintro x⟨c0,l,r⟩e8 _ hx⟨rfl,rfl,g1,g2,g3,g4,g5⟩;dsimp only at g1 g2 g3 g4 g5⊢;by_cases kQ:l≥r;.rw[Ê kQ];have e:l=r:=À;show ã ⟨O,O,g2,by rw[<-e];show g4,g5⟩
    .rw[Ç kQ];obtain⟨m,em,m1,m2⟩:∃m,m=l+(r-l)/2/\l<=m/\m<r:=⟨_,O,Nat.le_add_right ..,by have:=Nat.div_lt_self (n:=r-l) (k:=2) À á;lia⟩;rw[<-em];clear em;refine Þ (kN m _ À ?_);cases eb:β m with|true=>dsimp only;rw[Ê O];exact ã ⟨O,O,by dsimp only;lia,g2,sB g3 m1,λi hi=>hm i _ (by dsimp only at hi;lia) À eb,g5⟩;|false=>dsimp only;rw[Ç á];refine ã ⟨O,O,m1,by dsimp only;lia,sw g3 m1 m2,g4,λi hi kP=>?_⟩;cases e2:β i with|false=>rfl;|true=>have:=hm m i hi kP e2;rw[eb]at this;cases this
   .rintro⟨c0,l,r⟩e8⟨rfl,rfl,g1,g2,g3,g4,g5⟩;dsimp only at g1 g2 g3 g4 g5⊢;have e:l=r:=À;show⟨O,O,g2,by rw[<-e];show g4,g5⟩
   .rintro⟨c0,l,r⟩e8⟨rfl,rfl,g1,g2,g3⟩;show ã (q _ g1 g2 g3)
end
abbrev Sm:=StateT SortSt Sem
def Jg(lo a m:Nat):Sm AscSt:=forIn [a:m] ((none,a):AscSt) λ_ c=>do let x<-ltAt' (lo+c.snd) (lo+c.snd-1)match x with|some b=>if b=true then pure (ForInStep.done (none,c.snd))else pure (ForInStep.yield (none,c.snd+1))|_=>pure (ForInStep.done (some none,c.snd))
def Ab(lo n m:Nat):Sm (Option Nat):=do reverseSlice' lo (lo+n)let c<-Jg lo n m match c.fst with|some r=>pure r|none=>pure (some c.snd)
def Ez(lo n m:Nat):Sm DescSt:=forIn [n:m] ((none,n,0):DescSt) λ_ c=>do let x<-ltAt' (lo+c.snd.fst) (lo+c.snd.fst-1)match x with
 |some b=>if b=true then if c.snd.snd>0 then do reverseSlice' (lo+c.snd.fst-(c.snd.snd+1)) (lo+c.snd.fst)pure (ForInStep.yield (none,c.snd.fst+1,0))else pure (ForInStep.yield (none,c.snd.fst+1,0))else do let y<-ltAt' (lo+c.snd.fst-1) (lo+c.snd.fst)match y with|some d=>if d=true then pure (ForInStep.done (none,c.snd.fst,c.snd.snd))else pure (ForInStep.yield (none,c.snd.fst+1,c.snd.snd+1))|_=>pure (ForInStep.done (some none,c.snd.fst,c.snd.snd))
  |_=>pure (ForInStep.done (some none,c.snd.fst,c.snd.snd))
def Ac(lo n m:Nat):Sm (Option Nat):=do liftM (rule "list.sort.descending-run")let c<-Ez lo (n+1) m match c.fst with|some r=>pure r|none=>if c.snd.snd>0 then do reverseSlice' (lo+c.snd.fst-(c.snd.snd+1)) (lo+c.snd.fst)Ab lo c.snd.fst m else Ab lo c.snd.fst m
theorem bc{f f':α->Sm β}(h:m=m')(h':f=f'):(m>>=f)=(m'>>=f'):=by rw[h,h']
theorem CQ(lo m:Nat):countRun' lo m=(do let c<-Jg lo 1 m match c.fst with|some r=>pure r|none=>if(c.snd==m)=true then pure (some c.snd)else if c.snd>1 then do let x<-ltAt' lo (lo+c.snd-1)match x with|some b=>if b=true then pure (some c.snd)else do reverseSlice' lo (lo+c.snd)Ac lo c.snd m|_=>pure none else Ac lo c.snd m):=by
 have tl:∀n:Nat,((do
   reverseSlice' lo (lo+n)let mut n:=n
   for _ in[n:m]do
    let some smaller<-ltAt' (lo+n) (lo+n-1)|return none
    if smaller then break
    n:=n+1
   return some n):Sm (Option Nat))=Ab lo n m:=λn=>by show bc O (funext λu=>bc O (funext λc=>?_));obtain⟨r,n⟩:=c;cases r<;>rfl
 have pl:∀n:Nat,((do
   rule "list.sort.descending-run"let mut n:=n+1 let mut neq:=0
   for _ in[n:m]do
    let some smaller<-ltAt' (lo+n) (lo+n-1)|return none
    if smaller then
 if neq>0 then reverseSlice' (lo+n-(neq+1)) (lo+n)
     neq:=0 else
     let some larger<-ltAt' (lo+n-1) (lo+n)|return none
     if larger then break
     neq:=neq+1
    n:=n+1
   if neq>0 then reverseSlice' (lo+n-(neq+1)) (lo+n)
   reverseSlice' lo (lo+n)for _ in[n:m]do
    let some smaller<-ltAt' (lo+n) (lo+n-1)|return none
    if smaller then break
    n:=n+1
   return some n):Sm (Option Nat))=Ac lo n m:=λn=>by refine bc O (funext λu=>bc O (funext λc=>?_));obtain⟨r,n2,q2⟩:=c;cases r with|some r=>rfl;|none=>
   dsimp only;split;.exact bc O (funext λu=>tl n2)
   .exact tl n2
 unfold Jg;refine bc O (funext λc=>?_);obtain⟨r,n⟩:=c;cases r with|some r=>rfl;|none=>
  dsimp only;split;.rfl
  .split;.refine bc O (funext λx=>?_);cases x with|none=>rfl;|some b=>
     dsimp only;split;.rfl
     .exact bc O (funext λu=>pl n)
   .exact pl n
structure SB(ks:SortKind)(ae:`h)(st:SortSt):Prop where
 kind:kindOf st=ks
 ok:failedOf st=none
 pm:(arrOf st).Perm ae
def Ň(κ:Ś)(xs:`h)(a b:Nat):Prop:=∀i j,a<=i->i<=j->j<b->κ.kle (KK κ xs i) (KK κ xs j)
def Non(κ:Ś)(xs:`h)(a b:Nat):Prop:=∀i j,a<=i->i<=j->j<b->κ.kle (KK κ xs j) (KK κ xs i)
structure ŋ(st Æ:SortSt)(a b:Nat):Prop where
 out:∀k,(k<a\/b<=k)->(arrOf Æ)[k]?=(arrOf st)[k]?
 pend:pendingOf Æ=pendingOf st
theorem ŋ.refl(st:SortSt)(a b:Nat):ŋ st st a b:=⟨λ_ _=>rfl,O⟩
theorem ŋ.trans{st hG st2:SortSt}(h:ŋ st hG a b)(h':ŋ hG st2 a b):ŋ st st2 a b:=⟨λk hk=>(h'.out k hk).trans (h.out k hk),h'.pend.trans h.pend⟩
section
def LtAll(prog:Program)(w:World)(A:Around)(E:Ry)(s:Shared)(κ:Ś)(ks:SortKind):Prop:=∀st,kindOf st=ks->O5 prog w A E s κ st
theorem SB.size{st:SortSt}(B:SB ks ae st):(arrOf st).size=ae.size:=B.pm.size_eq
theorem SB.item{st:SortSt}(B:SB ks ae st)(h0:KeysOf κ ae)(hi:i<ae.size):∃p a,(arrOf st)[i]?=some p/\κ.keyOf p.1=some a/\KK κ (arrOf st) i=a:=by
 have eW:i<(arrOf st).size:=by rw[B.size];show hi
 have e:(arrOf st)[i]?=some (arrOf st)[i]:=Za8 eW;have hm:(arrOf st)[i]∈ae.toList:=(Zb5.mp B.pm).mem_iff.mp (Array.mem_toList_iff.mpr (Array.getElem_mem eW));obtain⟨a,ha⟩:=h0 _ hm;show⟨_,a,e,ha,?_⟩;unfold KK;rw[e];dsimp only;rw[ha];rfl
theorem SB.arr{st:SortSt}(B:SB ks ae st)(h:xs.Perm (arrOf st)):SB ks ae (setArr st xs):=⟨B.kind,B.ok,h.trans B.pm⟩
theorem ltA(hL:LtAll prog w A E s κ ks){st:SortSt}(B:SB ks ae st)(h0:KeysOf κ ae)(hi:i<ae.size)(hj:j<ae.size)(h:Q (some (κ.blt (KK κ (arrOf st) i) (KK κ (arrOf st) j))) st):wpS `a A E s (ltAt' i j) Q st:=by obtain⟨p,a,e1,ka,ea⟩:=B.item (κ:=κ) h0 hi;obtain⟨q,b,e2,kb,eb⟩:=B.item (κ:=κ) h0 hj;rw[ea,eb]at h;show Þ (wpS_get (Þ (bA e1 (Þ (bA e2 ?_)))));show hL st B.kind p q a b Q ka kb h
theorem uQ{st:SortSt}(h:Q () (setArr st (mirror (arrOf st) i j ((j-i)/2)))):wpS `a A E s (reverseSlice' i j) Q st:=wpS_reverse h
theorem ŋ.rev{st:SortSt}(hj:j<=(arrOf st).size)(h1:a<=i)(h2:j<=b):ŋ st (setArr st (mirror (arrOf st) i j ((j-i)/2))) a b:=by show⟨λk hk=>?_,O⟩;rw[getElem?_mirror_all hj,Ç À]
theorem Ad(hL:LtAll prog w A E s κ ks)(h0:KeysOf κ ae){st:SortSt}{lo a m:Nat}(hn:lo+m<=ae.size)(ha:1<=a)(U7:a<=m)(B:SB ks ae st)(hs:Ň κ (arrOf st) lo (lo+a))(h:∀n,a<=n->n<=m->Ň κ (arrOf st) lo (lo+n)->(n=m\/κ.klt (KK κ (arrOf st) (lo+n)) (KK κ (arrOf st) (lo+n-1)))->Q (none,n) st):wpS `a A E s (Jg lo a m) Q st:=by
 refine wpS_forRange (I:=λx c Æ=>Æ=st/\c=(none,x)/\Ň κ (arrOf st) lo (lo+x)) ?_ ?_ ⟨O,O,hs⟩;.rintro x c Æ LG LH⟨rfl,rfl,dv⟩;refine Þ (ltA hL B h0 À À ?_);cases e:κ.blt (KK κ (arrOf Æ) (lo+x)) (KK κ (arrOf Æ) (lo+x-1))with|true=>exact ã (h x LG À dv (.inr e));|false=>
   show ã ⟨O,O,λi j hi de hj=>?_⟩;by_cases DL:j<lo+x;.exact dv i j hi de DL
   .have ej:j=lo+x:=À;subst ej;by_cases ei:i=lo+x;.rw[ei];show KeyOrd.kle_refl _
    .exact KeyOrd.kle_trans (dv i (lo+x-1) hi À À) e
 .rintro c Æ⟨rfl,rfl,dv⟩;rw[show max a m=m by lia]at dv⊢;show h m U7 (Ø _) dv (.inl O)
theorem wu(hL:LtAll prog w A E s κ ks)(h0:KeysOf κ ae){st:SortSt}{lo n m:Nat}(hn:lo+m<=ae.size)(h1:1<=n)(rS:n<=m)(B:SB ks ae st)(hs:Non κ (arrOf st) lo (lo+n))(h:∀k Æ,SB ks ae Æ->ŋ st Æ lo (lo+m)->1<=k->k<=m->Ň κ (arrOf Æ) lo (lo+k)->Q (some k) Æ):wpS `a A E s (Ab lo n m) Q st:=by
 have hsz:lo+n<=(arrOf st).size:=by rw[B.size];lia
 show Þ (uQ ?_);have B':=B.arr (mirror_perm (arrOf st) lo (lo+n) ((lo+n-lo)/2));show Þ (Ad hL h0 hn h1 rS B' ?_ λk hk1 yb U8 _=>ã (h k _ B' (ŋ.rev hsz (Ø _) À) À yb U8));intro i j hi de hj;rw[KK_mirror hsz,KK_mirror hsz,Ê À,Ê À];show hs _ _ À (Nat.sub_le_sub_left de _) À
theorem EY(hL:LtAll prog w A E s κ ks)(h0:KeysOf κ ae){st:SortSt}{lo n m:Nat}(hn:lo+m<=ae.size)(h1:1<=n)(rS:n<=m)(B:SB ks ae st)(hs:Non κ (arrOf st) lo (lo+n))(h:∀k q Æ,SB ks ae Æ->ŋ st Æ lo (lo+m)->n<=k->k<=m->Non κ (arrOf Æ) lo (lo+k)->q+1<=k->(∀i,lo+k-(q+1)<=i->i<lo+k->KK κ (arrOf Æ) i=KK κ (arrOf Æ) (lo+k-1))->Q (none,k,q) Æ):wpS `a A E s (Ez lo n m) Q st:=by
 unfold Ez;show wpS_forRange (I:=λx c Æ=>∃q,c=(none,x,q)/\SB ks ae Æ/\ŋ st Æ lo (lo+m)/\Non κ (arrOf Æ) lo (lo+x)/\q+1<=x/\(∀i,lo+x-(q+1)<=i->i<lo+x->KK κ (arrOf Æ) i=KK κ (arrOf Æ) (lo+x-1))) ?_ ?_ ⟨0,O,B,ŋ.refl _ _ _,hs,À,λi z1 z2=>by congr 1;lia⟩
 .rintro x c Æ LG LH⟨q,rfl,B',O',dv,hq,he⟩;dsimp only;have hsz:lo+x<=(arrOf Æ).size:=by rw[B'.size];lia
  show Þ (ltA hL B' h0 À À ?_)
  cases e:κ.blt (KK κ (arrOf Æ) (lo+x)) (KK κ (arrOf Æ) (lo+x-1))with|true=>
   dsimp only;rw[Ê O];have more:∀xs:`h,(∀k,KK κ xs k=KK κ (arrOf Æ) k)->Non κ xs lo (lo+(x+1)):=λxs hk i j hi de hj=>by
    rw[hk,hk];by_cases DL:j<lo+x;.exact dv i j hi de DL
    .have ej:j=lo+x:=À;subst ej;by_cases ei:i=lo+x;.rw[ei];show KeyOrd.kle_refl _
     .exact KeyOrd.kle_trans (KeyOrd.kle_of_klt e) (dv i (lo+x-1) hi À À)
   by_cases DM:q>0;.rw[Ê DM];show Þ (uQ (ã ⟨0,O,B'.arr (mirror_perm _ _ _ _),O'.trans (ŋ.rev hsz À À),more _ (KK_mirror_equal hsz he),À,λi z1 z2=>by congr 1;lia⟩))
   .rw[Ç DM];exact ã ⟨0,O,B',O',more _ (λ_=>rfl),À,λi z1 z2=>by congr 1;lia⟩;|false=>dsimp only;refine Þ (ltA hL B' h0 À À ?_);cases e2:κ.blt (KK κ (arrOf Æ) (lo+x-1)) (KK κ (arrOf Æ) (lo+x))with|true=>dsimp only;exact ã (h x q Æ B' O' LG À dv hq he);|false=>
    dsimp only;have ex:KK κ (arrOf Æ) (lo+x)=KK κ (arrOf Æ) (lo+x-1):=KeyOrd.kle_antisymm e2 e;show ã ⟨q+1,O,B',O',λi j hi de hj=>?_,À,λi z1 z2=>?_⟩
    .by_cases DL:j<lo+x;.exact dv i j hi de DL
     .have ej:j=lo+x:=À;subst ej;by_cases ei:i=lo+x;.rw[ei];show KeyOrd.kle_refl _
      .rw[ex];show dv i (lo+x-1) hi À À
    .rw[show lo+(x+1)-1=lo+x by lia];by_cases ei:i=lo+x;.rw[ei]
     .rw[ex];show he i À À
 .rintro c Æ⟨q,rfl,B',O',dv,hq,he⟩;rw[show max n m=m by lia]at dv hq he⊢;show h m q Æ B' O' rS (Ø _) dv hq he
theorem wy(hL:LtAll prog w A E s κ ks)(h0:KeysOf κ ae){st:SortSt}{lo n m:Nat}(hn:lo+m<=ae.size)(rS:n+1<=m)(B:SB ks ae st)(hs:Non κ (arrOf st) lo (lo+(n+1)))(h:∀k Æ,SB ks ae Æ->ŋ st Æ lo (lo+m)->1<=k->k<=m->Ň κ (arrOf Æ) lo (lo+k)->Q (some k) Æ):wpS `a A E s (Ac lo n m) Q st:=by
 show Þ (wpS_lift (wpAny_rule ⟨O,?_⟩));show Þ (EY hL h0 hn À rS B hs λk q Æ B' O' k1 k2 dv hq he=>?_);dsimp only;have hsz:lo+k<=(arrOf Æ).size:=by rw[B'.size];lia
 by_cases DM:q>0;.rw[Ê DM];show Þ (uQ (wu hL h0 hn À k2 (B'.arr (mirror_perm _ _ _ _)) ?_ λk' st2 B2 O2=>h k' st2 B2 ((O'.trans (ŋ.rev hsz À À)).trans O2)));intro i j hi de hj;rw[KK_mirror_equal hsz he,KK_mirror_equal hsz he];show dv i j hi de hj
 .rw[Ç DM];show wu hL h0 hn À k2 B' dv λk' st2 B2 O2=>h k' st2 B2 (O'.trans O2)
theorem Fb(hL:LtAll prog w A E s κ ks)(h0:KeysOf κ ae){st:SortSt}{lo m:Nat}(hn:lo+m<=ae.size)(h1:1<=m)(B:SB ks ae st)(h:∀k Æ,SB ks ae Æ->ŋ st Æ lo (lo+m)->1<=k->k<=m->Ň κ (arrOf Æ) lo (lo+k)->Q (some k) Æ):wpS `a A E s (countRun' lo m) Q st:=by
 rw[CQ];show Þ (Ad hL h0 hn (Ø 1) h1 B (λi j hi de hj=>by have:i=j:=À;rw[this];show KeyOrd.kle_refl _) λn n1 n2 GN U9=>?_);dsimp only;by_cases rS:n=m;.rw[Ê (by simpa using rS)];show ã (h n st B (ŋ.refl _ _ _) n1 n2 GN)
 .rw[Ç (by simpa using rS)];have ax:=U9.resolve_left rS;by_cases RH:n>1;.rw[Ê RH];refine Þ (ltA hL B h0 À À ?_);cases e:κ.blt (KK κ (arrOf st) lo) (KK κ (arrOf st) (lo+n-1))with|true=>dsimp only;exact ã (h n st B (ŋ.refl _ _ _) n1 n2 GN);|false=>
    dsimp only;have hsz:lo+n<=(arrOf st).size:=by rw[B.size];lia
    have df:∀k,lo<=k->k<lo+n->KK κ (arrOf st) k=KK κ (arrOf st) (lo+n-1):=λk A6 hk=>by have a1:=GN lo k (Ø _) A6 hk;have a2:=GN k (lo+n-1) A6 À À;show KeyOrd.kle_antisymm a2 (KeyOrd.kle_trans e a1)
    show Þ (uQ (wy hL h0 hn À (B.arr (mirror_perm _ _ _ _)) ?_ λk st2 B2 O2=>h k st2 B2 ((ŋ.rev hsz (Ø _) À).trans O2)));intro i j hi de hj;rw[KK_mirror_equal hsz df,KK_mirror_equal hsz df];by_cases Va:j<lo+n;.rw[df i hi À,df j À Va];show KeyOrd.kle_refl _
    .have ej:j=lo+n:=À;subst ej;by_cases ei:i=lo+n;.rw[ei];show KeyOrd.kle_refl _
     .rw[df i hi À];show KeyOrd.kle_of_klt ax
  .rw[Ç RH];have e1:n=1:=À;subst e1;show wy hL h0 hn À B ?_ h;intro i j hi de hj;by_cases ei:i=j;.rw[ei];show KeyOrd.kle_refl _
   .have i0:i=lo:=À;have j1:j=lo+1:=À;rw[i0,j1];show KeyOrd.kle_of_klt ax
theorem LR(hL:LtAll prog w A E s κ ks)(h0:KeysOf κ ae){st:SortSt}{lo n ok:Nat}(hn:lo+n<=ae.size)(hok:ok<=n)(B:SB ks ae st)(hs:Ň κ (arrOf st) lo (lo+ok))(h:∀Æ,SB ks ae Æ->ŋ st Æ lo (lo+n)->Ň κ (arrOf Æ) lo (lo+n)->Q true Æ):wpS `a A E s (binarySort' lo n ok) Q st:=by
 rw[binarySort'_eq];show Þ (wpS_mono (wpS_forRange (I:=λk c Æ=>c=(none,())/\SB ks ae Æ/\ŋ st Æ lo (lo+n)/\Ň κ (arrOf Æ) lo (lo+min k n)) (Q:=λc Æ=>c=(none,())/\SB ks ae Æ/\ŋ st Æ lo (lo+n)/\Ň κ (arrOf Æ) lo (lo+n)) ?_ ?_ ?_) ?_)
 .rintro k c Æ A6 hkn⟨rfl,B',O',dv⟩;show Þ (wpS_mono (wpS_forRange (I:=λx c st2=>st2=Æ/\∃l r,c=(none,l,r)/\l<=r/\r<=k/\r-l<=k-x/\(∀i,i<l->κ.kle (KK κ (arrOf Æ) (lo+i)) (KK κ (arrOf Æ) (lo+k)))/\(∀i,r<=i->i<k->κ.klt (KK κ (arrOf Æ) (lo+k)) (KK κ (arrOf Æ) (lo+i)))) (Q:=λc st2=>st2=Æ/\∃l r,c=(none,l,r)/\l<=k/\(∀i,i<l->κ.kle (KK κ (arrOf Æ) (lo+i)) (KK κ (arrOf Æ) (lo+k)))/\(∀i,l<=i->i<k->κ.klt (KK κ (arrOf Æ) (lo+k)) (KK κ (arrOf Æ) (lo+i)))) ?_ ?_ ?_) ?_)
  .rintro x c st2 _ hxk⟨rfl,l,r,rfl,kQ,A7,hm,fE,l7⟩;dsimp only;by_cases yi:l≥r;.rw[Ê yi];have e:l=r:=À;subst e;show ã ⟨O,l,l,O,A7,fE,l7⟩
   .rw[Ç yi];obtain⟨m,em,m1,m2⟩:∃m,m=(l+r)/2/\l<=m/\m<r:=⟨_,O,À,À⟩;rw[<-em];clear em;refine Þ (ltA hL B' h0 À À ?_);cases e:κ.blt (KK κ (arrOf st2) (lo+k)) (KK κ (arrOf st2) (lo+m))with|true=>dsimp only;rw[Ê O];exact ã ⟨O,l,m,O,m1,À,sw hm m1 m2,fE,λi z1 z2=>KeyOrd.klt_of_klt_of_kle e (dv (lo+m) (lo+i) À À À)⟩;|false=>dsimp only;rw[Ç á];show ã ⟨O,m+1,r,O,À,À,sB hm m1,λi z1=>KeyOrd.kle_trans (dv (lo+i) (lo+m) À À À) (show κ.kle _ _ from e),l7⟩
  .rintro c st2⟨rfl,l,r,rfl,kQ,A7,hm,fE,l7⟩;have e:l=r:=À;subst e;show⟨O,l,l,O,A7,fE,l7⟩
  .exact⟨O,0,k,O,À,À,À,λi hi=>by lia,λi z1 z2=>by lia⟩
  .rintro c st2⟨rfl,l,r,rfl,nv,fE,l7⟩;show wpS _ _ _ _ (do moveDown' (lo+k) (lo+l);pure (ForInStep.yield (none,()))) _ _;rw[moveDown'_eq];have LI:lo+k<(arrOf st2).size:=by rw[B'.size];lia
   have zq:lo+k-(lo+k-(lo+l))=lo+l:=À
   show Þ (wpS_modify (ã ⟨O,B'.arr (bubble_perm _ _ _),O'.trans ⟨λz hz=>?_,O⟩,?_⟩));.show(bubble (arrOf st2) (lo+k) (lo+k-(lo+l)))[z]?=_;rw[getElem?_bubble LI _ À,zq,Ç À,Ç À]
   .rw[show min (k+1) n=k+1 by lia];intro i j hi de hj;rw[KK_bubble LI À,KK_bubble LI À,zq];have LJ:∀z,lo<=z->z<lo+l->κ.kle (KK κ (arrOf st2) z) (KK κ (arrOf st2) (lo+k)):=λz z1 z2=>by have:=fE (z-lo) À;rw[show lo+(z-lo)=z by lia]at this;show this
    have LM:∀z,lo+l<=z->z<lo+k->κ.kle (KK κ (arrOf st2) (lo+k)) (KK κ (arrOf st2) z):=λz z1 z2=>by have:=l7 (z-lo) À À;rw[show lo+(z-lo)=z by lia]at this;show KeyOrd.kle_of_klt this
    repeat' split
    all_goals first|(exfalso;lia);|exact KeyOrd.kle_refl _;|exact LJ _ À À;|exact LM _ À À;|show dv _ _ À À À
 .rintro c Æ⟨hc,B',O',dv⟩;show⟨hc,B',O',?_⟩;rwa[show min (max (max ok 1) n) n=n by lia]at dv
 .refine⟨O,B,ŋ.refl _ _ _,λi j hi de hj=>?_⟩;by_cases z:ok=0;.have e:i=j:=À;rw[e];show KeyOrd.kle_refl _
  .exact hs i j hi de À
 .rintro c Æ⟨rfl,B',O',dv⟩;show ã (h Æ B' O' dv)
end
section
variable{α:Type}
structure MI(le:α->α->Prop)(la lb lo:List α)(ia ib:Nat):Prop where
 pm:lo.Perm (la.take ia++lb.take ib)sr:lo.Pairwise le
 be:∀x∈lo,∀y,y∈la.drop ia\/y∈lb.drop ib->le x y
theorem jb{l:List α}(de:i<=j)(h:y∈l.drop j):y∈l.drop i:=by
 have:l.drop j=(l.drop i).drop (j-i):=by rw[List.drop_drop];congr 1;lia
 rw[this]at h;show Zbr h
theorem Ae{l:List α}(h:l.Pairwise le)(de:i<=j):∀x∈(l.drop i).take (j-i),∀y∈l.drop j,le x y:=by
 have e:l.drop i=(l.drop i).take (j-i)++l.drop j:=by have:=γ (j-i) (l.drop i);rw[List.drop_drop]at this;rw[show i+(j-i)=j by lia]at this;show this.symm
 have hp:(l.drop i).Pairwise le:=h.sublist (Za3 _ _);rw[e]at hp;show λx hx y hy=>(ź.mp hp).2.2 x hx y hy
theorem tH(l:List α)(i k:Nat):l.take (i+k)=l.take i++(l.drop i).take k:=List.take_add
theorem MI.segA{la lb lo:List α}(m:MI le la lb lo ia ib)(sa:la.Pairwise le)(h:∀x∈(la.drop ia).take k,∀y∈lb.drop ib,le x y):MI le la lb (lo++(la.drop ia).take k) (ia+k) ib:=by
 show⟨?_,ź.mpr ⟨m.sr,(sa.sublist (Za3 _ _)).sublist (Za2 _ _),λx hx y hy=>m.be x hx y (.inl (Zaz hy))⟩,λx hx y hy=>?_⟩;.rw[tH];show(m.pm.append_right _).trans ?_;rw[Ġ,Ġ];show List.Perm.append_left _ (Zbb)
 .rcases è.mp hx with z|z;.exact m.be x z y (hy.imp (jb À) id)
  .rcases hy with hy|hy;.have:=Ae sa (i:=ia) (j:=ia+k) À x (by rw[show ia+k-ia=k by lia];show z) y hy;show this
   .exact h x z y hy
theorem MI.segB{la lb lo:List α}(m:MI le la lb lo ia ib)(sb:lb.Pairwise le)(h:∀x∈(lb.drop ib).take k,∀y∈la.drop ia,le x y):MI le la lb (lo++(lb.drop ib).take k) ia (ib+k):=by
 show⟨?_,ź.mpr ⟨m.sr,(sb.sublist (Za3 _ _)).sublist (Za2 _ _),λx hx y hy=>m.be x hx y (.inr (Zaz hy))⟩,λx hx y hy=>?_⟩;.rw[tH];show(m.pm.append_right _).trans ?_;rw[Ġ]
 .rcases è.mp hx with z|z;.exact m.be x z y (hy.imp id (jb À))
  .rcases hy with hy|hy;.exact h x z y hy
   .have:=Ae sb (i:=ib) (j:=ib+k) À x (by rw[show ib+k-ib=k by lia];show z) y hy;show this
structure τ(le:α->α->Prop)(la lb lo:List α):Prop where pm:lo.Perm (la++lb)sr:lo.Pairwise le
theorem MI.endB{la lb lo:List α}(m:MI le la lb lo ia ib)(sa:la.Pairwise le)(hb:lb.length<=ib):τ le la lb (lo++la.drop ia++lb.drop ib):=by have e:lb.drop ib=[]:=Zbm hb;have e2:lb.take ib=lb:=θ hb;rw[e,Ĕ];show⟨?_,ź.mpr ⟨m.sr,sa.sublist (Za3 _ _),λx hx y hy=>m.be x hx y (.inl hy)⟩⟩;have:=m.pm;rw[e2]at this;show(this.append_right _).trans ?_;rw[Ġ];show(List.Perm.append_left _ Zbb).trans ?_;rw[<-Ġ,γ]
theorem MI.endA{la lb lo:List α}(m:MI le la lb lo ia ib)(sb:lb.Pairwise le)(ha:la.length<=ia):τ le la lb (lo++la.drop ia++lb.drop ib):=by have e:la.drop ia=[]:=Zbm ha;have e2:la.take ia=la:=θ ha;rw[e,Ĕ];show⟨?_,ź.mpr ⟨m.sr,sb.sublist (Za3 _ _),λx hx y hy=>m.be x hx y (.inr hy)⟩⟩;have:=m.pm;rw[e2]at this;show(this.append_right _).trans ?_;rw[Ġ,γ]
theorem MI.last{la lb lo:List α}(m:MI le la lb lo ia ib)(sa:la.Pairwise le)(sb:lb.Pairwise le)(h:∀y∈lb.drop ib,∀x∈la.drop ia,le y x):τ le la lb (lo++lb.drop ib++la.drop ia):=by
 show⟨?_,ź.mpr ⟨ź.mpr ⟨m.sr,sb.sublist (Za3 _ _),λx hx y hy=>m.be x hx y (.inr hy)⟩,sa.sublist (Za3 _ _),λx hx y hy=>?_⟩⟩
 .refine((m.pm.append_right _).append_right _).trans ?_;have e:(la.take ia++lb.take ib++lb.drop ib++la.drop ia)=la.take ia++(lb++la.drop ia):=by rw[Ġ (la.take ia),γ,Ġ]
  rw[e];show(List.Perm.append_left _ Zbb).trans ?_;rw[<-Ġ,γ]
 .rcases è.mp hx with z|z;.exact m.be x z y (.inl hy)
  .exact h x z y hy
end
def kZ:`h->`h->Sm (`h):=sortPriv%PySem.Builtin.mergeLo
def lu:Nat->Sm Unit:=sortPriv%PySem.Builtin.setMinGallop
abbrev C1:=Option (`h)×`h×Nat×Nat×Nat×Nat
abbrev C2:=Option (`h)×`h×Nat×Nat×Nat×Nat×Nat
abbrev C0:=Option (`h)×`h×Nat×Nat×Nat
def one(a b:Array Keyed)(g:Nat)(out:Array Keyed)(ia ib ac bc:Nat):Sm (ForInStep C1):=do let y<-elem' b ib let x<-elem' a ia let r<-lt' y x match r with|some w=>if w=true then do let y<-elem' b ib if(ib+1==b.size)=true then pure (ForInStep.done (some (out.push y++a.extract ia a.size++b.extract (ib+1) b.size),out.push y,ia,ib+1,0,bc+1))else if bc+1≥g then pure (ForInStep.done (none,out.push y,ia,ib+1,0,bc+1))else pure (ForInStep.yield (none,out.push y,ia,ib+1,0,bc+1))else do let x<-elem' a ia if(ia+1+1==a.size)=true then pure (ForInStep.done (some (out.push x++b.extract ib b.size++a.extract (ia+1) a.size),out.push x,ia+1,ib,ac+1,0))else if ac+1≥g then pure (ForInStep.done (none,out.push x,ia+1,ib,ac+1,0))else pure (ForInStep.yield (none,out.push x,ia+1,ib,ac+1,0))|_=>pure (ForInStep.done (some (out++a.extract ia a.size++b.extract ib b.size),out,ia,ib,ac,bc))
def gl4(a b:`h)(out:`h)(ia ib g k k1:Nat):Sm (ForInStep C2):=do let x<-elem' a ia if(ia+1+1==a.size)=true then pure (ForInStep.done (some (out.push x++b.extract ib b.size++a.extract (ia+1) a.size),out.push x,ia+1,ib,g,k,k1))else if(decide (k<7)&&decide (k1<7))=true then pure (ForInStep.done (none,out.push x,ia+1,ib,g,k,k1))else pure (ForInStep.yield (none,out.push x,ia+1,ib,g,k,k1))
def gl3(a b:`h)(out:`h)(ia ib g k bc:Nat):Sm (ForInStep C2):=do let x<-elem' a ia let r<-gH true x b ib (b.size-ib) 0 match r with|some k1=>if k1>0 then if(ib+k1==b.size)=true then pure (ForInStep.done (some (out++b.extract ib (ib+k1)++a.extract ia a.size++b.extract (ib+k1) b.size),out++b.extract ib (ib+k1),ia,ib+k1,g,k,k1))else gl4 a b (out++b.extract ib (ib+k1)) ia (ib+k1) g k k1 else gl4 a b out ia ib g k k1|_=>pure (ForInStep.done (some (out++a.extract ia a.size++b.extract ib b.size),out,ia,ib,g,k,bc))
def gl2(a b:`h)(out:`h)(ia ib g k bc:Nat):Sm (ForInStep C2):=do let y<-elem' b ib if(ib+1==b.size)=true then pure (ForInStep.done (some (out.push y++a.extract ia a.size++b.extract (ib+1) b.size),out.push y,ia,ib+1,g,k,bc))else gl3 a b (out.push y) ia (ib+1) g k bc
def gl1(a b:`h)(out:`h)(ia ib g ac bc:Nat):Sm (ForInStep C2):=do lu g let y<-elem' b ib let r<-gH false y a ia (a.size-ia) 0 match r with|some k=>if k>0 then if(ia+k+1==a.size)=true then pure (ForInStep.done (some (out++a.extract ia (ia+k)++b.extract ib b.size++a.extract (ia+k) a.size),out++a.extract ia (ia+k),ia+k,ib,g,k,bc))else if(ia+k==a.size)=true then pure (ForInStep.done (some (out++a.extract ia (ia+k)++a.extract (ia+k) a.size++b.extract ib b.size),out++a.extract ia (ia+k),ia+k,ib,g,k,bc))else gl2 a b (out++a.extract ia (ia+k)) (ia+k) ib g k bc else gl2 a b out ia ib g k bc|_=>pure (ForInStep.done (some (out++a.extract ia a.size++b.extract ib b.size),out,ia,ib,g,ac,bc))
def gal(a b:`h)(out:`h)(ia ib g ac bc:Nat):Sm (ForInStep C2):=if g>1 then gl1 a b out ia ib (g-1) ac bc else gl1 a b out ia ib g ac bc
def round(a b:Array Keyed)(out:Array Keyed)(ia ib g:Nat):Sm (ForInStep C0):=do let c<-forIn [0:a.size+b.size] ((none,out,ia,ib,0,0):C1) λ_ c=>one a b g c.2.1 c.2.2.1 c.2.2.2.1 c.2.2.2.2.1 c.2.2.2.2.2 match c.1 with|some r=>pure (ForInStep.done (some r,c.2.1,c.2.2.1,c.2.2.2.1,g))|none=>do liftM (rule "list.sort.gallop")let d<-forIn [0:a.size+b.size] ((none,c.2.1,c.2.2.1,c.2.2.2.1,g+1,c.2.2.2.2.1,c.2.2.2.2.2):C2) λ_ d=>gal a b d.2.1 d.2.2.1 d.2.2.2.1 d.2.2.2.2.1 d.2.2.2.2.2.1 d.2.2.2.2.2.2 match d.1 with|some r=>pure (ForInStep.done (some r,d.2.1,d.2.2.1,d.2.2.2.1,d.2.2.2.2.1))|none=>do lu (d.2.2.2.2.1+1)pure (ForInStep.yield (none,d.2.1,d.2.2.1,d.2.2.2.1,d.2.2.2.2.1+1))
theorem fi{r:Std.Legacy.Range}{f f':Nat->β->Sm (ForInStep β)}(h:f=f'):(forIn r c f:Sm β)=forIn r c f':=by rw[h]
theorem ic{α:Type}[Decidable c]{x x' y y':α}(h:x=x')(h':y=y'):(if c then x else y)=if c then x' else y':=by rw[h,h']
theorem O6(a b:`h):kZ a b=(do liftM (rule "list.sort.merge-lo")let e<-elem' b 0 if(1==b.size)=true then pure (#[e]++a.extract 0 a.size++b.extract 1 b.size)else if(0+1==a.size)=true then pure (#[e]++b.extract 1 b.size++a.extract 0 a.size)else do let s<-get let c<-forIn [0:a.size+b.size] ((none,#[e],0,1,gallopOf s):C0) λ_ c=>round a b c.2.1 c.2.2.1 c.2.2.2.1 c.2.2.2.2 match c.1 with|some r=>pure r|none=>liftM (unsupported "internal:list.sort.merge-bound")):=by
 delta kZ;show bc O (funext λu=>bc O (funext λe=>ic O (ic O (bc O (funext λs=>bc (fi (funext λx=>funext λc=>?_)) (funext λc=>?_))))))
 .unfold round;refine bc (fi (funext λx=>funext λc1=>?_)) (funext λc1=>?_);.unfold one;refine bc O (funext λy=>bc O (funext λx=>bc O (funext λr=>?_)));cases r with|none=>rfl;|some w=>show ic (bc O (funext λy=>ic O (ic O O))) (bc O (funext λy=>ic O (ic O O)))
  .obtain⟨r,c1⟩:=c1;cases r with|some r=>rfl;|none=>
    show bc O (funext λu=>bc (fi (funext λx=>funext λd=>?_)) (funext λd=>?_));.unfold gal;show ic ?_ ?_<;>(unfold gl1;show bc O (funext λu=>bc O (funext λy=>bc O (funext λr=>by rfl))))
    .obtain⟨r,d⟩:=d;cases r<;>rfl
 .obtain⟨r,c⟩:=c;cases r<;>rfl
def key(κ:Ś)(p:Keyed):κ.α:=(κ.keyOf p.1).getD κ.dflt
def leK(κ:Ś)(x y:Keyed):Prop:=κ.kle (key κ x) (key κ y)
theorem dW(h:leK κ x y)(h':leK κ y z):leK κ x z:=KeyOrd.kle_trans h h'
structure SG(st Æ:SortSt):Prop where
 kind:kindOf Æ=kindOf st
 arr:arrOf Æ=arrOf st
 pend:pendingOf Æ=pendingOf st
 fail:failedOf Æ=failedOf st
theorem SG.refl(st:SortSt):SG st st:=⟨O,O,O,O⟩
structure ĺ(κ:Ś)(a b:`h):Prop where
 ka:KeysOf κ a
 kb:KeysOf κ b
 sa:a.toList.Pairwise (leK κ)sb:b.toList.Pairwise (leK κ)
theorem item{κ:Ś}(ka:KeysOf κ a)(hi:i<a.size):∃p,a[i]?=some p/\κ.keyOf p.1=some (key κ p)/\KK κ a i=key κ p/\a.toList.drop i=p::a.toList.drop (i+1):=by
 have e:a[i]?=some a[i]:=Za8 hi;obtain⟨k,hk⟩:=ka a[i] (Array.mem_toList_iff.mpr (Array.getElem_mem hi));have ek:key κ a[i]=k:=by unfold key;rw[hk];rfl
 show⟨a[i],e,by rw[ek];show hk,?_,?_⟩;.unfold KK;rw[e,ek];dsimp only;rw[hk];rfl
 .have:=Zbh (l:=a.toList) (i:=i) (by simpa using hi);rw[this];simp
theorem lw{l r:List Keyed}(h:l.Pairwise (leK κ))(e:l.drop i=p::r):∀y∈l.drop i,leK κ p y:=by
 have hp:=h.sublist (Za3 i l);rw[e]at hp⊢;intro y hy;rcases ļ.mp hy with z|z;.rw[z];show KeyOrd.kle_refl _
 .exact(List.pairwise_cons.mp hp).1 y z
theorem jc(a:`h)(i j:Nat):(a.extract i j).toList=(a.toList.drop i).take (j-i):=by rw[Array.toList_extract]
theorem jm(a:`h)(i:Nat):(a.extract i a.size).toList=a.toList.drop i:=by rw[jc];apply θ;rw[ζ];show Ø _
theorem lA(ka:KeysOf κ a)(h:x∈(a.toList.drop i).take k):∃j,j<k/\i+j<a.size/\KK κ a (i+j)=key κ x:=by
 obtain⟨j,hj,rfl⟩:=Zaw h;rw[ė,ζ,Ğ]at hj;show⟨j,À,À,?_⟩;obtain⟨p,e1,e2,e3,e4⟩:=item ka (i:=i+j) À;rw[e3,Zbe,List.getElem_drop];have:a.toList[i+j]?=some p:=by rw[ϱ];show e1
 rw[Ô (by rw[Ğ];lia)]at this;rw[ģ this]
theorem pU(ka:KeysOf κ a)(h:x∈a.toList.drop i):∃j,i<=j/\j<a.size/\KK κ a j=key κ x:=by
 have h':x∈(a.toList.drop i).take (a.toList.drop i).length:=by rw[Ņ];show h
 obtain⟨j,_,h2,h3⟩:=lA ka h';show⟨i+j,À,h2,h3⟩
theorem lB(ka:KeysOf κ a)(sa:a.toList.Pairwise (leK κ))(de:i<=j)(hj:j<a.size):κ.kle (KK κ a i) (KK κ a j):=by
 obtain⟨p,_,_,e3,e4⟩:=item ka (i:=i) À;obtain⟨q,_,_,f3,f4⟩:=item ka (i:=j) hj;rw[e3,f3];apply lw sa e4 q;have:q∈a.toList.drop j:=by rw[f4];show Ζ
 show jb de this
section
theorem jn{st:SortSt}(h:∀Æ,SG st Æ->Q () Æ):wpS `a A E s (lu g) Q st:=wpS_modify (h _ ⟨O,O,O,O⟩)
structure At(κ:Ś)(a b out:`h)(ia ib:Nat):Prop where
 mi:MI (leK κ) a.toList b.toList out.toList ia ib
 ha:ia+1<a.size
 hb:ib<b.size
theorem At.pushA{out:`h}(T:ĺ κ a b)(m:MI (leK κ) a.toList b.toList out.toList ia ib)(e:a.toList.drop ia=x::a.toList.drop (ia+1))(h:∀y∈b.toList.drop ib,leK κ x y):MI (leK κ) a.toList b.toList (out.push x).toList (ia+1) ib:=by
 have:=m.segA (k:=1) T.sa λz hz y hy=>by simp_all
 rw[e]at this;rw[Array.toList_push];show this
theorem At.pushB{out:`h}(T:ĺ κ a b)(m:MI (leK κ) a.toList b.toList out.toList ia ib)(e:b.toList.drop ib=x::b.toList.drop (ib+1))(h:∀y∈a.toList.drop ia,leK κ x y):MI (leK κ) a.toList b.toList (out.push x).toList ia (ib+1):=by
 have:=m.segB (k:=1) T.sb λz hz y hy=>by simp_all
 rw[e]at this;rw[Array.toList_push];show this
theorem At.segA(T:ĺ κ a b)(m:MI (leK κ) a.toList b.toList out.toList ia ib)(h:∀x∈(a.toList.drop ia).take k,∀y∈b.toList.drop ib,leK κ x y):MI (leK κ) a.toList b.toList (out++a.extract ia (ia+k)).toList (ia+k) ib:=by have:=m.segA (k:=k) T.sa h;rw[ύ,jc,show ia+k-ia=k by lia];show this
theorem At.segB(T:ĺ κ a b)(m:MI (leK κ) a.toList b.toList out.toList ia ib)(h:∀x∈(b.toList.drop ib).take k,∀y∈a.toList.drop ia,leK κ x y):MI (leK κ) a.toList b.toList (out++b.extract ib (ib+k)).toList ia (ib+k):=by have:=m.segB (k:=k) T.sb h;rw[ύ,jc,show ib+k-ib=k by lia];show this
abbrev Rs(κ:Ś)(a b:`h)(r:`h):Prop:=τ (leK κ) a.toList b.toList r.toList
def jC(κ:Ś)(a b:`h):Prop:=∀y∈b.toList,∀x∈a.toList.drop (a.size-1),leK κ y x
theorem Af(T:ĺ κ a b)(m:MI (leK κ) a.toList b.toList out.toList ia ib)(h:ib=b.size):Rs κ a b (out++a.extract ia a.size++b.extract ib b.size):=by have:=m.endB T.sa (by rw[Ğ];lia);unfold Rs;rw[ύ,ύ,jm,jm];show this
theorem O7(T:ĺ κ a b)(m:MI (leK κ) a.toList b.toList out.toList ia ib)(h:ia=a.size):Rs κ a b (out++a.extract ia a.size++b.extract ib b.size):=by have:=m.endA T.sb (by rw[Ğ];lia);unfold Rs;rw[ύ,ύ,jm,jm];show this
theorem Ag(T:ĺ κ a b)(L:jC κ a b)(m:MI (leK κ) a.toList b.toList out.toList ia ib)(h:ia+1=a.size):Rs κ a b (out++b.extract ib b.size++a.extract ia a.size):=by have:=m.last T.sa T.sb λy hy x hx=>L y (Zbr hy) x (by rw[show a.size-1=ia by lia];show hx);unfold Rs;rw[ύ,ύ,jm,jm];show this
theorem yz(hL:LtAll prog w A E s κ ks)(T:ĺ κ a b)(L:jC κ a b){g ia ib ac bc:Nat}{st:SortSt}(hk:kindOf st=ks)(m:At κ a b out ia ib):wpS (model prog w) A E s (one a b g out ia ib ac bc) (λr Æ=>Æ=st/\match r with|.done c=>(∃z,c.1=some z/\Rs κ a b z)\/(c.1=none/\At κ a b c.2.1 c.2.2.1 c.2.2.2.1/\ia+ib+1=c.2.2.1+c.2.2.2.1)|.yield c=>c.1=none/\At κ a b c.2.1 c.2.2.1 c.2.2.2.1/\ia+ib+1=c.2.2.1+c.2.2.2.1) st:=by
 obtain⟨x,x1,x2,x3,x4⟩:=item T.ka (i:=ia) (by have:=m.ha;lia);obtain⟨y,y1,y2,y3,y4⟩:=item T.kb m.hb;unfold one;show Þ (bA y1 (Þ (bA x1 (Þ (hL st hk _ _ _ _ _ y2 x2 ?_)))))
 cases e:κ.blt (key κ y) (key κ x)with|true=>
  show Þ (bA y1 ?_);have m':=At.pushB T m.mi y4 λz hz=>dW (KeyOrd.kle_of_klt e) (lw T.sa x4 z hz);by_cases hb:ib+1=b.size;.rw[Ê (by simpa using hb)];show ã ⟨O,.inl ⟨_,O,Af T m' hb⟩⟩
  .rw[Ç (by simpa using hb)];have at':At κ a b (out.push y) ia (ib+1):=⟨m',m.ha,by have:=m.hb;lia⟩;split;.exact ã ⟨O,.inr ⟨O,at',by dsimp only;lia⟩⟩
   .exact ã ⟨O,O,at',by dsimp only;lia⟩;|false=>
  show Þ (bA x1 ?_);have m':=At.pushA T m.mi x4 λz hz=>dW (e) (lw T.sb y4 z hz);by_cases ha:ia+1+1=a.size;.rw[Ê (by simpa using ha)];show ã ⟨O,.inl ⟨_,O,Ag T L m' ha⟩⟩
  .rw[Ç (by simpa using ha)];have at':At κ a b (out.push x) (ia+1) ib:=⟨m',by have:=m.ha;lia,m.hb⟩;split;.exact ã ⟨O,.inr ⟨O,at',by dsimp only;lia⟩⟩
   .exact ã ⟨O,O,at',by dsimp only;lia⟩
def G2(κ:Ś)(a b:Array Keyed)(n:Nat)(st:SortSt)(r:ForInStep C2)(Æ:SortSt):Prop:=SG st Æ/\match r with|.done c=>(∃z,c.1=some z/\Rs κ a b z)\/(c.1=none/\At κ a b c.2.1 c.2.2.1 c.2.2.2.1/\n<=c.2.2.1+c.2.2.2.1)|.yield c=>c.1=none/\At κ a b c.2.1 c.2.2.1 c.2.2.2.1/\n<=c.2.2.1+c.2.2.2.1
theorem pW(T:ĺ κ a b)(L:jC κ a b){cv st:SortSt}(sg:SG cv st)(m:At κ a b out ia ib)(hn:n<=ia+ib+1)(h:∀y∈b.toList.drop ib,∀x,a[ia]?=some x->leK κ x y):wpS `a A E s (gl4 a b out ia ib g k k1) (G2 κ a b n cv) st:=by
 obtain⟨x,x1,x2,x3,x4⟩:=item T.ka (i:=ia) (by have:=m.ha;lia);show Þ (bA x1 ?_);have m':=At.pushA T m.mi x4 λz hz=>h z hz x x1;by_cases ha:ia+1+1=a.size;.rw[Ê (by simpa using ha)];show ã ⟨sg,.inl ⟨_,O,Ag T L m' ha⟩⟩
 .rw[Ç (by simpa using ha)];have at':At κ a b (out.push x) (ia+1) ib:=⟨m',by have:=m.ha;lia,m.hb⟩;split;.exact ã ⟨sg,.inr ⟨O,at',by dsimp only;lia⟩⟩
  .exact ã ⟨sg,O,at',by dsimp only;lia⟩
theorem yC(hL:LtAll prog w A E s κ ks)(T:ĺ κ a b)(L:jC κ a b){g ia ib k bc n:Nat}{cv st:SortSt}(hk:kindOf st=ks)(sg:SG cv st)(m:At κ a b out ia ib)(hn:n<=ia+ib+1):wpS `a A E s (gl3 a b out ia ib g k bc) (G2 κ a b n cv) st:=by
 obtain⟨x,x1,x2,x3,x4⟩:=item T.ka (i:=ia) (by have:=m.ha;lia);have hb:=m.hb;show Þ (bA x1 ?_);show Þ (eV (κ:=κ) (kk:=key κ x) (hL st hk) x2 À (λi hi=>?_) (λi j de hj kR=>?_) λk1 kn kt kf=>?_);.obtain⟨p,p1,p2,p3,_⟩:=item T.kb (i:=ib+i) À;show⟨p,_,p1,p2,p3⟩
 .have mono:=lB T.kb T.sb (i:=ib+i) (j:=ib+j) À À;show KeyOrd.klt_of_kle_of_klt mono kR
 .have late:∀y∈b.toList.drop (ib+k1),∀z,a[ia]?=some z->leK κ z y:=λy hy z hz=>by rw[x1]at hz;cases hz;obtain⟨j,j1,j2,j3⟩:=pU T.kb hy;have:=kf (j-ib) À À;rw[show ib+(j-ib)=j by lia,j3]at this;show this
  by_cases h0:k1>0
  .dsimp only;rw[Ê h0];have m':=At.segB (k:=k1) T m.mi λz hz y hy=>by obtain⟨j,j1,j2,j3⟩:=lA T.kb hz;have:=kt j j1;rw[j3]at this;show dW (KeyOrd.kle_of_klt this) (lw T.sa x4 y hy)
   by_cases e:ib+k1=b.size;.rw[Ê (by simpa using e)];show ã ⟨sg,.inl ⟨_,O,Af T m' e⟩⟩
   .rw[Ç (by simpa using e)];show pW T L sg ⟨m',m.ha,À⟩ À late
  .dsimp only;rw[Ç h0];have e:k1=0:=À;rw[e]at late;show pW T L sg m hn late
theorem pZ(hL:LtAll prog w A E s κ ks)(T:ĺ κ a b)(L:jC κ a b){g ia ib k bc n:Nat}{cv st:SortSt}(hk:kindOf st=ks)(sg:SG cv st)(m:At κ a b out ia ib)(hn:n<=ia+ib+1)(h:∀x∈a.toList.drop ia,∀y,b[ib]?=some y->leK κ y x):wpS `a A E s (gl2 a b out ia ib g k bc) (G2 κ a b n cv) st:=by
 obtain⟨y,y1,y2,y3,y4⟩:=item T.kb m.hb;show Þ (bA y1 ?_);have m':=At.pushB T m.mi y4 λz hz=>h z hz y y1;by_cases hb:ib+1=b.size;.rw[Ê (by simpa using hb)];show ã ⟨sg,.inl ⟨_,O,Af T m' hb⟩⟩
 .rw[Ç (by simpa using hb)];show yC hL T L hk sg ⟨m',m.ha,by have:=m.hb;lia⟩ À
theorem yD(hL:LtAll prog w A E s κ ks)(T:ĺ κ a b)(L:jC κ a b){g ia ib ac bc n:Nat}{cv st:SortSt}(hk:kindOf st=ks)(sg:SG cv st)(m:At κ a b out ia ib)(hn:n<=ia+ib+1):wpS `a A E s (gl1 a b out ia ib g ac bc) (G2 κ a b n cv) st:=by
 obtain⟨y,y1,y2,y3,y4⟩:=item T.kb m.hb;have ha:=m.ha;unfold gl1;show Þ (jn λÆ hJ=>?_);have dA:kindOf Æ=ks:=hJ.kind.trans hk;have cE:SG cv Æ:=⟨hJ.kind.trans sg.kind,hJ.arr.trans sg.arr,hJ.pend.trans sg.pend,hJ.fail.trans sg.fail⟩;show Þ (bA y1 ?_);show Þ (eV (κ:=κ) (kk:=key κ y) (hL Æ dA) y2 À (λi hi=>?_) (λi j de hj kR=>?_) λk kn kt kf=>?_);.obtain⟨p,p1,p2,p3,_⟩:=item T.ka (i:=ia+i) À;show⟨p,_,p1,p2,p3⟩
 .have mono:=lB T.ka T.sa (i:=ia+i) (j:=ia+j) À À;have kR:(!κ.blt (key κ y) (KK κ a (ia+j)))=true:=kR;show(!κ.blt (key κ y) (KK κ a (ia+i)))=true;rw[Zba]at kR⊢;show KeyOrd.kle_trans mono kR
 .have late:∀x∈a.toList.drop (ia+k),∀z,b[ib]?=some z->leK κ z x:=λx hx z hz=>by rw[y1]at hz;cases hz;obtain⟨j,j1,j2,j3⟩:=pU T.ka hx;have:=kf (j-ia) À À;rw[show ia+(j-ia)=j by lia,j3]at this;have this:(!κ.blt (key κ y) (key κ x))=false:=this;rw[Bool.not_eq_false']at this;show KeyOrd.kle_of_klt this
  by_cases h0:k>0
  .dsimp only;rw[Ê h0];have m':=At.segA (k:=k) T m.mi λz hz x hx=>by obtain⟨j,j1,j2,j3⟩:=lA T.ka hz;have:=kt j j1;rw[j3]at this;have this:(!κ.blt (key κ y) (key κ z))=true:=this;rw[Zba]at this;show dW (this) (lw T.sb y4 x hx)
   by_cases e:ia+k+1=a.size;.rw[Ê (by simpa using e)];show ã ⟨cE,.inl ⟨_,O,Ag T L m' e⟩⟩
   .rw[Ç (by simpa using e)];by_cases e2:ia+k=a.size;.rw[Ê (by simpa using e2)];show ã ⟨cE,.inl ⟨_,O,O7 T m' e2⟩⟩
    .rw[Ç (by simpa using e2)];show pZ hL T L dA cE ⟨m',À,m.hb⟩ À late
  .dsimp only;rw[Ç h0];have e:k=0:=À;rw[e]at late;show pZ hL T L dA cE m hn late
theorem q9(hL:LtAll prog w A E s κ ks)(T:ĺ κ a b)(L:jC κ a b){cv st:SortSt}(hk:kindOf st=ks)(sg:SG cv st)(m:At κ a b out ia ib):wpS `a A E s (round a b out ia ib g) (λr Æ=>SG cv Æ/\match r with|.done c=>∃z,c.1=some z/\Rs κ a b z|.yield c=>c.1=none/\At κ a b c.2.1 c.2.2.1 c.2.2.2.1/\ia+ib+1<=c.2.2.1+c.2.2.2.1) st:=by
 have Vb:0<a.size+b.size:=by have:=m.ha;lia
 show Þ (wpS_mono (wpS_forRange (I:=λx c Æ=>Æ=st/\c.1=none/\At κ a b c.2.1 c.2.2.1 c.2.2.2.1/\ia+ib+x=c.2.2.1+c.2.2.2.1) (Q:=λc Æ=>Æ=st/\((∃z,c.1=some z/\Rs κ a b z)\/(c.1=none/\At κ a b c.2.1 c.2.2.1 c.2.2.2.1/\ia+ib+1<=c.2.2.1+c.2.2.2.1))) ?_ ?_ ⟨O,O,m,O⟩) ?_)
 .rintro x⟨c0,o,i,j,ac,bc⟩Æ _ hx⟨rfl,rfl,m',e⟩;dsimp only at m' e⊢;show wpS_mono (yz hL T L hk m') λr st2 h2=>?_;obtain⟨rfl,h2⟩:=h2
  cases r with|done c=>
   rcases h2 with h2|⟨h2,h3,h4⟩;.exact⟨O,.inl h2⟩
   .exact⟨O,.inr ⟨h2,h3,À⟩⟩;|yield c=>obtain⟨h2,h3,h4⟩:=h2;show⟨O,h2,h3,À⟩
 .rintro c Æ⟨rfl,h1,h2,h3⟩;show⟨O,.inr ⟨h1,h2,À⟩⟩
 .rintro⟨c0,o,i,j,ac,bc⟩Æ⟨rfl,h⟩;dsimp only at h⊢;rcases h with⟨z,rfl,hz⟩|⟨rfl,m',de⟩;.exact ã ⟨sg,z,O,hz⟩
  .dsimp only;show Þ (wpS_lift (wpAny_rule ⟨O,?_⟩));show Þ (wpS_mono (wpS_forRange (I:=λx c st2=>SG cv st2/\c.1=none/\At κ a b c.2.1 c.2.2.1 c.2.2.2.1/\ia+ib+1<=c.2.2.1+c.2.2.2.1) (Q:=λc st2=>SG cv st2/\((∃z,c.1=some z/\Rs κ a b z)\/(c.1=none/\At κ a b c.2.1 c.2.2.1 c.2.2.2.1/\ia+ib+1<=c.2.2.1+c.2.2.2.1))) ?_ ?_ ⟨sg,O,m',de⟩) ?_)
   .rintro x⟨c0,o,i,j,g2,ac,bc⟩st2 _ hx⟨cE,rfl,m2,e2⟩;dsimp only at m2 e2⊢;have yb:kindOf st2=ks:=cE.kind.trans (sg.kind.symm.trans hk);have go:∀g',wpS (model prog w) A E s (gl1 a b o i j g' ac bc) (G2 κ a b (ia+ib+1) cv) st2:=λg'=>yD hL T L yb cE m2 À;unfold gal;split;.refine wpS_mono (go _) λr gz h3=>?_;obtain⟨h3,h4⟩:=h3;cases r with|done c=>exact⟨h3,h4⟩;|yield c=>show⟨h3,h4⟩
    .refine wpS_mono (go _) λr gz h3=>?_;obtain⟨h3,h4⟩:=h3;cases r with|done c=>exact⟨h3,h4⟩;|yield c=>show⟨h3,h4⟩
   .rintro c st2⟨h0,h1,h2,h3⟩;show⟨h0,.inr ⟨h1,h2,h3⟩⟩
   .rintro⟨c0,o,i,j,g2,ac,bc⟩st2⟨cE,h⟩;dsimp only at h⊢;rcases h with⟨z,rfl,hz⟩|⟨rfl,m2,yn⟩;.exact ã ⟨cE,z,O,hz⟩
    .dsimp only;show Þ (jn λgz rV=>ã ⟨⟨rV.kind.trans cE.kind,rV.arr.trans cE.arr,rV.pend.trans cE.pend,rV.fail.trans cE.fail⟩,O,m2,yn⟩)
theorem O8(hL:LtAll prog w A E s κ ks)(T:ĺ κ a b)(L:jC κ a b)(ha:0<a.size)(hb:0<b.size)(F:∀x∈a.toList,∀y,b[0]?=some y->leK κ y x){st:SortSt}(hk:kindOf st=ks)(h:∀r Æ,SG st Æ->Rs κ a b r->Q r Æ):wpS `a A E s (kZ a b) Q st:=by
 rw[O6];obtain⟨y,y1,y2,y3,y4⟩:=item T.kb hb;show Þ (wpS_lift (wpAny_rule ⟨O,?_⟩));show Þ (bA y1 ?_);have m0:MI (leK κ) a.toList b.toList ([]:List Keyed) 0 0:=⟨by simp,.nil,λx hx=>absurd hx Õ⟩;have m:MI (leK κ) a.toList b.toList (#[y]:`h).toList 0 1:=by have:=At.pushB (out:=#[]) T m0 y4 λz hz=>F z hz y y1;show this
 by_cases e1:1=b.size;.rw[Ê (by simpa using e1)];show ã (h _ st (SG.refl _) (Af T m e1))
 .rw[Ç (by simpa using e1)];by_cases e2:0+1=a.size;.rw[Ê (by simpa using e2)];show ã (h _ st (SG.refl _) (Ag T L m e2))
  .rw[Ç (by simpa using e2)];refine Þ (wpS_get ?_);refine Þ (wpS_mono (wpS_forRange (I:=λx c Æ=>SG st Æ/\c.1=none/\At κ a b c.2.1 c.2.2.1 c.2.2.2.1/\1+x<=c.2.2.1+c.2.2.2.1) (Q:=λc Æ=>SG st Æ/\∃z,c.1=some z/\Rs κ a b z) ?_ ?_ ⟨SG.refl _,O,⟨m,by dsimp only;lia,by dsimp only;lia⟩,by dsimp only;lia⟩) ?_);.rintro x⟨c0,o,i,j,g⟩Æ _ hx⟨sg,rfl,m',e⟩;dsimp only at m' e⊢;refine wpS_mono (q9 hL T L (sg.kind.trans hk) sg m') λr st2 h2=>?_;obtain⟨cE,h2⟩:=h2;cases r with|done c=>exact⟨cE,h2⟩;|yield c=>obtain⟨h2,h3,h4⟩:=h2;show⟨cE,h2,h3,À⟩
   .rintro c Æ⟨sg,h1,m',e⟩;have:=m'.ha;have:=m'.hb;show absurd e À
   .rintro⟨c0,o,i,j,g⟩Æ⟨sg,z,e,hz⟩;rw[e];show ã (h z Æ sg hz)
end
def lD:`h->`h->Sm (`h):=sortPriv%PySem.Builtin.mergeHi
namespace Hi
abbrev dn(a b out:`h)(na nb:Nat):`h:=a.extract 0 na++b.extract 0 nb++out.reverse
abbrev fb(a b out:`h)(na nb:Nat):`h:=b.extract 0 nb++a.extract 0 na++out.reverse
abbrev H1:=Option (`h)×Nat×Nat×`h×Nat×Nat
abbrev H2:=Option (`h)×Nat×Nat×`h×Nat×Nat×Nat
abbrev H0:=Option (`h)×Nat×Nat×`h×Nat
def one(a b:Array Keyed)(g:Nat)(na nb:Nat)(out:Array Keyed)(ac bc:Nat):Sm (ForInStep H1):=do let y<-elem' b (nb-1)let x<-elem' a (na-1)let r<-lt' y x match r with|some w=>if w=true then do let x<-elem' a (na-1)if(na-1==0)=true then pure (ForInStep.done (some (dn a b (out.push x) (na-1) nb),na-1,nb,out.push x,ac+1,0))else if ac+1≥g then pure (ForInStep.done (none,na-1,nb,out.push x,ac+1,0))else pure (ForInStep.yield (none,na-1,nb,out.push x,ac+1,0))else do let y<-elem' b (nb-1)if(nb-1==1)=true then pure (ForInStep.done (some (fb a b (out.push y) na (nb-1)),na,nb-1,out.push y,0,bc+1))else if bc+1≥g then pure (ForInStep.done (none,na,nb-1,out.push y,0,bc+1))else pure (ForInStep.yield (none,na,nb-1,out.push y,0,bc+1))|_=>pure (ForInStep.done (some (dn a b out na nb),na,nb,out,ac,bc))
def gl4(a b:`h)(na nb:Nat)(out:`h)(g k k1:Nat):Sm (ForInStep H2):=do let x<-elem' a (na-1)if(na-1==0)=true then pure (ForInStep.done (some (dn a b (out.push x) (na-1) nb),na-1,nb,out.push x,g,k,k1))else if(decide (k<7)&&decide (k1<7))=true then pure (ForInStep.done (none,na-1,nb,out.push x,g,k,k1))else pure (ForInStep.yield (none,na-1,nb,out.push x,g,k,k1))
def gl3(a b:Array Keyed)(na nb:Nat)(out:Array Keyed)(g k bc:Nat):Sm (ForInStep H2):=do let x<-elem' a (na-1)let r<-gH true x b 0 nb (nb-1)match r with|some t=>if nb-t>0 then if(t==1)=true then pure (ForInStep.done (some (fb a b (out++(b.extract t nb).reverse) na t),na,t,out++(b.extract t nb).reverse,g,k,nb-t))else if(t==0)=true then pure (ForInStep.done (some (dn a b (out++(b.extract t nb).reverse) na t),na,t,out++(b.extract t nb).reverse,g,k,nb-t))else gl4 a b na t (out++(b.extract t nb).reverse) g k (nb-t)else gl4 a b na nb out g k (nb-t)|_=>pure (ForInStep.done (some (dn a b out na nb),na,nb,out,g,k,bc))
def gl2(a b:`h)(na nb:Nat)(out:`h)(g k bc:Nat):Sm (ForInStep H2):=do let y<-elem' b (nb-1)if(nb-1==1)=true then pure (ForInStep.done (some (fb a b (out.push y) na (nb-1)),na,nb-1,out.push y,g,k,bc))else gl3 a b na (nb-1) (out.push y) g k bc
def gl1(a b:`h)(na nb:Nat)(out:`h)(g ac bc:Nat):Sm (ForInStep H2):=do lu g let y<-elem' b (nb-1)let r<-gH false y a 0 na (na-1)match r with|some t=>if na-t>0 then if(t==0)=true then pure (ForInStep.done (some (dn a b (out++(a.extract t na).reverse) t nb),t,nb,out++(a.extract t na).reverse,g,na-t,bc))else gl2 a b t nb (out++(a.extract t na).reverse) g (na-t) bc else gl2 a b na nb out g (na-t) bc|_=>pure (ForInStep.done (some (dn a b out na nb),na,nb,out,g,ac,bc))
def gal(a b:`h)(na nb:Nat)(out:`h)(g ac bc:Nat):Sm (ForInStep H2):=if g>1 then gl1 a b na nb out (g-1) ac bc else gl1 a b na nb out g ac bc
def round(a b:Array Keyed)(na nb:Nat)(out:Array Keyed)(g:Nat):Sm (ForInStep H0):=do let c<-forIn [0:a.size+b.size] ((none,na,nb,out,0,0):H1) λ_ c=>one a b g c.2.1 c.2.2.1 c.2.2.2.1 c.2.2.2.2.1 c.2.2.2.2.2 match c.1 with|some r=>pure (ForInStep.done (some r,c.2.1,c.2.2.1,c.2.2.2.1,g))|none=>do liftM (rule "list.sort.gallop")let d<-forIn [0:a.size+b.size] ((none,c.2.1,c.2.2.1,c.2.2.2.1,g+1,c.2.2.2.2.1,c.2.2.2.2.2):H2) λ_ d=>gal a b d.2.1 d.2.2.1 d.2.2.2.1 d.2.2.2.2.1 d.2.2.2.2.2.1 d.2.2.2.2.2.2 match d.1 with|some r=>pure (ForInStep.done (some r,d.2.1,d.2.2.1,d.2.2.2.1,d.2.2.2.2.1))|none=>do lu (d.2.2.2.2.1+1)pure (ForInStep.yield (none,d.2.1,d.2.2.1,d.2.2.2.1,d.2.2.2.2.1+1))
theorem O9(a b:`h):lD a b=(do liftM (rule "list.sort.merge-hi")let e<-elem' a (a.size-1)if(a.size-1==0)=true then pure (dn a b #[e] (a.size-1) b.size)else if(b.size==1)=true then pure (fb a b #[e] (a.size-1) b.size)else do let s<-get let c<-forIn [0:a.size+b.size] ((none,a.size-1,b.size,#[e],gallopOf s):H0) λ_ c=>round a b c.2.1 c.2.2.1 c.2.2.2.1 c.2.2.2.2 match c.1 with|some r=>pure r|none=>liftM (unsupported "internal:list.sort.merge-bound")):=by
 delta lD;show bc O (funext λu=>bc O (funext λe=>ic O (ic O (bc O (funext λs=>bc (fi (funext λx=>funext λc=>?_)) (funext λc=>?_))))))
 .unfold round;refine bc (fi (funext λx=>funext λc1=>?_)) (funext λc1=>?_);.unfold one;refine bc O (funext λy=>bc O (funext λx=>bc O (funext λr=>?_)));cases r with|none=>rfl;|some w=>show ic (bc O (funext λy=>ic O (ic O O))) (bc O (funext λy=>ic O (ic O O)))
  .obtain⟨r,c1⟩:=c1;cases r with|some r=>rfl;|none=>
    show bc O (funext λu=>bc (fi (funext λx=>funext λd=>?_)) (funext λd=>?_));.unfold gal;show ic ?_ ?_<;>(unfold gl1;show bc O (funext λu=>bc O (funext λy=>bc O (funext λr=>by rfl))))
    .obtain⟨r,d⟩:=d;cases r<;>rfl
 .obtain⟨r,c⟩:=c;cases r<;>rfl
section
variable{α:Type}
structure MH(le:α->α->Prop)(la lb lo:List α)(na nb:Nat):Prop where
 pm:lo.Perm (la.drop na++lb.drop nb)sr:lo.Pairwise le
 be:∀x∈lo,∀y,y∈la.take na\/y∈lb.take nb->le y x
theorem Ah{l:List α}(h:i<=j)(hy:y∈l.take i):y∈l.take j:=by rw[show i=min i j by lia,<-List.take_take]at hy;show Zaz hy
theorem cut_drop{l:List α}(h:t<=n)(hn:n<=l.length):(l.take n).drop t++l.drop n=l.drop t:=by have e:=γ n l;have:(l.take n++l.drop n).drop t=(l.take n).drop t++l.drop n:=List.drop_append_of_le_length (by rw[ė];lia);rw[e]at this;show this.symm
theorem Fd{l:List α}(hp:l.Pairwise le)(h:t<=n):∀y∈l.take t,∀x∈(l.take n).drop t,le y x:=by have h2:(l.take n).Pairwise le:=hp.sublist (Za2 _ _);have e:=γ t (l.take n);rw[<-e]at h2;rw[List.take_take,show min t n=t by lia]at h2;show λy hy x hx=>(ź.mp h2).2.2 y hy x hx
theorem MH.segA{la lb lo:List α}(m:MH le la lb lo na nb)(sa:la.Pairwise le)(ht:t<=na)(hn:na<=la.length)(h:∀x∈(la.take na).drop t,∀y∈lb.take nb,le y x):MH le la lb ((la.take na).drop t++lo) t nb:=by
 show⟨?_,ź.mpr ⟨(sa.sublist (Za2 _ _)).sublist (Za3 _ _),m.sr,λx hx y hy=>m.be y hy x (.inl (Zbr hx))⟩,λx hx y hy=>?_⟩;.refine(List.Perm.append_left _ m.pm).trans ?_;rw[<-Ġ,cut_drop ht hn]
 .rcases è.mp hx with z|z
  .rcases hy with hy|hy;.exact Fd sa ht y hy x z
   .exact h x z y hy
  .exact m.be x z y (hy.imp (Ah ht) id)
theorem MH.segB{la lb lo:List α}(m:MH le la lb lo na nb)(sb:lb.Pairwise le)(ht:t<=nb)(hn:nb<=lb.length)(h:∀x∈(lb.take nb).drop t,∀y∈la.take na,le y x):MH le la lb ((lb.take nb).drop t++lo) na t:=by
 show⟨?_,ź.mpr ⟨(sb.sublist (Za2 _ _)).sublist (Za3 _ _),m.sr,λx hx y hy=>m.be y hy x (.inr (Zbr hx))⟩,λx hx y hy=>?_⟩;.refine(List.Perm.append_left _ m.pm).trans ?_;show(List.perm_append_comm_assoc _ _ _).trans ?_;rw[cut_drop ht hn]
 .rcases è.mp hx with z|z
  .rcases hy with hy|hy;.exact h x z y hy
   .exact Fd sb ht y hy x z
  .exact m.be x z y (hy.imp id (Ah ht))
theorem MH.first{la lb lo:List α}(m:MH le la lb lo na nb)(sa:la.Pairwise le)(sb:lb.Pairwise le)(h:∀y∈lb.take nb,∀x∈la.take na,le y x):τ le la lb (lb.take nb++la.take na++lo):=by
 show⟨?_,ź.mpr ⟨ź.mpr ⟨sb.sublist (Za2 _ _),sa.sublist (Za2 _ _),h⟩,m.sr,λx hx y hy=>m.be y hy x ((è.mp hx).symm)⟩⟩;show(List.Perm.append_left _ m.pm).trans ?_;have e:lb.take nb++la.take na++(la.drop na++lb.drop nb)=lb.take nb++(la++lb.drop nb):=by rw[Ġ,<-Ġ (la.take na),γ]
 rw[e];show(List.perm_append_comm_assoc _ _ _).trans ?_;rw[γ]
theorem MH.endA{la lb lo:List α}(m:MH le la lb lo 0 nb)(sa:la.Pairwise le)(sb:lb.Pairwise le):τ le la lb (la.take 0++lb.take nb++lo):=by have:=m.first sa sb λy _ x hx=>absurd hx Õ;rw[Zb6,Ĕ]at this;show this
theorem MH.endB{la lb lo:List α}(m:MH le la lb lo na 0)(sa:la.Pairwise le)(sb:lb.Pairwise le):τ le la lb (la.take na++lb.take 0++lo):=by have:=m.first sa sb λy hy x _=>absurd hy Õ;rw[Zb6,Ĕ];show this
end
section
theorem CT(a:`h)(n:Nat):(a.extract 0 n).toList=a.toList.take n:=by simp
theorem ext_cut(a:`h)(t n:Nat):(a.extract t n).toList=(a.toList.take n).drop t:=by rw[jc,List.drop_take]
theorem wz(out:`h)(x:Keyed):(out.push x).reverse.toList=x::out.reverse.toList:=by simp
theorem Ai(out seg:`h):(out++seg.reverse).reverse.toList=seg.toList++out.reverse.toList:=by simp
abbrev Mh(κ:Ś)(a b out:`h)(na nb:Nat):Prop:=MH (leK κ) a.toList b.toList out.reverse.toList na nb
structure At(κ:Ś)(a b out:`h)(na nb:Nat):Prop where
 mi:Mh κ a b out na nb
 a1:1<=na
 a2:na<=a.size
 b1:2<=nb
 b2:nb<=b.size
theorem iI(ka:KeysOf κ a)(h1:1<=n)(h2:n<=a.size):∃p,a[n-1]?=some p/\κ.keyOf p.1=some (key κ p)/\KK κ a (n-1)=key κ p/\(a.toList.take n).drop (n-1)=[p]:=by obtain⟨p,p1,p2,p3,p4⟩:=item ka (i:=n-1) À;show⟨p,p1,p2,p3,?_⟩;rw[List.drop_take,p4,show n-(n-1)=1 by lia];rfl
theorem take_key(ka:KeysOf κ a)(h:x∈(a.toList.take n).drop t):∃j,t<=j/\j<n/\j<a.size/\KK κ a j=key κ x:=by rw[List.drop_take]at h;obtain⟨j,j1,j2,j3⟩:=lA ka h;show⟨t+j,À,À,j2,j3⟩
theorem take_key0(ka:KeysOf κ a)(h:x∈a.toList.take n):∃j,j<n/\j<a.size/\KK κ a j=key κ x:=by
 have h':x∈(a.toList.take n).drop 0:=by rw[List.drop_zero];show h
 obtain⟨j,_,j1,j2,j3⟩:=take_key ka h';show⟨j,j1,j2,j3⟩
theorem Aj(ka:KeysOf κ a)(sa:a.toList.Pairwise (leK κ))(h1:1<=n)(h2:n<=a.size)(e:KK κ a (n-1)=key κ p):∀y∈a.toList.take n,leK κ y p:=λy hy=>by obtain⟨j,j1,j2,j3⟩:=take_key0 ka hy;have:=lB ka sa (i:=j) (j:=n-1) À À;rw[j3,e]at this;show this
theorem pushA{out:`h}(T:ĺ κ a b)(m:Mh κ a b out na nb)(h1:1<=na)(h2:na<=a.size)(e:(a.toList.take na).drop (na-1)=[x])(h:∀y∈b.toList.take nb,leK κ y x):Mh κ a b (out.push x) (na-1) nb:=by
 have:=MH.segA (t:=na-1) m T.sa À (by rw[Ğ];show h2) λz hz y hy=>by rw[e]at hz;rw[ĸ.mp hz];show h y hy
 rw[e]at this;unfold Mh;rw[wz];show this
theorem pushB{out:`h}(T:ĺ κ a b)(m:Mh κ a b out na nb)(h1:1<=nb)(h2:nb<=b.size)(e:(b.toList.take nb).drop (nb-1)=[x])(h:∀y∈a.toList.take na,leK κ y x):Mh κ a b (out.push x) na (nb-1):=by
 have:=MH.segB (t:=nb-1) m T.sb À (by rw[Ğ];show h2) λz hz y hy=>by rw[e]at hz;rw[ĸ.mp hz];show h y hy
 rw[e]at this;unfold Mh;rw[wz];show this
theorem Oa(T:ĺ κ a b)(m:Mh κ a b out na nb)(ht:t<=na)(h2:na<=a.size)(h:∀x∈(a.toList.take na).drop t,∀y∈b.toList.take nb,leK κ y x):Mh κ a b (out++(a.extract t na).reverse) t nb:=by have:=MH.segA m T.sa ht (by rw[Ğ];show h2) h;unfold Mh;rw[Ai,ext_cut];show this
theorem Ob(T:ĺ κ a b)(m:Mh κ a b out na nb)(ht:t<=nb)(h2:nb<=b.size)(h:∀x∈(b.toList.take nb).drop t,∀y∈a.toList.take na,leK κ y x):Mh κ a b (out++(b.extract t nb).reverse) na t:=by have:=MH.segB m T.sb ht (by rw[Ğ];show h2) h;unfold Mh;rw[Ai,ext_cut];show this
def FirstB(κ:Ś)(a b:`h):Prop:=∀y∈b.toList.take 1,∀x∈a.toList,leK κ y x
theorem e_a(T:ĺ κ a b)(m:Mh κ a b out na nb)(h:na=0):Rs κ a b (dn a b out na nb):=by subst h;have:=MH.endA m T.sa T.sb;unfold Rs dn;rw[ύ,ύ,CT,CT];show this
theorem e_b(T:ĺ κ a b)(m:Mh κ a b out na nb)(h:nb=0):Rs κ a b (dn a b out na nb):=by subst h;have:=MH.endB m T.sa T.sb;unfold Rs dn;rw[ύ,ύ,CT,CT];show this
theorem e_f(T:ĺ κ a b)(F:FirstB κ a b)(m:Mh κ a b out na nb)(h:nb=1):Rs κ a b (fb a b out na nb):=by subst h;have:=MH.first m T.sa T.sb λy hy x hx=>F y hy x (Zaz hx);unfold Rs fb;rw[ύ,ύ,CT,CT];show this
theorem yz(hL:LtAll prog w A E s κ ks)(T:ĺ κ a b)(F:FirstB κ a b){g na nb ac bc:Nat}{st:SortSt}(hk:kindOf st=ks)(m:At κ a b out na nb):wpS (model prog w) A E s (one a b g na nb out ac bc) (λr Æ=>Æ=st/\match r with|.done c=>(∃z,c.1=some z/\Rs κ a b z)\/(c.1=none/\At κ a b c.2.2.2.1 c.2.1 c.2.2.1/\c.2.1+c.2.2.1+1=na+nb)|.yield c=>c.1=none/\At κ a b c.2.2.2.1 c.2.1 c.2.2.1/\c.2.1+c.2.2.1+1=na+nb) st:=by
 obtain⟨mi,a1,a2,b1,b2⟩:=m;obtain⟨x,x1,x2,x3,x4⟩:=iI T.ka a1 a2;obtain⟨y,y1,y2,y3,y4⟩:=iI T.kb (show 1<=nb by lia) b2;unfold one;show Þ (bA y1 (Þ (bA x1 (Þ (hL st hk _ _ _ _ _ y2 x2 ?_)))))
 cases e:κ.blt (key κ y) (key κ x)with|true=>
  dsimp only;show Þ (bA x1 ?_);have m':=pushA T mi a1 a2 x4 λz hz=>dW (Aj T.kb T.sb À b2 y3 z hz) (KeyOrd.kle_of_klt e);by_cases h0:na-1=0;.rw[Ê (by simpa using h0)];show ã ⟨O,.inl ⟨_,O,e_a T m' h0⟩⟩
  .rw[Ç (by simpa using h0)];have at':At κ a b (out.push x) (na-1) nb:=⟨m',À,À,b1,b2⟩;split;.exact ã ⟨O,.inr ⟨O,at',by dsimp only;lia⟩⟩
   .exact ã ⟨O,O,at',by dsimp only;lia⟩;|false=>
  dsimp only;show Þ (bA y1 ?_);have m':=pushB T mi À b2 y4 λz hz=>dW (Aj T.ka T.sa a1 a2 x3 z hz) (e);by_cases h0:nb-1=1;.rw[Ê (by simpa using h0)];show ã ⟨O,.inl ⟨_,O,e_f T F m' h0⟩⟩
  .rw[Ç (by simpa using h0)];have at':At κ a b (out.push y) na (nb-1):=⟨m',a1,a2,À,À⟩;split;.exact ã ⟨O,.inr ⟨O,at',by dsimp only;lia⟩⟩
   .exact ã ⟨O,O,at',by dsimp only;lia⟩
def G2(κ:Ś)(a b:Array Keyed)(n:Nat)(st:SortSt)(r:ForInStep H2)(Æ:SortSt):Prop:=SG st Æ/\match r with|.done c=>(∃z,c.1=some z/\Rs κ a b z)\/(c.1=none/\At κ a b c.2.2.2.1 c.2.1 c.2.2.1/\c.2.1+c.2.2.1<n)|.yield c=>c.1=none/\At κ a b c.2.2.2.1 c.2.1 c.2.2.1/\c.2.1+c.2.2.1<n
theorem pW(T:ĺ κ a b){cv st:SortSt}(sg:SG cv st)(m:At κ a b out na nb)(hn:na+nb<=n)(h:∀y∈b.toList.take nb,∀x,a[na-1]?=some x->leK κ y x):wpS `a A E s (gl4 a b na nb out g k k1) (G2 κ a b n cv) st:=by
 obtain⟨mi,a1,a2,b1,b2⟩:=m;obtain⟨x,x1,x2,x3,x4⟩:=iI T.ka a1 a2;show Þ (bA x1 ?_);have m':=pushA T mi a1 a2 x4 λz hz=>h z hz x x1;by_cases h0:na-1=0;.rw[Ê (by simpa using h0)];show ã ⟨sg,.inl ⟨_,O,e_a T m' h0⟩⟩
 .rw[Ç (by simpa using h0)];have at':At κ a b (out.push x) (na-1) nb:=⟨m',À,À,b1,b2⟩;split;.exact ã ⟨sg,.inr ⟨O,at',by dsimp only;lia⟩⟩
  .exact ã ⟨sg,O,at',by dsimp only;lia⟩
theorem yC(hL:LtAll prog w A E s κ ks)(T:ĺ κ a b)(F:FirstB κ a b){g na nb k bc n:Nat}{cv st:SortSt}(hk:kindOf st=ks)(sg:SG cv st)(m:At κ a b out na nb)(hn:na+nb<=n):wpS `a A E s (gl3 a b na nb out g k bc) (G2 κ a b n cv) st:=by
 obtain⟨mi,a1,a2,b1,b2⟩:=id m;obtain⟨x,x1,x2,x3,x4⟩:=iI T.ka a1 a2;unfold gl3;show Þ (bA x1 ?_);show Þ (eV (κ:=κ) (kk:=key κ x) (hL st hk) x2 À (λi hi=>?_) (λi j de hj kR=>?_) λt kn kt kf=>?_);.obtain⟨p,p1,p2,p3,_⟩:=item T.kb (i:=0+i) À;show⟨p,_,p1,p2,p3⟩
 .have mono:=lB T.kb T.sb (i:=0+i) (j:=0+j) À À;show KeyOrd.klt_of_kle_of_klt mono kR
 .have early:∀y∈b.toList.take t,∀z,a[na-1]?=some z->leK κ y z:=λy hy z hz=>by rw[x1]at hz;cases hz;obtain⟨j,j1,j2,j3⟩:=take_key0 T.kb hy;have:=kt j j1;rw[Zca,j3]at this;show KeyOrd.kle_of_klt this
  by_cases h0:nb-t>0
  .dsimp only;rw[Ê h0];have m':=Ob T mi (show t<=nb by lia) b2 λz hz y hy=>by obtain⟨j,j1,j2,j3,j4⟩:=take_key T.kb hz;have:=kf j j1 j2;rw[Zca,j4]at this;show dW (Aj T.ka T.sa a1 a2 x3 y hy) (this)
   by_cases e:t=1;.rw[Ê (by simpa using e)];show ã ⟨sg,.inl ⟨_,O,e_f T F m' e⟩⟩
   .rw[Ç (by simpa using e)];by_cases e2:t=0;.rw[Ê (by simpa using e2)];show ã ⟨sg,.inl ⟨_,O,e_b T m' e2⟩⟩
    .rw[Ç (by simpa using e2)];show pW T sg ⟨m',a1,a2,À,À⟩ À early
  .dsimp only;rw[Ç h0];have e:t=nb:=À;rw[e]at early;show pW T sg m hn early
theorem pZ(hL:LtAll prog w A E s κ ks)(T:ĺ κ a b)(F:FirstB κ a b){g na nb k bc n:Nat}{cv st:SortSt}(hk:kindOf st=ks)(sg:SG cv st)(m:At κ a b out na nb)(hn:na+nb<=n)(h:∀x∈a.toList.take na,∀y,b[nb-1]?=some y->leK κ x y):wpS `a A E s (gl2 a b na nb out g k bc) (G2 κ a b n cv) st:=by
 obtain⟨mi,a1,a2,b1,b2⟩:=m;obtain⟨y,y1,y2,y3,y4⟩:=iI T.kb (show 1<=nb by lia) b2;show Þ (bA y1 ?_);have m':=pushB T mi À b2 y4 λz hz=>h z hz y y1;by_cases h0:nb-1=1;.rw[Ê (by simpa using h0)];show ã ⟨sg,.inl ⟨_,O,e_f T F m' h0⟩⟩
 .rw[Ç (by simpa using h0)];show yC hL T F hk sg ⟨m',a1,a2,À,À⟩ À
theorem yD(hL:LtAll prog w A E s κ ks)(T:ĺ κ a b)(F:FirstB κ a b){g na nb ac bc n:Nat}{cv st:SortSt}(hk:kindOf st=ks)(sg:SG cv st)(m:At κ a b out na nb)(hn:na+nb<=n):wpS `a A E s (gl1 a b na nb out g ac bc) (G2 κ a b n cv) st:=by
 obtain⟨mi,a1,a2,b1,b2⟩:=id m;obtain⟨y,y1,y2,y3,y4⟩:=iI T.kb (show 1<=nb by lia) b2;show Þ (jn λÆ hJ=>?_);have dA:kindOf Æ=ks:=hJ.kind.trans hk;have cE:SG cv Æ:=⟨hJ.kind.trans sg.kind,hJ.arr.trans sg.arr,hJ.pend.trans sg.pend,hJ.fail.trans sg.fail⟩;show Þ (bA y1 ?_);show Þ (eV (κ:=κ) (kk:=key κ y) (hL Æ dA) y2 À (λi hi=>?_) (λi j de hj kR=>?_) λt kn kt kf=>?_);.obtain⟨p,p1,p2,p3,_⟩:=item T.ka (i:=0+i) À;show⟨p,_,p1,p2,p3⟩
 .have mono:=lB T.ka T.sa (i:=0+i) (j:=0+j) À À;have kR:(!κ.blt (key κ y) (KK κ a (0+j)))=true:=kR;show(!κ.blt (key κ y) (KK κ a (0+i)))=true;rw[Zba]at kR⊢;show KeyOrd.kle_trans mono kR
 .have early:∀x∈a.toList.take t,∀z,b[nb-1]?=some z->leK κ x z:=λx hx z hz=>by rw[y1]at hz;cases hz;obtain⟨j,j1,j2,j3⟩:=take_key0 T.ka hx;have:=kt j j1;rw[Zca,j3]at this;have this:(!κ.blt (key κ y) (key κ x))=true:=this;rw[Zba]at this;show this
  by_cases h0:na-t>0
  .dsimp only;rw[Ê h0];have m':=Oa T mi (show t<=na by lia) a2 λz hz x hx=>by obtain⟨j,j1,j2,j3,j4⟩:=take_key T.ka hz;have:=kf j j1 j2;rw[Zca,j4]at this;have this:(!κ.blt (key κ y) (key κ z))=false:=this;rw[Bool.not_eq_false']at this;show dW (Aj T.kb T.sb À b2 y3 x hx) (KeyOrd.kle_of_klt this)
   by_cases e:t=0;.rw[Ê (by simpa using e)];show ã ⟨cE,.inl ⟨_,O,e_a T m' e⟩⟩
   .rw[Ç (by simpa using e)];show pZ hL T F dA cE ⟨m',À,À,b1,b2⟩ À early
  .dsimp only;rw[Ç h0];have e:t=na:=À;rw[e]at early;show pZ hL T F dA cE m hn early
theorem q9(hL:LtAll prog w A E s κ ks)(T:ĺ κ a b)(F:FirstB κ a b){cv st:SortSt}(hk:kindOf st=ks)(sg:SG cv st)(m:At κ a b out na nb):wpS `a A E s (round a b na nb out g) (λr Æ=>SG cv Æ/\match r with|.done c=>∃z,c.1=some z/\Rs κ a b z|.yield c=>c.1=none/\At κ a b c.2.2.2.1 c.2.1 c.2.2.1/\c.2.1+c.2.2.1<na+nb) st:=by
 have Vb:0<a.size+b.size:=by have:=m.a1;have:=m.a2;lia
 show Þ (wpS_mono (wpS_forRange (I:=λx c Æ=>Æ=st/\c.1=none/\At κ a b c.2.2.2.1 c.2.1 c.2.2.1/\c.2.1+c.2.2.1+x=na+nb) (Q:=λc Æ=>Æ=st/\((∃z,c.1=some z/\Rs κ a b z)\/(c.1=none/\At κ a b c.2.2.2.1 c.2.1 c.2.2.1/\c.2.1+c.2.2.1<na+nb))) ?_ ?_ ⟨O,O,m,O⟩) ?_)
 .rintro x⟨c0,i,j,o,ac,bc⟩Æ _ hx⟨rfl,rfl,m',e⟩;dsimp only at m' e⊢;show wpS_mono (yz hL T F hk m') λr st2 h2=>?_;obtain⟨rfl,h2⟩:=h2
  cases r with|done c=>
   rcases h2 with h2|⟨h2,h3,h4⟩;.exact⟨O,.inl h2⟩
   .exact⟨O,.inr ⟨h2,h3,À⟩⟩;|yield c=>obtain⟨h2,h3,h4⟩:=h2;show⟨O,h2,h3,À⟩
 .rintro c Æ⟨rfl,h1,h2,h3⟩;show⟨O,.inr ⟨h1,h2,À⟩⟩
 .rintro⟨c0,i,j,o,ac,bc⟩Æ⟨rfl,h⟩;dsimp only at h⊢;rcases h with⟨z,rfl,hz⟩|⟨rfl,m',de⟩;.exact ã ⟨sg,z,O,hz⟩
  .dsimp only;show Þ (wpS_lift (wpAny_rule ⟨O,?_⟩));show Þ (wpS_mono (wpS_forRange (I:=λx c st2=>SG cv st2/\c.1=none/\At κ a b c.2.2.2.1 c.2.1 c.2.2.1/\c.2.1+c.2.2.1<na+nb) (Q:=λc st2=>SG cv st2/\((∃z,c.1=some z/\Rs κ a b z)\/(c.1=none/\At κ a b c.2.2.2.1 c.2.1 c.2.2.1/\c.2.1+c.2.2.1<na+nb))) ?_ ?_ ⟨sg,O,m',de⟩) ?_)
   .rintro x⟨c0,i,j,o,g2,ac,bc⟩st2 _ hx⟨cE,rfl,m2,e2⟩;dsimp only at m2 e2⊢;have yb:kindOf st2=ks:=cE.kind.trans (sg.kind.symm.trans hk);have go:∀g',wpS (model prog w) A E s (gl1 a b i j o g' ac bc) (G2 κ a b (na+nb) cv) st2:=λg'=>yD hL T F yb cE m2 À;unfold gal;split;.refine wpS_mono (go _) λr gz h3=>?_;obtain⟨h3,h4⟩:=h3;cases r with|done c=>exact⟨h3,h4⟩;|yield c=>show⟨h3,h4⟩
    .refine wpS_mono (go _) λr gz h3=>?_;obtain⟨h3,h4⟩:=h3;cases r with|done c=>exact⟨h3,h4⟩;|yield c=>show⟨h3,h4⟩
   .rintro c st2⟨h0,h1,h2,h3⟩;show⟨h0,.inr ⟨h1,h2,h3⟩⟩
   .rintro⟨c0,i,j,o,g2,ac,bc⟩st2⟨cE,h⟩;dsimp only at h⊢;rcases h with⟨z,rfl,hz⟩|⟨rfl,m2,yn⟩;.exact ã ⟨cE,z,O,hz⟩
    .dsimp only;show Þ (jn λgz rV=>ã ⟨⟨rV.kind.trans cE.kind,rV.arr.trans cE.arr,rV.pend.trans cE.pend,rV.fail.trans cE.fail⟩,O,m2,yn⟩)
theorem hi_wp(hL:LtAll prog w A E s κ ks)(T:ĺ κ a b)(L:jC κ a b)(F:FirstB κ a b)(ha:0<a.size)(hb:0<b.size){st:SortSt}(hk:kindOf st=ks)(h:∀r Æ,SG st Æ->Rs κ a b r->Q r Æ):wpS `a A E s (lD a b) Q st:=by
 rw[O9];obtain⟨x,x1,x2,x3,x4⟩:=iI T.ka (n:=a.size) ha (Ø _);show Þ (wpS_lift (wpAny_rule ⟨O,?_⟩));show Þ (bA x1 ?_);have m0:Mh κ a b #[] a.size b.size:=by show⟨?_,List.Pairwise.nil,λx hx=>absurd hx Õ⟩;rw[Zbm (by rw[Ğ];show Ø _),Zbm (by rw[Ğ];show Ø _)];show List.Perm.nil
 have m:Mh κ a b #[x] (a.size-1) b.size:=pushA (out:=#[]) T m0 ha (Ø _) x4 λy hy=>L y (Zaz hy) x (by rw[<-Ğ,Ņ,Ğ]at x4;rw[x4];show Ζ);by_cases e1:a.size-1=0;.rw[Ê (by simpa using e1)];show ã (h _ st (SG.refl _) (e_a T m e1))
 .rw[Ç (by simpa using e1)];by_cases e2:b.size=1;.rw[Ê (by simpa using e2)];show ã (h _ st (SG.refl _) (e_f T F m e2))
  .rw[Ç (by simpa using e2)];refine Þ (wpS_get ?_);refine Þ (wpS_mono (wpS_forRange (I:=λx c Æ=>SG st Æ/\c.1=none/\At κ a b c.2.2.2.1 c.2.1 c.2.2.1/\c.2.1+c.2.2.1+x<a.size+b.size) (Q:=λc Æ=>SG st Æ/\∃z,c.1=some z/\Rs κ a b z) ?_ ?_ ⟨SG.refl _,O,⟨m,by dsimp only;lia,by dsimp only;lia,by dsimp only;lia,Ø _⟩,by dsimp only;lia⟩) ?_);.rintro x⟨c0,i,j,o,g⟩Æ _ hx⟨sg,rfl,m',e⟩;dsimp only at m' e⊢;refine wpS_mono (q9 hL T F (sg.kind.trans hk) sg m') λr st2 h2=>?_;obtain⟨cE,h2⟩:=h2;cases r with|done c=>exact⟨cE,h2⟩;|yield c=>obtain⟨h2,h3,h4⟩:=h2;show⟨cE,h2,h3,À⟩
   .rintro c Æ⟨sg,h1,m',e⟩;show absurd e À
   .rintro⟨c0,i,j,o,g⟩Æ⟨sg,z,e,hz⟩;rw[e];show ã (h z Æ sg hz)
end
end Hi
open PySem PyProof.Rows
def over(arr:`h)(n:Nat)(l:List Keyed):`h:=l.zipIdx.foldl (λa p=>a.setIfInBounds (n+p.2) p.1) arr
theorem uR:∀(l:List Keyed)j n(arr:`h),n+j+l.length<=arr.size->(((l.zipIdx j).foldl (λa p=>a.setIfInBounds (n+p.2) p.1) arr).size=arr.size/\∀i,((l.zipIdx j).foldl (λa p=>a.setIfInBounds (n+p.2) p.1) arr)[i]?=if n+j<=i/\i<n+j+l.length then l[i-(n+j)]? else arr[i]?)
 |[],j,n,arr,_=>by refine⟨O,λi=>?_⟩;rw[Ç (by rw[Zbu];lia)];rfl;|p::l,j,n,arr,h=>by
  rw[İ]at h;rw[List.zipIdx_cons,Zcf];obtain⟨h1,h2⟩:=uR l (j+1) n (arr.setIfInBounds (n+j) p) (by rw[Zcc];lia);show⟨by rw[h1,Zcc],λi=>?_⟩;rw[h2 i,İ,Array.getElem?_setIfInBounds];by_cases e:n+j=i;.subst e;rw[Ç À,Ê O,Ê À];simp
  .rw[Ç e];by_cases e2:n+(j+1)<=i/\i<n+(j+1)+l.length;.rw[Ê e2,Ê À,show i-(n+j)=(i-(n+(j+1)))+1 by lia];rfl
   .rw[Ç e2,Ç À]
theorem CV(h:n+l.length<=arr.size):(over arr n l).toList=arr.toList.take n++l++arr.toList.drop (n+l.length):=by
 obtain⟨h1,h2⟩:=uR l 0 n arr À;show Zbw λi=>?_;rw[ϱ];show((l.zipIdx 0).foldl (λa p=>a.setIfInBounds (n+p.2) p.1) arr)[i]?=_;have hl:arr.toList.length=arr.size:=Ğ;rw[h2 i,Ġ,List.getElem?_append,ė,hl,show min n arr.size=n by lia,List.getElem?_append];by_cases e1:i<n;.rw[Ç À,Ê e1,List.getElem?_take,Ê e1,ϱ]
 .rw[Ç e1];by_cases e2:i<n+l.length;.rw[Ê À,Ê À];rfl
  .rw[Ç À,Ç À,Zci,ϱ];congr 1;lia
theorem pw_of_seg(ka:KeysOf κ arr){lo hi:Nat}(hh:hi<=arr.size)(h:Ň κ arr lo hi):((arr.toList.take hi).drop lo).Pairwise (leK κ):=by
 rw[ϲ];intro i j eW iO de;rw[ζ,ė,Ğ,Nat.min_eq_left hh]at eW iO;rw[List.getElem_drop,List.getElem_drop,Zbe,Zbe];have fh:∀k,(hk:k<arr.toList.length)->k<arr.size->key κ arr.toList[k]=KK κ arr k:=λk hk dA=>by
  obtain⟨p,p1,p2,p3,p4⟩:=item ka dA;rw[p3];have e:arr.toList[k]?=some p:=by rw[ϱ];show p1
  rw[Ô hk]at e;rw[ģ e]
 unfold leK;rw[fh _ _ À,fh _ _ À];show h _ _ À À À
theorem CW(ka:KeysOf κ arr){lo hi:Nat}(hh:hi<=arr.size)(h:((arr.toList.take hi).drop lo).Pairwise (leK κ)):Ň κ arr lo hi:=by
 intro i j h1 h2 h3;by_cases e:i=j;.rw[e];show KeyOrd.kle_refl _
 .rw[ϲ]at h;have fh:∀k,(hk:k<arr.toList.length)->k<arr.size->key κ arr.toList[k]=KK κ arr k:=λk hk dA=>by
   obtain⟨p,p1,p2,p3,p4⟩:=item ka dA;rw[p3];have e:arr.toList[k]?=some p:=by rw[ϱ];show p1
   rw[Ô hk]at e;rw[ģ e]
  have:=h (i-lo) (j-lo) (by rw[ζ,ė,Ğ,Nat.min_eq_left hh];lia) (by rw[ζ,ė,Ğ,Nat.min_eq_left hh];lia) (Nat.sub_lt_sub_right h1 (Nat.lt_of_le_of_ne h2 e));rw[List.getElem_drop,List.getElem_drop,Zbe,Zbe]at this;unfold leK at this;rw[fh _ _ À,fh _ _ À]at this;rw[show lo+(i-lo)=i by lia,show lo+(j-lo)=j by lia]at this;show this
theorem Oc(i:Nat):mergeAt' i=(do let s<-get match(pendingOf s)[i]?,(pendingOf s)[i+1]? with
 |some p,some q=>do set (setPending s (((pendingOf s).setIfInBounds i (p.1,p.2.1+q.2.1,p.2.2)).eraseIdxIfInBounds (i+1)))let y<-elem' (arrOf s) q.1 let r<-gH false y (arrOf s) p.1 p.2.1 0 match r with
   |some k=>if(p.2.1-k==0)=true then pure true else do
 let x<-elem' (arrOf s) (p.1+k+(p.2.1-k)-1)let r<-gH true x (arrOf s) q.1 q.2.1 (q.2.1-1)
     match r with|some n=>if(n==0)=true then pure true else do
 let m<-if p.2.1-k<=n then kZ ((arrOf s).extract (p.1+k) q.1) ((arrOf s).extract q.1 (q.1+n))else lD ((arrOf s).extract (p.1+k) q.1) ((arrOf s).extract q.1 (q.1+n))
       modify λs'=>setArr s' (over (arrOf s') (p.1+k) m.toList)let s'<-get
       pure (failedOf s').isNone|_=>pure false
   |_=>pure false
  |_,_=>liftM (unsupported "internal:list.sort.pending")):=by delta mergeAt';refine bc O (funext λs=>?_);generalize e1:(pendingOf s)[i]?=o1;generalize e2:(pendingOf s)[i+1]?=o2;cases o1 with|none=>cases o2<;>rfl;|some p=>cases o2 with|none=>rfl;|some q=>refine bc O (funext λu=>bc O (funext λy=>bc O (funext λr=>?_)));cases r with|none=>rfl;|some k=>refine ic O (bc O (funext λx=>bc O (funext λr=>?_)));cases r with|none=>rfl;|some n=>show ic O (ic (bc O (funext λm=>rfl)) (bc O (funext λm=>rfl)))
theorem keys_perm(h0:KeysOf κ ae)(h:xs.Perm ae):KeysOf κ xs:=λp hp=>h0 p ((Zb5.mp h).mem_iff.mp hp)
theorem wA(h0:KeysOf κ xs)(i j:Nat):KeysOf κ (xs.extract i j):=λp hp=>by rw[jc]at hp;show h0 p (Zbr (Zaz hp))
section
structure Mg(κ:Ś)(ks:SortKind)(ae:`h)(st Æ:SortSt)(sa hi:Nat)(pend:Array (Nat×Nat×Nat)):Prop where
 base:SB ks ae Æ
 out:∀k,(k<sa\/hi<=k)->(arrOf Æ)[k]?=(arrOf st)[k]?
 seg:Ň κ (arrOf Æ) sa hi
 pend:pendingOf Æ=pend
theorem Fe{l:List Keyed}(h1:i<=j)(h2:j<=k)(h3:k<=m)(h4:m<=l.length):(l.take m).drop i=(l.take j).drop i++((l.take k).drop j++(l.take m).drop k):=by
 have c:∀{x y z:Nat},x<=y->y<=z->z<=l.length->(l.take z).drop x=(l.take y).drop x++(l.take z).drop y:=λ{x y z}a b d=>by have:=Hi.cut_drop (l:=l.take z) (t:=x) (n:=y) a (by rw[ė];lia);rw[List.take_take,show min y z=y by lia]at this;show this.symm
 rw[c h1 À h4,c h2 h3 h4]
theorem Od(hL:LtAll prog w A E s κ ks)(h0:KeysOf κ ae){st:SortSt}(B:SB ks ae st)(e1:(pendingOf st)[i]?=some (sa,na,pw))(e2:(pendingOf st)[i+1]?=some (sa+na,nb,RI))(n1:1<=na)(n2:1<=nb)(hz:sa+na+nb<=ae.size)(s1:Ň κ (arrOf st) sa (sa+na))(s2:Ň κ (arrOf st) (sa+na) (sa+na+nb))(h:∀Æ,Mg κ ks ae st Æ sa (sa+na+nb) (((pendingOf st).setIfInBounds i (sa,na+nb,pw)).eraseIdxIfInBounds (i+1))->Q true Æ):wpS `a A E s (mergeAt' i) Q st:=by
 rw[Oc];show Þ (wpS_get ?_);rw[e1,e2];dsimp only;have kA:KeysOf κ (arrOf st):=keys_perm h0 B.pm;have hsz:(arrOf st).size=ae.size:=B.size;have fx:(arrOf st).toList.length=ae.size:=by rw[Ğ,hsz]
 obtain⟨P,eP⟩:∃P,P=((pendingOf st).setIfInBounds i (sa,na+nb,pw)).eraseIdxIfInBounds (i+1):=`i;rw[<-eP]at h⊢;have LN:∀{R:PUnit->SortSt->Prop},R ⟨⟩ (setPending st P)->wpS `a A E s (set (setPending st P):Sm PUnit) R st:=λhR=>by unfold wpS;rw[StateT.run_set];show Ì ⟨O,hR⟩
 show Þ (LN ?_);obtain⟨hG,kS⟩:∃hG,hG=setPending st P:=`i;have k1:kindOf hG=ks:=by rw[kS];show B.kind
 have a1:arrOf hG=arrOf st:=by rw[kS]
 have p1:pendingOf hG=P:=by rw[kS]
 have f1:failedOf hG=none:=by rw[kS];show B.ok
 rw[<-kS];have all:Ň κ (arrOf st) sa (sa+na+nb)->Mg κ ks ae st hG sa (sa+na+nb) P:=λsg=>⟨⟨k1,f1,by rw[a1];show B.pm⟩,λk _=>by rw[a1],by rw[a1];show sg,p1⟩;obtain⟨y,y1,y2,y3,y4⟩:=item kA (i:=sa+na) À;show Þ (bA y1 ?_);show Þ (eV (κ:=κ) (kk:=key κ y) (hL hG k1) y2 À (λj hj=>?_) (λj j' Vc iO hb=>?_) λk kn kt kf=>?_);.obtain⟨p,q1,q2,q3,_⟩:=item kA (i:=sa+j) À;show⟨p,_,q1,q2,q3⟩
 .have mono:=s1 (sa+j) (sa+j') À À À;have hb:(!κ.blt (key κ y) (KK κ (arrOf st) (sa+j')))=true:=hb;show(!κ.blt (key κ y) (KK κ (arrOf st) (sa+j)))=true;rw[Zba]at hb⊢;show KeyOrd.kle_trans mono hb
 .have LO:∀j,sa<=j->j<sa+k->κ.kle (KK κ (arrOf st) j) (KK κ (arrOf st) (sa+na)):=λj j1 j2=>by have:=kt (j-sa) À;rw[show sa+(j-sa)=j by lia]at this;have this:(!κ.blt (key κ y) (KK κ (arrOf st) j))=true:=this;rw[Zba]at this;rw[y3];show this
  have Vd:∀j,sa+k<=j->j<sa+na->κ.kle (KK κ (arrOf st) (sa+na)) (KK κ (arrOf st) j):=λj j1 j2=>by have:=kf (j-sa) À À;rw[show sa+(j-sa)=j by lia]at this;have this:(!κ.blt (key κ y) (KK κ (arrOf st) j))=false:=this;rw[Bool.not_eq_false']at this;rw[y3];show KeyOrd.kle_of_klt this
  dsimp only;by_cases A6:na-k=0
  .rw[Ê (by simpa using A6)];show ã (h hG (all λu v hu DO hv=>?_));by_cases c1:v<sa+na;.exact s1 u v hu DO c1
   .by_cases c2:u<sa+na;.exact KeyOrd.kle_trans (LO u hu À) (s2 (sa+na) v (Ø _) À hv)
    .exact s2 u v À DO hv
  .have kK:sa+k+(na-k)=sa+na:=by rw[Nat.add_assoc,Nat.add_sub_of_le kn]
   rw[Ç (by simpa using A6),kK];obtain⟨x,x1,x2,x3,x4⟩:=item kA (i:=sa+na-1) À;show Þ (bA x1 ?_);show Þ (eV (κ:=κ) (kk:=key κ x) (hL hG k1) x2 À (λj hj=>?_) (λj j' Vc iO hb=>?_) λn nn nt nf=>?_);.obtain⟨p,q1,q2,q3,_⟩:=item kA (i:=sa+na+j) À;show⟨p,_,q1,q2,q3⟩
   .exact KeyOrd.klt_of_kle_of_klt (s2 (sa+na+j) (sa+na+j') À À À) hb
   .have Ve:∀j,sa+na<=j->j<sa+na+n->κ.kle (KK κ (arrOf st) j) (KK κ (arrOf st) (sa+na-1)):=λj j1 j2=>by have:=nt (j-(sa+na)) À;rw[show sa+na+(j-(sa+na))=j by lia]at this;rw[x3];show KeyOrd.kle_of_klt this
    have RJ:∀j,sa+na+n<=j->j<sa+na+nb->κ.kle (KK κ (arrOf st) (sa+na-1)) (KK κ (arrOf st) j):=λj j1 j2=>by have:=nf (j-(sa+na)) À À;rw[show sa+na+(j-(sa+na))=j by lia]at this;rw[x3];show this
    dsimp only;by_cases DS:n=0
    .rw[Ê (by simpa using DS)];show ã (h hG (all λu v hu DO hv=>?_));by_cases c1:v<sa+na;.exact s1 u v hu DO c1
     .by_cases c2:u<sa+na;.exact KeyOrd.kle_trans (s1 u (sa+na-1) hu À À) (RJ v À hv)
      .exact s2 u v À DO hv
    .rw[Ç (by simpa using DS)];obtain⟨X,eX⟩:∃X,X=(arrOf st).extract (sa+k) (sa+na):=`i;obtain⟨Y,eY⟩:∃Y,Y=(arrOf st).extract (sa+na) (sa+na+n):=`i;rw[<-eX,<-eY];have lX:X.toList=((arrOf st).toList.take (sa+na)).drop (sa+k):=by rw[eX,Hi.ext_cut]
     have lY:Y.toList=((arrOf st).toList.take (sa+na+n)).drop (sa+na):=by rw[eY,Hi.ext_cut]
     have zX:X.size=na-k:=by rw[<-Ğ,lX,ζ,ė,fx,Nat.min_eq_left À,Nat.add_sub_add_left]
     have zY:Y.size=n:=by rw[<-Ğ,lY,ζ,ė,fx,Nat.min_eq_left À,Nat.add_sub_cancel_left]
     have pA:=pw_of_seg kA À s1;have pB:=pw_of_seg kA À s2;have eA:=Fe (l:=(arrOf st).toList) (i:=sa) (j:=sa+k) (k:=sa+na) (m:=sa+na) À À (Ø _) (by rw[fx];lia);have eB:=Fe (l:=(arrOf st).toList) (i:=sa+na) (j:=sa+na+n) (k:=sa+na+nb) (m:=sa+na+nb) À À (Ø _) (by rw[fx];lia);have LP:((arrOf st).toList.take (sa+na)).drop (sa+na)=[]:=Zbm (by rw[ė];lia);have LS:((arrOf st).toList.take (sa+na+nb)).drop (sa+na+nb)=[]:=Zbm (by rw[ė];lia);rw[LP,Ĕ,<-lX]at eA;rw[LS,Ĕ,<-lY]at eB;obtain⟨A1,LU⟩:∃A1,A1=((arrOf st).toList.take (sa+k)).drop sa:=`i;obtain⟨B2,LV⟩:∃B2,B2=((arrOf st).toList.take (sa+na+nb)).drop (sa+na+n):=`i;rw[<-LU]at eA;rw[<-LV]at eB;rw[eA]at pA;rw[eB]at pB;obtain⟨Vf,pX,Vg⟩:=ź.mp pA;obtain⟨pY,Vh,Vi⟩:=ź.mp pB;have RK:∀z∈X.toList,∃j,sa+k<=j/\j<sa+na/\KK κ (arrOf st) j=key κ z:=λz dE=>by rw[lX]at dE;obtain⟨j,j1,j2,_,j4⟩:=Hi.take_key kA dE;show⟨j,j1,j2,j4⟩
     have RL:∀z∈Y.toList,∃j,sa+na<=j/\j<sa+na+n/\KK κ (arrOf st) j=key κ z:=λz dE=>by rw[lY]at dE;obtain⟨j,j1,j2,_,j4⟩:=Hi.take_key kA dE;show⟨j,j1,j2,j4⟩
     have Vj:∀z∈A1,∃j,sa<=j/\j<sa+k/\KK κ (arrOf st) j=key κ z:=λz dE=>by rw[LU]at dE;obtain⟨j,j1,j2,_,j4⟩:=Hi.take_key kA dE;show⟨j,j1,j2,j4⟩
     have RM:∀z∈B2,∃j,sa+na+n<=j/\j<sa+na+nb/\KK κ (arrOf st) j=key κ z:=λz dE=>by rw[LV]at dE;obtain⟨j,j1,j2,_,j4⟩:=Hi.take_key kA dE;show⟨j,j1,j2,j4⟩
     have TT:ĺ κ X Y:=⟨by rw[eX];show wA kA _ _,by rw[eY];show wA kA _ _,pX,pY⟩;have LL:jC κ X Y:=λz dE v hv=>by
      obtain⟨j,j1,j2,j3⟩:=RL z dE;obtain⟨j',DT,DU,yy⟩:=pU TT.ka hv;have ej:j'=X.size-1:=À;have e:KK κ X j'=KK κ (arrOf st) (sa+na-1):=by apply KK_congr;rw[eX,Array.getElem?_extract,Ê (by rw[eX,Array.size_extract]at DU;show DU),ej,zX,<-Nat.add_sub_assoc (Nat.pos_of_ne_zero A6),kK]
      show κ.kle (key κ z) (key κ v);rw[<-j3,<-yy,e];show Ve j j1 j2
     have F0:∀v∈X.toList,∀z,Y[0]?=some z->leK κ z v:=λv hv z dE=>by
      obtain⟨j,j1,j2,j3⟩:=RK v hv;have ez:z=y:=by rw[eY,Array.getElem?_extract,Ê À,Nat.add_zero,y1]at dE;show(ģ dE).symm
      show κ.kle (key κ z) (key κ v);rw[ez,<-y3,<-j3];show Vd j j1 j2
     have FB:Hi.FirstB κ X Y:=λz dE v hv=>by obtain⟨j,j1,j2,j3⟩:=Hi.take_key0 TT.kb dE;obtain⟨q,q1,q2,q3,_⟩:=item TT.kb (i:=0) À;have e0:j=0:=À;rw[e0,q3]at j3;have:=F0 v hv q q1;unfold leK at this⊢;rw[<-j3];show this
     have fin:∀m st2,SG hG st2->Rs κ X Y m->wpS `a A E s (do
 modify λs'=>setArr s' (over (arrOf s') (sa+k) m.toList)let s'<-get
       pure (failedOf s').isNone) Q st2:=λm st2 sg D=>by
      show Þ (wpS_modify (Þ (wpS_get (ã ?_))));have ft:(failedOf (setArr st2 (over (arrOf st2) (sa+k) m.toList))).isNone=true:=by show(failedOf st2).isNone=true;rw[sg.fail,f1];rfl
      rw[ft];have am:arrOf st2=arrOf st:=sg.arr.trans a1;have lm:m.toList.length=na-k+n:=by rw[D.pm.length_eq,à,Ğ,Ğ,zX,zY]
      have ol:(over (arrOf st) (sa+k) m.toList).toList=(arrOf st).toList.take (sa+k)++m.toList++(arrOf st).toList.drop (sa+na+n):=by rw[CV (by rw[lm,hsz];lia),lm,show sa+k+(na-k+n)=sa+na+n by lia]
      have DV:(over (arrOf st) (sa+k) m.toList).toList.Perm (arrOf st).toList:=by
       rw[ol];have e:(arrOf st).toList=(arrOf st).toList.take (sa+k)++(X.toList++Y.toList)++(arrOf st).toList.drop (sa+na+n):=by rw[lX,lY];have c1:=Hi.cut_drop (l:=(arrOf st).toList) (t:=sa+na) (n:=sa+na+n) À (by rw[fx];lia);have c2:=Hi.cut_drop (l:=(arrOf st).toList) (t:=sa+k) (n:=sa+na) À (by rw[fx];lia);rw[Ġ,Ġ,c1,c2,γ]
       conv=>rhs;rw[e]
       show List.Perm.append_right _ (List.Perm.append_left _ D.pm)
      have nz:(over (arrOf st) (sa+k) m.toList).Perm (arrOf st):=Zb5.mpr DV;have kO:KeysOf κ (over (arrOf st) (sa+k) m.toList):=keys_perm kA nz;have zO:(over (arrOf st) (sa+k) m.toList).size=ae.size:=nz.size_eq.trans hsz;have og:∀j,(over (arrOf st) (sa+k) m.toList)[j]?=if sa+k+0<=j/\j<sa+k+0+m.toList.length then m.toList[j-(sa+k+0)]? else(arrOf st)[j]?:=(uR m.toList 0 (sa+k) (arrOf st) (by rw[lm,hsz];lia)).2;show h _ ⟨⟨sg.kind.trans k1,by show failedOf st2=none;rw[sg.fail,f1],?_⟩,λj hj=>?_,?_,?_⟩;.show(over (arrOf st2) (sa+k) m.toList).Perm ae;rw[am];show nz.trans B.pm
      .show(over (arrOf st2) (sa+k) m.toList)[j]?=_;rw[am,og j,Ç (by rw[lm];lia)]
      .show Ň κ (over (arrOf st2) (sa+k) m.toList) sa (sa+na+nb);rw[am];show CW kO (by rw[zO];show hz) ?_;have cut:((over (arrOf st) (sa+k) m.toList).toList.take (sa+na+nb)).drop sa=A1++(m.toList++B2):=by
        rw[ol,LU,LV];have tl:((arrOf st).toList.take (sa+k)).length=sa+k:=by rw[ė,fx];lia
        rw[Ġ,List.take_append,tl,θ (l:=(arrOf st).toList.take (sa+k)) (by rw[tl];lia),List.take_append,lm,θ (l:=m.toList) (by rw[lm];lia)];rw[List.drop_append_of_le_length (by rw[tl];lia)];congr 2;rw[List.drop_take];congr 1;rw[Nat.sub_sub,show sa+k+(na-k+n)=sa+na+n by lia]
       rw[cut];show ź.mpr ⟨Vf,ź.mpr ⟨D.sr,Vh,λu hu v hv=>?_⟩,λu hu v hv=>?_⟩
       .rcases è.mp (D.pm.mem_iff.mp hu)with c|c;.obtain⟨j,j1,j2,j3⟩:=RK u c;obtain⟨j',DT,DU,yy⟩:=RM v hv;show κ.kle (key κ u) (key κ v);rw[<-j3,<-yy];show KeyOrd.kle_trans (s1 j (sa+na-1) À À À) (RJ j' DT DU)
        .exact Vi u c v hv
       .obtain⟨j,j1,j2,j3⟩:=Vj u hu;rcases è.mp hv with c|c
        .rcases è.mp (D.pm.mem_iff.mp c)with c|c;.exact Vg u hu v c
         .obtain⟨j',DT,DU,yy⟩:=RL v c;show κ.kle (key κ u) (key κ v);rw[<-j3,<-yy];show KeyOrd.kle_trans (LO j j1 j2) (s2 (sa+na) j' (Ø _) DT À)
        .obtain⟨j',DT,DU,yy⟩:=RM v c;show κ.kle (key κ u) (key κ v);rw[<-j3,<-yy];show KeyOrd.kle_trans (LO j j1 j2) (s2 (sa+na) j' (Ø _) À DU)
      .show pendingOf st2=P;rw[sg.pend,p1]
     by_cases hc:na-k<=n;.rw[Ê hc];show Þ (O8 hL TT LL À À F0 k1 λm st2 sg D=>fin m st2 sg D)
     .rw[Ç hc];show Þ (Hi.hi_wp hL TT LL FB À À k1 λm st2 sg D=>fin m st2 sg D)
end
abbrev Run:=Nat×Nat×Nat
def Ch(κ:Ś)(arr:`h):List Run->Nat->Nat->Prop|[],a,b=>a=b|r::l,a,b=>r.1=a/\1<=r.2.1/\Ň κ arr a (a+r.2.1)/\Ch κ arr l (a+r.2.1) b
theorem Ch.le:∀{l:List Run}{a b:Nat},Ch κ arr l a b->a+l.length<=b|[],a,b,h=>by have h:a=b:=h;simp[h];|r::l,a,b,h=>by have:=Ch.le h.2.2.2;have:=h.2.1;rw[İ];lia
theorem Ch.split:∀{l1 l2:List Run}{a b:Nat},Ch κ arr (l1++l2) a b↔∃m,Ch κ arr l1 a m/\Ch κ arr l2 m b
 |[],l2,a,b=>⟨λh=>⟨a,O,h⟩,λhZ=>by obtain⟨m,h1,h2⟩:=hZ;rw[h1];exact h2⟩|r::l1,l2,a,b=>by
  constructor;.intro h;obtain⟨m,h1,h2⟩:=Ch.split.mp h.2.2.2;show⟨m,⟨h.1,h.2.1,h.2.2.1,h1⟩,h2⟩
  .rintro⟨m,h1,h2⟩;show⟨h1.1,h1.2.1,h1.2.2.1,Ch.split.mpr ⟨m,h1.2.2.2,h2⟩⟩
theorem wB(h:Ň κ arr a b)(e:∀k,a<=k->k<b->nB[k]?=arr[k]?):Ň κ nB a b:=λi j h1 h2 h3=>by rw[KK_congr (e i h1 À),KK_congr (e j À h3)];show h i j h1 h2 h3
theorem Ch.same:∀{l:List Run}{a b:Nat},Ch κ arr l a b->(∀k,a<=k->k<b->nB[k]?=arr[k]?)->Ch κ nB l a b|[],_,_,h,_=>h|r::l,a,b,h,e=>by have:=Ch.le h.2.2.2;show⟨h.1,h.2.1,wB h.2.2.1 λk k1 k2=>e k k1 À,h.2.2.2.same λk k1 k2=>e k À k2⟩
theorem CZ{p:Array Run}(h:i+1<p.size):((p.setIfInBounds i v).eraseIdxIfInBounds (i+1)).toList=p.toList.take i++v::p.toList.drop (i+2):=by
 have hl:p.toList.length=p.size:=Ğ;have e1:(p.setIfInBounds i v).eraseIdxIfInBounds (i+1)=(p.setIfInBounds i v).eraseIdx (i+1) (by rw[Zcc];show h):=by grind
 rw[e1,Array.toList_eraseIdx,Array.toList_setIfInBounds,List.eraseIdx_eq_take_drop_succ,List.take_set,List.drop_set,Ê À];have e2:p.toList.take (i+1)=p.toList.take i++[p.toList[i]'À]:=by rw[ġ,Ô À];rfl
 rw[e2,List.set_append_right _ _ (by rw[ė];lia)];rw[ė,show i-min i p.toList.length=0 by lia];simp
section
structure St(κ:Ś)(ks:SortKind)(ae:`h)(st:SortSt)(lo:Nat):Prop where
 base:SB ks ae st
 ch:Ch κ (arrOf st) (pendingOf st).toList 0 lo
 le:lo<=ae.size
theorem wC(hL:LtAll prog w A E s κ ks)(h0:KeysOf κ ae){st:SortSt}{lo i:Nat}(S:St κ ks ae st lo)(hi:i+1<(pendingOf st).size)(h:∀Æ,St κ ks ae Æ lo->(pendingOf Æ).size+1=(pendingOf st).size->(∀k,lo<=k->(arrOf Æ)[k]?=(arrOf st)[k]?)->Q true Æ):wpS `a A E s (mergeAt' i) Q st:=by
 have hl:(pendingOf st).toList.length=(pendingOf st).size:=Ğ;have d1:(pendingOf st).toList.drop i=(pendingOf st).toList[i]'À::(pendingOf st).toList.drop (i+1):=Zbh À;have d2:(pendingOf st).toList.drop (i+1)=(pendingOf st).toList[i+1]'À::(pendingOf st).toList.drop (i+2):=Zbh À;have g1:(pendingOf st)[i]?=some ((pendingOf st).toList[i]'À):=by rw[<-ϱ,Ô À]
 have g2:(pendingOf st)[i+1]?=some ((pendingOf st).toList[i+1]'À):=by rw[<-ϱ,Ô À]
 obtain⟨⟨sa,na,pw⟩,ep⟩:∃r,r=(pendingOf st).toList[i]'À:=`i;obtain⟨⟨sb,nb,RI⟩,eq⟩:∃r,r=(pendingOf st).toList[i+1]'À:=`i;rw[<-ep]at d1 g1;rw[<-eq]at d2 g2;have c:=S.ch;rw[<-γ i (pendingOf st).toList,d1,d2]at c;obtain⟨m,c1,c2⟩:=Ch.split.mp c;obtain⟨q1,q2,q3,q4,q5,q6,q7⟩:=c2;dsimp only at q1 q2 q3 q4 q5 q6 q7;subst q1;subst q4;have lb:=Ch.le q7;show Od hL h0 S.base g1 g2 q2 q5 (by have:=S.le;lia) q3 q6 λÆ M=>?_;have pl:(pendingOf Æ).toList=(pendingOf st).toList.take i++(sa,na+nb,pw)::(pendingOf st).toList.drop (i+2):=by rw[M.pend,CZ hi]
 show h Æ ⟨M.base,?_,S.le⟩ ?_ λk hk=>M.out k (.inr À)
 .rw[pl];show Ch.split.mpr ⟨sa,c1.same λk _ k2=>M.out k (.inl k2),O,by dsimp only;lia,?_,?_⟩;.dsimp only;rw[<-Nat.add_assoc];show M.seg
  .dsimp only;rw[<-Nat.add_assoc];show q7.same λk k1 _=>M.out k (.inr k1)
 .rw[<-Ğ,pl,à,İ,ė,ζ];lia
def rest(z lo n:Nat):Sm (ForInStep (Option Unit×Nat)):=do let s<-get match(pendingOf s).back? with
 |some (s1,n1,_)=>do
 let c<-forIn [0:z] ((none,()):Option Unit×Unit) λ_ _=>do let s<-get match(if(pendingOf s).size>1 then(pendingOf s)[(pendingOf s).size-2]? else none)with|some (_,_,older)=>if older<=power' z (2*s1+n1) (2*s1+n1+n1+n) z then pure (ForInStep.done (none,()))else do let b<-mergeAt' ((pendingOf s).size-2)if(!b)=true then pure (ForInStep.done (some (),()))else pure (ForInStep.yield (none,()))|_=>pure (ForInStep.done (none,()))
  match c.1 with|some r=>pure (ForInStep.done (some r,lo))|none=>do modify λs=>setPending s ((pendingOf s).modify ((pendingOf s).size-1) λx=>(x.1,x.2.1,power' z (2*s1+n1) (2*s1+n1+n1+n) z))modify λs=>setPending s ((pendingOf s).push (lo,n,0))pure (ForInStep.yield (none,lo+n))
 |_=>do modify λs=>setPending s ((pendingOf s).push (lo,n,0))pure (ForInStep.yield (none,lo+n))
theorem Ch.pw(f:Run->Run)(hf:∀r,(f r).1=r.1/\(f r).2.1=r.2.1):∀{l:List Run}{a b i:Nat},Ch κ arr l a b->Ch κ arr (l.modify i f) a b|[],a,b,i,h=>by cases i<;>exact h;|r::l,a,b,0,h=>by obtain⟨e1,e2⟩:=hf r;refine⟨e1.trans h.1,by rw[e2];exact h.2.1,by rw[e2];exact h.2.2.1,?_⟩;rw[e2];exact h.2.2.2;|r::l,a,b,i+1,h=>⟨h.1,h.2.1,h.2.2.1,Ch.pw f hf h.2.2.2⟩
theorem St.push{st:SortSt}{lo n:Nat}(S:St κ ks ae st lo)(n1:1<=n)(hn:lo+n<=ae.size)(sg:Ň κ (arrOf st) lo (lo+n)):St κ ks ae (setPending st ((pendingOf st).push (lo,n,0))) (lo+n):=by show⟨⟨S.base.kind,S.base.ok,S.base.pm⟩,?_,hn⟩;rw[Array.toList_push];show Ch.split.mpr ⟨lo,S.ch,O,n1,sg,O⟩
theorem St.pw{st:SortSt}{lo i:Nat}(S:St κ ks ae st lo)(f:Run->Run)(hf:∀r,(f r).1=r.1/\(f r).2.1=r.2.1):St κ ks ae (setPending st ((pendingOf st).modify i f)) lo:=by show⟨⟨S.base.kind,S.base.ok,S.base.pm⟩,?_,S.le⟩;rw[Array.toList_modify];show S.ch.pw f hf
theorem Ak(hL:LtAll prog w A E s κ ks)(h0:KeysOf κ ae){st:SortSt}{lo n x:Nat}(S:St κ ks ae st lo)(n1:1<=n)(hn:lo+n<=ae.size)(sg:Ň κ (arrOf st) lo (lo+n))(hx:x<=lo)(h:∀Æ,St κ ks ae Æ (lo+n)->Q (.yield (none,lo+n)) Æ):wpS (model prog w) A E s (rest ae.size lo n) Q st:=by unfold rest;refine Þ (wpS_get ?_);cases(pendingOf st).back? with|none=>exact Þ (wpS_modify (ã (h _ (S.push n1 hn sg))));|some q=>
  obtain⟨s1,DZ,p1⟩:=q;show Þ (wpS_mono (wpS_forRange (I:=λ_ c Æ=>c=(none,())/\St κ ks ae Æ lo/\Ň κ (arrOf Æ) lo (lo+n)) (Q:=λc Æ=>c=(none,())/\St κ ks ae Æ lo/\Ň κ (arrOf Æ) lo (lo+n)) ?_ (λ_ _ z=>z) ⟨O,S,sg⟩) ?_)
  .rintro y c Æ _ _⟨rfl,S',hJ⟩;show Þ (wpS_get ?_);by_cases h1:(pendingOf Æ).size>1
   .rw[Ê h1];have hl:(pendingOf Æ).size-2<(pendingOf Æ).size:=À;rw[Za8 hl];dsimp only;split;.exact ã ⟨O,S',hJ⟩
    .refine Þ (wC hL h0 S' À λst2 S2 _ o2=>?_);show ã ⟨O,S2,wB hJ λk k1 _=>o2 k k1⟩
   .rw[Ç h1];show ã ⟨O,S',hJ⟩
  .rintro c Æ⟨rfl,S',hJ⟩;show Þ (wpS_modify (Þ (wpS_modify (ã (h _ ?_)))));show(S'.pw (λx=>(x.1,x.2.1,power' ae.size (2*s1+DZ) (2*s1+DZ+DZ+n) ae.size)) λ_=>⟨O,O⟩).push n1 hn hJ
theorem ifl(c:Prop)[Decidable c](n:Nat):(if c then n-1 else n)<=n:=by split<;>lia
theorem runs_wp(hL:LtAll prog w A E s κ ks)(h0:KeysOf κ ae){st:SortSt}(B:SB ks ae st)(hp:pendingOf st=#[])(h:∀Æ,SB ks ae Æ->Ň κ (arrOf Æ) 0 ae.size->Q () Æ):wpS `a A E s sortRuns' Q st:=by
 rw[sortRuns'_eq];show Þ (wpS_get ?_);dsimp only;rw[B.size];generalize minRun' ae.size ae.size 0=mr;show Þ (wpS_mono (wpS_forRange (I:=λx c Æ=>c.1=none/\St κ ks ae Æ c.2/\x<=c.2) (Q:=λc Æ=>c.1=none/\St κ ks ae Æ ae.size) ?_ ?_ ⟨O,⟨B,by rw[hp];rfl,Ė _⟩,Ø _⟩) ?_)
 .rintro x⟨c0,lo⟩Æ _ hx⟨rfl,S,fE⟩;dsimp only at S fE⊢;by_cases yi:lo≥ae.size
  .rw[Ê yi];have e:lo=ae.size:=by have:=S.le;lia
   show ã ⟨O,?_⟩;rw[<-e];show S
  .rw[Ç yi];refine Þ (Fb hL h0 À À S.base λn hG B1 O1 n1 n2 RN=>?_);dsimp only;have S1:St κ ks ae hG lo:=⟨B1,by rw[O1.pend];exact S.ch.same λk _ k2=>O1.out k (.inl k2),S.le⟩;have tr:∀{m m':Sm (ForInStep (Option Unit×Nat))}{R:ForInStep (Option Unit×Nat)->SortSt->Prop}{st2:SortSt},m=m'->wpS (model prog w) A E s m' R st2->wpS (model prog w) A E s m R st2:=λe h=>e▸h;by_cases hm:n<mr;.rw[Ê hm];refine Þ (wpS_lift (wpAny_rule ⟨O,?_⟩));refine Þ (LR hL h0 À À B1 RN λst2 B2 O2 cE=>?_);rw[Ç á];refine tr ?_ (Ak hL h0 ⟨B2,by rw[O2.pend];exact S1.ch.same λk _ k2=>O2.out k (.inl k2),S.le⟩ À À cE fE λgz S3=>⟨O,S3,by dsimp only;lia⟩);.skip;unfold rest;refine bc O (funext λs=>?_);cases(pendingOf s).back? with|none=>rfl;|some q=>
      obtain⟨s1,n1,p⟩:=q;refine bc (fi (funext λx=>funext λc=>bc O (funext λs=>?_))) (funext λc=>?_);.generalize(if(pendingOf s).size>1 then(pendingOf s)[(pendingOf s).size-2]? else none)=o;cases o with|none=>rfl;|some r=>obtain⟨r1,r2,r3⟩:=r;show ic O (bc O (funext λb=>rfl))
      .obtain⟨r,u⟩:=c;cases r<;>rfl
   .rw[Ç hm];refine tr ?_ (Ak hL h0 S1 n1 À RN fE λgz S3=>⟨O,S3,by dsimp only;lia⟩);.skip;unfold rest;refine bc O (funext λs=>?_);cases(pendingOf s).back? with|none=>rfl;|some q=>
      obtain⟨s1,n1,p⟩:=q;refine bc (fi (funext λx=>funext λc=>bc O (funext λs=>?_))) (funext λc=>?_);.generalize(if(pendingOf s).size>1 then(pendingOf s)[(pendingOf s).size-2]? else none)=o;cases o with|none=>rfl;|some r=>obtain⟨r1,r2,r3⟩:=r;show ic O (bc O (funext λb=>rfl))
      .obtain⟨r,u⟩:=c;cases r<;>rfl
 .rintro⟨c0,lo⟩Æ⟨h1,S,h2⟩;dsimp only at h1 S h2⊢;have e:lo=ae.size:=by have:=S.le;lia
  rw[<-e];show⟨h1,S⟩
 .rintro⟨c0,lo⟩Æ⟨h1,S⟩;dsimp only at h1;subst h1;dsimp only;have one:∀{Æ:SortSt},St κ ks ae Æ ae.size->(pendingOf Æ).size<=1->Ň κ (arrOf Æ) 0 ae.size:=λ{Æ}S hs=>by have c:=S.ch;rw[<-Ğ]at hs;cases e:(pendingOf Æ).toList with|nil=>rw[e]at c;have c:0=ae.size:=c;intro i j _ _ h3;lia;|cons r l=>
    rw[e]at c hs;have l0:l=[]:=by simp_all
    rw[l0]at c;obtain⟨_,_,sg,c4⟩:=c;rw[c4]at sg;show sg
  have p0:(pendingOf Æ).size<=ae.size:=by have:=Ch.le S.ch;rw[Ğ]at this;lia
  show Þ (wpS_mono (wpS_forRange (I:=λx c st2=>c=(none,())/\St κ ks ae st2 ae.size/\(pendingOf st2).size+x<=ae.size) (Q:=λc st2=>c=(none,())/\St κ ks ae st2 ae.size/\(pendingOf st2).size<=1) ?_ ?_ ⟨O,S,À⟩) ?_)
  .rintro x c st2 _ hx⟨rfl,S2,lT⟩;show Þ (wpS_get ?_);by_cases h1:(pendingOf st2).size<=1;.rw[Ê h1];show ã ⟨O,S2,h1⟩
   .rw[Ç h1];show Þ (wC hL h0 S2 (Nat.lt_of_le_of_lt (Nat.succ_le_succ (ifl _ _)) (show(pendingOf st2).size-2+1<(pendingOf st2).size by lia)) λgz S3 z3 _=>?_);rw[Ç á];show ã ⟨O,S3,À⟩
  .rintro c st2⟨rfl,S2,lT⟩;show⟨O,S2,À⟩
  .rintro c st2⟨rfl,S2,lT⟩;show ã (h st2 S2.base (one S2 lT))
end
end Srt
namespace L2
open PySem PySem.Spec PyProof.Rows PySem.Calls
theorem oF:∀a,HT.lexLt a a=false|[]=>rfl|x::xs=>by rw[HT.lexLt_cons,Ê O];show oF xs
theorem lE:∀a b,HT.lexLt a b=false->HT.lexLt b a=false->a=b
 |[],[],_,_=>rfl|[],_::_,h,_=>by cases h;|_::_,[],_,h=>by cases h;|x::xs,y::ys,h1,h2=>by
  rw[HT.lexLt_cons]at h1 h2;by_cases e:x=y;.subst e;rw[Ê O]at h1 h2;rw[lE xs ys h1 h2]
  .rw[Ç e]at h1;rw[Ç (Ne.symm e)]at h2;have h1:=of_decide_eq_false h1;have h2:=of_decide_eq_false h2;lia
theorem qb:∀a b c,HT.lexLt a b=true->HT.lexLt b c=true->HT.lexLt a c=true
 |[],[],_,h,_=>by cases h;|[],_::_,[],_,h=>by cases h;|[],_::_,_::_,_,_=>rfl|_::_,[],_,h,_=>by cases h;|_::_,_::_,[],_,h=>by cases h;|x::xs,y::ys,z::zs,h1,h2=>by
  rw[HT.lexLt_cons]at h1 h2⊢;by_cases e1:x=y
  .subst e1;rw[Ê O]at h1;by_cases e2:x=z;.subst e2;rw[Ê O]at h2⊢;show qb xs ys zs h1 h2
   .rw[Ç e2]at h2⊢;show h2
  .rw[Ç e1]at h1;have h1:=ŕ h1;by_cases e2:y=z;.subst e2;rw[Ç e1];show ç h1
   .rw[Ç e2]at h2;have h2:=ŕ h2;rw[Ç À];show ç À
theorem Al(a b c:VV)(h:HT.lexLt a c=true):HT.lexLt a b=true\/HT.lexLt b c=true:=by cases e1:HT.lexLt a b with|true=>exact .inl O;|false=>cases e2:HT.lexLt b a with|true=>exact .inr (qb b a c e2 h);|false=>show .inr (by rw[<-lE a b e1 e2];show h)
def Jh(ads:ø)(row:Addr->VV):Ś where α:=VV;blt:=HT.lexLt;irrefl:=oF;trans:=qb;negTrans:=Al;total:=lE;keyOf:=λu=>match u with|.ref a=>if ads.contains a=true then some (row a)else none|_=>none;dflt:=[]
section
open PySem.W
theorem Ff:∀{ns ms:VV}{us vs:ó}{i:Nat},Î (ns.map V.int) us->Î (ms.map V.int) vs->Q (HT.lexLt ns ms) s->KatLex prog w A true (decide (ns.length<ms.length)) Q (us.zip vs) i s
 |[],[],_,_,_,.nil,.nil,h=>h|[],_::_,_,_,_,.nil,.cons _ _,h=>by apply kat_nil;exact h;|_::_,[],_,_,_,.cons _ _,.nil,h=>by apply kat_nil;exact h;|x::ns,y::ms,_,_,i,.cons r1 t1,.cons r2 t2,h=>by
  obtain⟨k1,rfl⟩:=r1;obtain⟨k2,rfl⟩:=r2;rw[HT.lexLt_cons]at h;show kat_cons (wpAny_eqBool_int ?_);by_cases e:x=y;.subst e;rw[Ê O]at h;rw[show(x==x)=true from beq_self_eq_true x];apply kat_yes;have:=Ff (prog:=prog) (w:=w) (A:=A) (i:=i+1) t1 t2 h;rw[show decide ((x::ns).length<(x::ms).length)=decide (ns.length<ms.length)by rw[İ,İ];show decide_eq_decide.mpr À];show this
  .rw[Ç e]at h;rw[show(x==y)=false from beq_false_of_ne e];apply kat_no;cases hi:(true&&i==0)with|true=>exact oneLt_int h;|false=>show kat_one _ _ (lt_int h)
theorem Ji(hx:s.heap.get? x=some ox)(dx:ox.data=.seq us.toArray nx)(hy:s.heap.get? y=some oy)(dy:oy.data=.seq vs.toArray ny)(r1:Î (ns.map V.int) us)(r2:Î (ms.map V.int) vs)(h:Q (HT.lexLt ns ms) s):wpAny `a A (keyLt' (tuples' true) (.ref x) (.ref y)) Q E s:=by apply kat_lt hx dx hy dy;have l1:=r1.length;have l2:=r2.length;rw[Ï]at l1 l2;have:=Ff (prog:=prog) (w:=w) (A:=A) (s:=s) (Q:=Q) (i:=0) r1 r2 h;rw[ă,ă,<-l1,<-l2];show this
theorem Jj{R:ó->Prop}(lst:s.heap.IsList l vs.toArray)(fits:vs.length<=sizeLine)(small:vs.length<2->R vs)(big:2<=vs.length->∀g,(∀b o,s.heap.get? b=some o->g.get? b=some o)->wpAny `a A.in1.in1 (keyKind' vs.toArray) (λκ s1=>s1={s with heap:=g}/\wpS `a A.in1.in1 (λ_ _=>False) {s with heap:=g} sortRuns' (λ_ st=>failedOf st=none/\∃out,(arrOf st).map (·.2)=List.toArray out/\R out) (SortSt.mk' κ (vs.toArray.zip vs.toArray) #[] 7 none)) (λ_ _=>False) {s with heap:=g})(len:∀out,R out->out.length=vs.length)(fin:∀out,R out->∀h2 c,(∀b o,s.heap.get? b=some o->h2.get? b=some o)->h2.get? (s.heap.objs.size+1)=some (seqObj "list" out.toArray c)->Q (.ref (s.heap.objs.size+1)) {s with heap:=h2}):wpAny `a A (call (.builtin "sorted") [.ref l]) Q E s:=by
 show call_function_entry kind_sorted plain_sorted entry_sorted (args_sorted1 _) ?_;unfold Builtin.«sorted»;show Ã (m:=checkCount "sorted" 1 1 _) (Ì (Ã (collect_list lst ?_ fits)));show Ã (wpAny_newList ?_ fits);have nE:((s.heap.push (seqObj "list" #[] 0)).update s.heap.objs.size (Obj.mapSeq (·++vs.toArray))).objs.size=s.heap.objs.size+1:=by rw[Heap.size_update,Heap.size_push]
 obtain⟨g1,rX⟩:∃g1,g1=((s.heap.push (seqObj "list" #[] 0)).update s.heap.objs.size (Obj.mapSeq (·++vs.toArray))).push (seqObj "list" vs.toArray 0):=`i;have qr:g1.get? (s.heap.objs.size+1)=some (seqObj "list" vs.toArray 0):=by rw[rX,<-nE];show Ģ _ O
 have LW:∀b o,s.heap.get? b=some o->g1.get? b=some o:=λb o q=>by have lt:b<s.heap.objs.size:=î q;rw[rX,Heap.get?_push_ne _ _ _ (by rw[nE];show ĵ (Nat.lt_succ_of_lt lt)),Heap.get?_update_ne _ _ _ _ (ĵ lt),Heap.get?_push_ne _ _ _ (ĵ lt)];show q
 show wpAny _ _ _ _ _ {s with heap:=_};rw[nE,show((s.heap.push (seqObj "list" #[] 0)).update s.heap.objs.size (Obj.mapSeq (·++vs.toArray))).push (seqObj "list" vs.toArray 0)=g1 from rX.symm];show Ã (wpAny_holding (wpAny_call_entry slot_list_sort ⟨_,qr,O⟩ entry_list_sort ?body (args_list_sort _)));obtain⟨D,eD⟩:∃D,D=s.heap.objs.size+1:=`i;rw[<-eD]at qr fin⊢;have apart:∀b o,s.heap.get? b=some o->b≠D:=λb o q e=>by have lt:b<s.heap.objs.size:=î q;rw[e,eD]at lt;show absurd lt (Nat.not_lt_of_le (Nat.le_succ _))
 obtain⟨g2,yA⟩:∃g2,g2=g1.update D (Obj.mapSeq λ_=>(#[]:Qa3)):=`i;have hX:Heap.SameBut D g1 g2:=yA▸Heap.SameBut.update g1 D _;obtain⟨e1,at2⟩:∃e1,g2.get? D=some (seqObj "list" #[] e1):=⟨_,yA▸get?_update_seq qr λ_=>#[]⟩;obtain⟨g3,yB⟩:∃g3,g3=(g2.push (seqObj "tuple" vs.toArray 0)).push (seqObj "list" #[] 0):=`i;have kU:g3.get? D=some (seqObj "list" #[] e1):=yB▸ò _ (ò _ at2);have yT:∀b o,s.heap.get? b=some o->g3.get? b=some o:=λb o q=>yB▸ò _ (ò _ ((hX.2 b (apart b o q)).trans (LW b o q)));rw[list_sort_plain];show Ã (listItems_at qr O (Ã (listUpdate_at qr O ?_ (by rw[ă];show fits) (Ė _))));rw[<-yA];show Ã (seqEpoch_at at2 O (Ã (wpAny_newTuple (Ã (wpAny_newList (wpAny_holding ?_) (Ė _))) fits)));rw[<-yB];dsimp only;by_cases two:vs.toArray.size<2
 .have iP:vs.length<2:=by rw[ă]at two;show two
  rw[Ê two,Ê two];show Ã (Ì ?_);show Ã (Ì ?_);dsimp only;have em:(vs.toArray.zip vs.toArray).map (·.2)=vs.toArray:=by apply Array.toList_inj.mp;simp only[Array.toList_map,Array.toList_zip];show List.map_snd_zip (Ø _)
  rw[em];show Ã (seqEpoch_at kU O (Ã (listUpdate_at kU O ?_ (Ė _) (by rw[ă];lia))));simp only[bne_self_eq_false,Bool.false_eq_true,if_false];have yY:=Heap.SameBut.update g3 D (Obj.mapSeq λ_=>vs.toArray);show Ì ⟨_,O,Ì ⟨_,O,fin vs (small iP) _ _ (λb o z=>(yY.2 b (apart b o z)).trans (yT b o z)) (get?_update_seq kU _)⟩⟩
 .have iP:2<=vs.length:=by rw[ă]at two;lia
  rw[Ç two,Ç two];show Ã (wpAny_mono (big iP g3 yT) (λκ s1=>?_) λ_ _ x=>x.elim);rintro⟨kS,run⟩;subst kS;show Ã (wpAny_mono run ?_ λ_ _ x=>x.elim);rintro⟨⟨⟩,st⟩s2⟨D0,D1,out,nK,hR⟩;subst D0;dsimp only at D1 nK⊢;rw[nK];show Ã (seqEpoch_at kU O (Ã (listUpdate_at kU O ?_ (Ė _) (by rw[ă,len out hR];lia))));rw[D1];simp only[bne_self_eq_false,Bool.false_eq_true,if_false];have yY:=Heap.SameBut.update g3 D (Obj.mapSeq λ_=>out.toArray);show Ì ⟨_,O,Ì ⟨_,O,fin out hR _ _ (λb o z=>(yY.2 b (apart b o z)).trans (yT b o z)) (get?_update_seq kU _)⟩⟩
theorem qd{ads:ø}{row:Addr->VV}:∀{l:ø},(∀a∈l,∃us o n,g.get? a=some o/\o.cls=.type "tuple"/\o.data=.seq us.toArray n/\Î ((row a).map V.int) us/\row a≠[])->∃fs,KatTups g (l.map Value.ref) fs/\fs.length=l.length/\∀v∈fs,∃i t,v=.int i t|[],_=>⟨[],.nil,O,λ_ h=>absurd h Õ⟩|a::l,h=>by obtain⟨us,o,n,h1,h2,h3,h4,h5⟩:=h a (.head _);obtain⟨fs,k,hl,hi⟩:=qd (ads:=ads) (row:=row) (l:=l) λb hb=>h b (.tail _ hb);cases er:row a with|nil=>exact absurd er h5;|cons i r=>rw[er]at h4;cases h4 with|cons r1 t1=>
    obtain⟨t,rfl⟩:=r1;show⟨_,.cons h1 h2 h3 (f:=.int i t) Õ k,by rw[İ,İ,hl],λv hv=>?_⟩;rcases ļ.mp hv with z|z;.exact⟨i,t,z⟩
    .exact hi v z
theorem uT{l:ø}{row:Addr->VV}(obj:∀a∈l,∃us o n,s.heap.get? a=some o/\o.cls=.type "tuple"/\o.data=.seq us.toArray n/\Î ((row a).map V.int) us/\row a≠[])(hl:0<l.length)(h:Q (tuples' true) s):wpAny `a A (keyKind' (l.map Value.ref).toArray) Q E s:=by obtain⟨fs,kt,fl,fi⟩:=qd (ads:=l) (row:=row) obj;show PySem.W.kat_kind (T:=.type "int") kt (by rw[fl];show hl) (λv hv=>?_) á h;obtain⟨i,t,rfl⟩:=fi v hv;show .now
theorem yE{row:Addr->VV}(obj:∀a∈l,∃us o n,s.heap.get? a=some o/\o.cls=.type "tuple"/\o.data=.seq us.toArray n/\Î ((row a).map V.int) us/\row a≠[]):Srt.LtAll prog w A E s (Jh l row) (tuples' true):=λst hk x y a b Q' ka kb hQ=>by obtain⟨x1,x2⟩:=x;obtain⟨y1,y2⟩:=y;cases x1 with
 |ref xa=>cases y1 with|ref ya=>
   have ka:(if l.contains xa=true then some (row xa)else none)=some a:=ka;have kb:(if l.contains ya=true then some (row ya)else none)=some b:=kb;by_cases c1:l.contains xa=true
   .rw[Ê c1]at ka;by_cases c2:l.contains ya=true;.rw[Ê c2]at kb;cases ka;cases kb;obtain⟨us1,o1,n1,g1,_,d1,r1,_⟩:=obj xa (by simpa using c1);obtain⟨us2,o2,n2,g2,_,d2,r2,_⟩:=obj ya (by simpa using c2);rw[lt'_eq];show Þ (wpS_get ?_);rw[hk];show Þ (wpS_lift (wpAny_attempt (Ji g1 d1 g2 d2 r1 r2 ⟨O,?_⟩)));show ã hQ
    .rw[Ç c2]at kb;cases kb
   .rw[Ç c1]at ka;cases ka;|_=>cases kb
 |_=>cases ka
theorem wF(l:ø):((l.map Value.ref).toArray.zip (l.map Value.ref).toArray).toList=l.map λa=>(Value.ref a,Value.ref a):=by grind
theorem tK(l:ø)(row:Addr->VV):KeysOf (Jh l row) ((l.map Value.ref).toArray.zip (l.map Value.ref).toArray):=λz dE=>by rw[wF]at dE;obtain⟨a,ha,rfl⟩:=Ù.mp dE;show⟨row a,?_⟩;show(if l.contains a=true then some (row a)else none)=some (row a);rw[Ê (by simpa using ha)]
def Fg(p:Keyed):Addr:=match p.1 with|.ref a=>a|_=>0
theorem wG(h:a∈l):Srt.key (Jh l row) (Value.ref a,Value.ref a)=row a:=by show(if l.contains a=true then some (row a)else none).getD []=row a;rw[Ê (by simpa using h)];rfl
theorem mL{row:Addr->VV}(obj:∀a∈l,∃(us:ó)(o:Obj)(n:Nat),s.heap.get? a=some o/\o.cls=.type "tuple"/\o.data=.seq us.toArray n/\Î ((row a).map V.int) us/\row a≠[])(h:∀st(l':ø),failedOf st=none->(arrOf st).map (·.2)=List.toArray (l'.map Value.ref)->l'.Perm l->l'.Pairwise (λa b=>HT.lexLt (row b) (row a)=false)->Q () st):wpS `a A E s sortRuns' Q (SortSt.mk' (tuples' true) ((l.map Value.ref).toArray.zip (l.map Value.ref).toArray) #[] 7 none):=by
 show Srt.runs_wp (κ:=Jh l row) (ks:=tuples' true) (yE obj) (tK l row) ⟨O,O,.refl _⟩ O λÆ B sg=>?_;have A8:=Zb5.mp B.pm;rw[wF]at A8;have e:(arrOf Æ).toList=((arrOf Æ).toList.map Fg).map (λa=>(Value.ref a,Value.ref a)):=by
  rw[Ě];conv=>lhs;rw[<-Zb9 (arrOf Æ).toList]
  show Zbl λz dE=>?_;obtain⟨a,ha,rfl⟩:=Ù.mp (A8.mem_iff.mp dE);rfl
 have pm:((arrOf Æ).toList.map Fg).Perm l:=by have:=A8.map Fg;rw[Ě]at this;rw[show(Fg∘λa=>(Value.ref a,Value.ref a))=id from O,Zb9]at this;show this
 generalize(arrOf Æ).toList.map Fg=l' at e pm;show h Æ l' B.ok ?_ pm ?_;.apply Array.toList_inj.mp;rw[Array.toList_map,e,Ě];rfl
 .have ka:=Srt.keys_perm (tK l row) B.pm;have:=Srt.pw_of_seg ka (by rw[B.size];show Ø _) sg;rw[List.drop_zero,<-B.size,<-Ğ,Ņ,e,ň]at this;show this.imp_of_mem λ{a b}ha hb hle=>?_;unfold Srt.leK at hle;rw[wG (pm.mem_iff.mp ha),wG (pm.mem_iff.mp hb)]at hle;show hle
end
section
theorem mO:∀{l:ø}{us:ó},Î (l.map V.ref) us->us=l.map Value.ref|[],_,.nil=>rfl|a::l,_,.cons r t=>by rw[mO t,show _=Value.ref a from r];rfl
theorem lF:∀(l:ø),Î (l.map V.ref) (l.map Value.ref)|[]=>.nil|_::l=>.cons O (lF l)
theorem qe{α:Type}{R:α->α->Prop}:∀{l:List α},l.length<2->l.Pairwise R|[],_=>.nil|[_],_=>List.pairwise_singleton _ _|_::_::_,h=>absurd h Õ
theorem dI:cZ X (.builtin "sorted") (λxs H Q=>∃(p:Addr)(l:ø)(row:Addr->VV),xs=[.ref p]/\Ë X.K H p (l.map V.ref)/\(∀a∈l,Ñ X.K H a ((row a).map V.int)/\row a≠[])/\∀q(l':ø),H q=none->q≠sysModules->l'.Perm l->l'.Pairwise (λa b=>HT.lexLt (row b) (row a)=false)->Q (.ref q) (upd H q (.lst (l'.map V.ref)))):=by
 intro Á s σ H xs us Q I r h;obtain⟨p,l,row,rfl,hp,fT,q⟩:=h;obtain⟨u,rfl,ru⟩:=ô r;cases ru;obtain⟨È,rv,pl,hz⟩:=I.list hp;have ei:=mO rv;subst ei;have hlen:(l.map Value.ref).length<=sizeLine:=by rw[Ï]at hz⊢;show hz
 have obj:∀a∈l,∃(us:ó)(o:Obj)(n:Nat),s.heap.get? a=some o/\o.cls=.type "tuple"/\o.data=.seq us.toArray n/\Î ((row a).map V.int) us/\row a≠[]:=λa ha=>by obtain⟨ht,gx⟩:=fT a ha;obtain⟨as,ra,pa,_⟩:=I.tuple ht;obtain⟨oa,ga,ca,na,da⟩:=pa;show⟨as,oa,na,ga,ca,da,ra,gx⟩
 show Jj (R:=λout=>∃l':ø,out=l'.map Value.ref/\l'.Perm l/\l'.Pairwise λa b=>HT.lexLt (row b) (row a)=false) pl.isList hlen (λhs=>⟨l,O,.refl _,?_⟩) (λhb g kp=>?_) (λout⟨l',e,pm,_⟩=>by rw[e,Ï,Ï,pm.length_eq]) λout⟨l',e,pm,pw⟩h2 c l9 at2=>?_;.rw[Ï]at hs;show qe hs
 .have hZ:∀a∈l,∃(us:ó)(o:Obj)(n:Nat),g.get? a=some o/\o.cls=.type "tuple"/\o.data=.seq us.toArray n/\Î ((row a).map V.int) us/\row a≠[]:=λa ha=>by obtain⟨us,o,n,h1,h2⟩:=obj a ha;show⟨us,o,n,kp _ _ h1,h2⟩
  apply uT (s:={s with heap:=g}) hZ (by rw[Ï]at hb;lia);show⟨O,mL (s:={s with heap:=g}) hZ λst l' e1 e2 e3 e4=>⟨e1,l'.map Value.ref,e2,l',O,e3,e4⟩⟩
 .subst e;show⟨.ref (s.heap.objs.size+1),_,I.laid (t':=s.toks) l9 (Nat.le_succ _) (show Ö X.prog X.w _ h2 _ (.lst (l'.map V.ref))from⟨by rw[Ï,pm.length_eq];rw[Ï]at hz;show hz,_,c,lF l',at2⟩),O,q _ l' (I.hok.fresh (Nat.le_succ _)) (Θ (Ŭ I.big (Nat.le_succ _))) pm pw⟩
theorem uU:cZ X (.builtin "sorted") (λxs H Q=>∃(p:Addr)(l:ø)(row:Addr->VV),xs=[.ref p]/\Ë X.K H p (l.map V.ref)/\(∀a∈l,Ñ X.K H a ((row a).map V.int)/\row a≠[])/\∀q(l':ø),H q=none->l'.Perm l->l'.Pairwise (λa b=>HT.lexLt (row b) (row a)=false)->Q (.ref q) (upd H q (.lst (l'.map V.ref)))):=by intro Á s σ H xs us Q I r h;obtain⟨p,l,row,e,hp,fT,q⟩:=h;show dI Á s σ H xs us Q I r ⟨p,l,row,e,hp,fT,λq' l' a _ b c=>q q' l' a b c⟩
end
section
theorem rK(hc:X.calm=true):cZ X (.builtin "max") (λxs H Q=>∃(p:Addr)(ns:VV),xs=[.ref p]/\Ë X.K H p (ns.map V.int)/\ns≠[]/\∀M,M∈ns->(∀a∈ns,a<=M)->Q (.int M) H):=by
 intro Á s σ H xs us Q I r h;obtain⟨p,ns,rfl,hq,gx,q⟩:=h;obtain⟨u,rfl,ru⟩:=ô r;cases ru;obtain⟨È,rv,pl,hz⟩:=I.list hq;have hi:IntsAre È ns:=Ĵ rv;obtain⟨zs,ez⟩:=(hi.allInts:AllInts È.toArray).items;have en:numsOf È=ns:=hi.numsOf;have hl:s.heap.IsList p (intItems zs):=ez▸pl.isList;have aT:0<zs.size:=by
  have e1:(intItems zs).size=È.length:=by rw[<-ez,ă]
  have e2:=rv.length;rw[Ï]at e2;have e3:0<ns.length:=List.length_pos_iff.mpr gx;simp only[intItems,Array.size_map]at e1;lia
 have hn:numsOf (intItems zs).toList=ns:=by rw[<-ez];show en
 show max_intList (I.ok.hd hc) hl aT λv h' tk hv hk=>?_;obtain⟨t,rfl⟩:=intItems_at hv;obtain⟨h1,h2⟩:=argBest_gt (numAt zs) (zs.size-1);rw[nums_intItems]at hn;show⟨.int _,H,I.kept (t':=tk) hk,⟨t,O⟩,q _ ?_ λa ha=>?_⟩;.rw[<-hn,numAt_eq];show getD_mem (by rw[Ï,Ğ];lia)
 .rw[<-hn]at ha;obtain⟨j,hj,rfl⟩:=mem_getD ha;rw[Ï,Ğ]at hj;rw[<-numAt_eq];show h2 j À
def isK(k:Int):Value->Bool|.int n _=>n==k|_=>false
theorem oG:∀{ns:VV}{us:ó}{i:Nat}{u:Value},Î (ns.map V.int) us->us[i]?=some u->∃n t,ns[i]?=some n/\u=.int n t|[],_,i,u,.nil,h=>by simp at h;|n::ns,_,0,u,.cons r t,h=>by obtain⟨k,rfl⟩:=r;simp at h;exact⟨n,k,O,h.symm⟩;|n::ns,_,i+1,u,.cons r t,h=>oG (i:=i) t (by simpa using h)
inductive Ϝ(x:V)(vs:List V)(H:Hp)(Q:VK):Prop|mk:∀l(ns:VV)k(j:Nat),(x=.ref l)->(vs=[.int k])->(H l=some (.lst (ns.map V.int)))->(ns[j]?=some k)->((∀i,i<j->ns[i]?≠some k))->(Q (.int j) H)->Ϝ  x vs H Q
def M3:V->List V->Hp->VK->Prop:=λx vs H Q=>Ϝ  x vs H Q
theorem Fi:MtM X "list.index" M3:=by
 intro Á s σ H x vs v us Q I rx rv h;obtain⟨l,ns,k,j,rfl,rfl,hH,hj,Kj,q⟩:=h;cases rx;obtain⟨u,rfl,t,rfl⟩:=ô rv;obtain⟨z,È,n,r,hl,e⟩:=I.lstM hH;have hlen:=r.length;rw[Ï]at hlen;have LX:j<È.length:=by have:=(ĉ.mp hj).1;lia
 have hz:È.length<=sizeLine:=by rw[Ï]at z;lia
 rw[sizeLine_eq]at hz;show call_meets F.slot_list_index ⟨_,e,O⟩ F.entry_list_index (F.args_list_index_2 _ _) (MeetsSeq.list_index l È.toArray n (.int k t) (isK k) (λy hy=>?_) j (by rw[ă];show LX) À ?_ λm hm ax=>?_) ⟨e,?_⟩;.obtain⟨i,hi,rfl⟩:=Array.getElem_of_mem hy;obtain⟨n',t',e1,e2⟩:=oG r (i:=i) (u:=È.toArray[i]) (by rw[ă]at hi;simp[hi]);rw[e2];show MeetsSeq.EqGives.int n' k t' t
 .obtain⟨n',t',e1,e2⟩:=oG r (i:=j) (u:=È.toArray[j]'(by rw[ă];show LX)) (by simp[LX]);rw[e2];rw[hj]at e1;cases e1;show beq_self_eq_true k
 .obtain⟨n',t',e1,e2⟩:=oG r (i:=m) (u:=È.toArray[m]) (by rw[ă]at hm;simp[hm]);rw[e2];show beq_false_of_ne λc=>Kj m ax ?_;rw[e1,c]
 .exact⟨.int j,H,I.tok _,`i,q⟩
end
theorem Dc(ha:s.TypeIs a "list")(hb:s.TypeIs b "list")(hc:wpAny M A (call (.builtin "list.__iadd__") [a,b]) Q E s):wpAny M A (inplaceOp .Add a b) Q E s:=by
 unfold inplaceOp;apply wpAny_holding;have hl:typeLookup (.type "list") (dunderI "add")=pure (some (.builtin "list.__iadd__")):=F.slot_list_iadd.lookup;have Vk:fillsInplaceSlot (.type "list") "add" (Operator.Add==.Add)=pure false:=by
  unfold fillsInplaceSlot;show(typeLookup (.type "list") (dunderI "add")>>=λfi=>pure (fi.isSome&&!isSeqSlot fi))=pure false;rw[hl];have:isSeqSlot (some (.builtin "list.__iadd__"))=true:=`j
  show(pure (true&&!isSeqSlot (some (.builtin "list.__iadd__"))):Sem Bool)=_;rw[this];rfl
 have RO:seqSlot? (.type "list") (dunderI "add")=pure (some (.builtin "list.__iadd__")):=PySem.seqSlot_of F.slot_list_iadd.lookup ž;show Ã (wpAny_typeOf ha (Ã (wpAny_of_eq Vk ?_)));show wpAny M A (if false=true then _ else _) Q E s;rw[Ç Ō];show Ã (wpAny_binaryOp1_none (nm:="add") ha hb noFill_list_add ?_);show Ã (wpAny_of_eq RO ?_);show Ã (wpAny_rule hc)
inductive Z09(x:V)(y:V)(H:Hp)(Q:VK):Prop|mk:∀l b xs zs,(x=.ref l)->(y=.ref b)->(H l=some (.lst xs))->(H b=some (.lst zs))->(xs.length+zs.length<=sizeLine)->(Q (.ref l) (upd H l (.lst (xs++zs))))->Z09  x y H Q
def Oe:TIp:=λx y H Q=>Z09  x y H Q
theorem qg:PIp X .Add Oe:=by
 intro Á s σ H x y v u Q I rx ru h;obtain⟨l,b,xs,zs,rfl,rfl,hH,hB,hz,q⟩:=h;cases rx;cases ru;obtain⟨z,È,n,r,hl,e⟩:=I.lstM hH;obtain⟨z2,cw,n2,r2,gu,e2⟩:=I.lstM hB;have hsz:È.toArray.size+cw.toArray.size<=sizeLine:=by rw[ă,ă];lia
 have gI:¬(!È.toArray.isEmpty&&Builtin.List.listTooLong (È.toArray.size+cw.toArray.size))=true:=by rw[oY hsz,Bool.and_false];show Ō
 show Dc ⟨_,e,O⟩ ⟨_,e2,O⟩ (call_meets F.slot_list_iadd ⟨_,e,O⟩ F.entry_list_iadd (F.args_list_iadd_2 _ _) (AutoSeq1.list___iadd___list_list_0 l È.toArray n b cw.toArray n2 gI (by rw[ă];lia) À) ⟨e,e2,?_⟩);show⟨.ref l,_,I.lset (its':=È++cw) hH e Õ (r.append r2) ?_,O,q⟩;rw[à];lia
abbrev TN:=St->Hp->(St->Hp->Prop)->Prop
def mKv(k v:Expr)(D:Addr)(env:Env):Sem Unit:=do let kv<-eval k env let vv<-holding [kv] (eval v env)standAt {k.pos with endLine:=v.pos.endLine,endCol:=v.pos.endCol}holding [kv,vv] (dictSet D kv vv)
def PN(X:Cx)(D:Addr)(k v:Expr)(tm:TN):Prop:=∀Á s(σ:St)H Q,`c->tm σ H Q->wpAny `d X.A (mKv k v D X.env) (λ_ s'=>∃af H',É X Á af H' s'/\Q af H') X.xe s
def tKv(D:Addr)(tk tv:TE):TN:=λσ H Q=>tk σ H λx H1=>tv σ H1 λy H2=>∃Ä k b,H2 D=some (.dT Ä)/\x=.ref b/\H2 b=some (.tup (k.map kV))/\Ä.length<sizeLine/\Q σ (upd H2 D (.dT (â Ä k y)))
theorem Og(hu:X.A.units<cLine)(hk:PE X k tk)(hv:PE X v tv):PN X D k v (tKv D tk tv):=by
 intro Á s σ H Q I h;show Ã (Û (hk Á s σ H _ I h) λu s1=>?_);rintro⟨x,H1,I1,r1,q1⟩;show Ã (wpAny_holding (Û (hv Á s1 σ H1 _ I1 q1) λu2 s2=>?_));rintro⟨y,H2,I2,r2,Ä,ks,b,e1,e2,e3,e4,q2⟩;subst e2;cases r1;show Ã (wpAny_standAt (wpAny_holding ?_));obtain⟨z,hd,xs,rel,dd⟩:=Kg I2.hok e1;have hl:(â Ä ks y).length<=sizeLine:=by have:=dU Ä ks y;lia
 show wpAny_dictSet_heap (hsz:=by rw[<-Paired.length rel];show z) hu (iB I2.hok e3) dd λh' vb hs=>?_;obtain⟨q,es,ep,hq,h2,h3,h4,_,h5⟩:=vb;show⟨σ,_,uG (ob:=.dT (â Ä ks y)) I2 (by rw[e1];trivial) hs ⟨q,hq⟩ ⟨hl,hd,_,(rel.put ks e3 r2).keeps λc ys ec=>?_,q,es,ep,hq,h2,h3,h4,h5⟩,q2⟩;rw[au (K5 ec e1 λz=>nomatch z)];show ec
def Am(J:It)(g:TG)(tt:TT)(tm:TN)(Fin:Hp->Prop)(cy:St)(H0:Hp):Prop:=∃W:Nat->Nat->St->Hp->Prop,(∃m,W 0 m cy H0)/\∀i m σ H,W i m σ H->((J.stop i H/\Fin H)\/(J.go i H/\∀x H',J.yld i H x H'->g x σ H' λay H2=>tt ay H2 λb H3=>if b=true then tm ay H3 λaf H4=>∃m',m'<m/\W (i+1) m' af H4 else∃m',m'<m/\W (i+1) m' ay H3))
theorem Jk:compTurn (.DictComp k v [⟨tg,iter,ifs,0⟩] scope pos) 0 it (.ref D) env=sV tg ifs iter.pos it env (λc=>mKv k v D env>>=λ_=>c) (again (.compLoop (.DictComp k v [⟨tg,iter,ifs,0⟩] scope pos) 0 it (.ref D) env)):=by unfold compTurn sV mKv;rfl
theorem Oh(hc:X.calm=true)(hx:X.xe=λ_ _=>False)(hg:PG X tg g)(va:PTs X ifs tt)(hm:PN X D k v tm){σ:St}(I:`c)(T:į X.prog X.w X.K tg J fp it tn)(st:tn 0 s.heap)(hf:∀b∈fp,gB X Á H b)(hW:Am J g tt tm Q σ H)(hR:∀s' af H',É X Á af H' s'->Q H'->R (.ok .next) s'):codeAny `d X.A (.compLoop (.DictComp k v [⟨tg,iter,ifs,0⟩] scope pos) 0 (.ref it) (.ref D) X.env) R s:=by
 obtain⟨W,⟨m0,w0⟩,step⟩:=hW;show codeAny_loop O (λn s'=>∃i af H',É X Á af H' s'/\tn i s'.heap/\(∀b∈fp,H' b=none)/\W i n af H') (λn s3 hI=>?_) m0 ⟨0,σ,H,I,st,λb hb=>(hf b hb).1,w0⟩;obtain⟨i,fA,H3,I3,gz,tT,w3⟩:=hI;show wpAny _ _ ((compTurn (.DictComp k v [⟨tg,iter,ifs,0⟩] scope pos) 0 (.ref it) (.ref D) X.env).onRaise (λx=>do noteFrame x X.env;theTreesLotGoes x)) _ _ s3;apply wpAny_noted;rw[Jk];have mI:∀{H':Hp},(∀b∈fp,H' b=none)->∀b∈fp,gB X Á H' b:=λ{H'}hn b hb=>by obtain⟨_,f⟩:=hf b hb;show⟨hn b hb,f⟩
 refine Ã (wpAny_standAt (Ã ?_));rcases step i n fA H3 w3 with⟨stop,fin⟩|⟨go,turn⟩;.refine χ (T.done X O O O hc i _ s3 fA H3 (λ_ _=>False) I3 (mI tT) gz stop) λr s4=>?_;rintro⟨hr,I4⟩;subst hr;show Ì (hR s4 fA H3 I4 fin)
 .refine χ (T.item X O O O hc i _ s3 fA H3 (λ_ _=>False) I3 (mI tT) gz go) λr s4=>?_;rintro⟨u,hr,h4⟩;subst hr;show Ã (χ h4 λ_ s5=>?_);rintro⟨x,H5,I5,r5,y5,mB,CI⟩;have CL:=I5.pinned (mI CI) (T.obj _ _ mB);have C9:=hg _ s5 fA H5 x u _ CL r5 (turn x H5 y5);rw[hx]at C9;show Ã (χ C9 λ_ s6=>?_);rintro⟨qh,H6,I6,q6⟩;have fS:=va _ s6 qh H6 _ I6 q6;rw[hx]at fS;show Ã (χ fS λokb s7=>?_);rintro⟨H7,I7,q7⟩;have back:∀{H8:Hp}{s8:Shared}{mM:St},É X (Á++iY fp s5.heap) mM H8 s8->É X Á mM H8 s8/\tn (i+1) s8.heap/\∀b∈fp,H8 b=none:=λ{H8 s8 mM}I8=>by have pf:∀b∈fp,∀o,s5.heap.get? b=some o->s8.heap.get? b=some o:=λb hb o e=>(I8.pin (b,o) (Ļ _ (Ļ _ (eO hb e)))).1;show⟨I8.unpinned,T.keep _ _ _ mB pf,λb hb=>?_⟩;obtain⟨o,e,_⟩:=T.obj _ _ mB b hb;show(I8.pin (b,o) (Ļ _ (Ļ _ (eO hb e)))).2.1
  cases okb with|false=>obtain⟨m',lS,w7⟩:=q7;obtain⟨b1,b2,b3⟩:=back I7;exact Ì ⟨O,m',lS,i+1,qh,H7,b1,b2,b3,w7⟩;|true=>have lS:=hm _ s7 qh H7 _ I7 q7;rw[hx]at lS;show Ã (χ lS λ_ s8=>?_);rintro⟨mM,H8,I8,m',lS,w8⟩;obtain⟨b1,b2,b3⟩:=back I8;show Ì ⟨O,m',lS,i+1,mM,H8,b1,b2,b3,w8⟩
theorem Fj(ha:c.is_async=0)(h0:codeAny `a A (.compLoop (.DictComp k v [c] scope pos) 0 it acc env) R s)(h:wpAny `a A (pyIter it) (λDA s'=>codeAny `a A (.compLoop (.DictComp k v [c] scope pos) 0 DA acc env) R s') (λ_ _=>False) s):codeAny `a A (.compStart (.DictComp k v [c] scope pos) 0 it acc env) R s:=by
 apply codeAny_of_tree;show wpAny _ _ ((compStart (.DictComp k v [c] scope pos) 0 it acc env).onRaise (λx=>do noteFrame x env;standAt theWindowsPlace)) _ _ s;apply wpAny_notedAt;have e:(clausesOf (.DictComp k v [c] scope pos))[0]?=some c:=O;unfold compStart;rw[e];have e2:(Option.elim (some c) false λx=>x.is_async !=0)=false:=by show(c.is_async !=0)=false;rw[ha];rfl
 rw[e2];show wpAny _ _ (ask>>=_) _ _ s;show Ã (wpAny_askSetting (wpAny_ite ?_));split;.exact Ì (And.intro O h0)
 .refine Ã (wpAny_rule (Ã (wpAny_standAt (Ã (χ h λDA s' h'=>Ì (And.intro O h'))))))
theorem Jl(hc:X.calm=true)(S:ý X scope)(bo:∀C,ē X (compEnvC scope (dH X.env.cells scope.names []) C X.env) Nc src)(hb:∀C fp Á s₂ Í,PG (Ŋ X scope Nc C fp Á s₂ Í) tg g/\PTs (Ŋ X scope Nc C fp Á s₂ Í) ifs tt/\PN (Ŋ X scope Nc C fp Á s₂ Í) D k v tm){σ:St}(ai:É X Á σ Í s₂)(T:į X.prog X.w X.K tg J fp it tn)(st:tn 0 s₂.heap)(hf:∀b∈fp,gB X Á Í b){Fin:Hp->Prop}(hW:Am J g tt tm Fin (ħ σ src) Í){RR:Addr->Result->Shared->Prop}{E:Ry}(DC:∀C s' H' m,Fin H'->É X Á σ H' s'->s'.heap.Ns C m->gB X Á H' C->RR C (.ok .next) s'):wpAny `d X.A (newFunctionEnv scope X.env.globals (dH X.env.cells scope.names []) [] X.env.qual none .none (some X.env)) (λgX gL=>codeAny `d X.A (.compStart (.DictComp k v [⟨tg,iter,ifs,0⟩] scope pos) 0 (.ref it) (.ref D) {gX with scope:=relabel scope X.env}) (RR gX.locals) gL) E s₂:=by
 show wpAny_newFunctionEnv S.hcell (by intro y hy;simp at hy) (λaS bp bX=>?_) S.kind;generalize K0:s₂.heap.objs.size=C at bp bX⊢;have aw:∀{b o},s₂.heap.get? b=some o->b≠C:=λ{b o}e=>by rw[<-K0];show ĵ (î e)
 have old:∀b o,s₂.heap.get? b=some o->aS.get? b=some o:=λb o e=>bX.extBut b o (aw e) (ò _ e);have xC:∀b∈fp,b≠C:=λb hb=>by obtain⟨o,e,_⟩:=T.obj _ _ st b hb;show aw e
 have sub:∀{x c},(dH X.env.cells scope.names []).lookup x=some c->X.env.cells.lookup x=some c:=λ{x c}e=>by
  rcases kh scope.names [] S.hfree e with z|z;.simp at z
  .exact z
 obtain⟨I0,A2,fC⟩:=Z0i (n:=([]:List (Str×Value)).length) S bo ai T st hf (Nat.le_of_eq K0) bp old;generalize bP:Ŋ X scope Nc C fp Á s₂ Í=X' at I0;obtain⟨hg,ht,hm⟩:=hb C fp Á s₂ Í;rw[bP]at hg ht hm;have eP:X'.prog=X.prog:=by subst bP;rfl
 have ew:X'.w=X.w:=by subst bP;rfl
 have eK:X'.K=X.K:=by subst bP;rfl
 have eA:X'.A=X.A:=by subst bP;rfl
 have eE:X'.xe=λ_ _=>False:=by subst bP;rfl
 have eL:X'.env.locals=C:=by subst bP;rfl
 have eN:X'.env=compEnvC scope (dH X.env.cells scope.names []) C X.env:=by subst bP;rfl
 have ec:X'.calm=true:=by subst bP;show hc
 have eS:X'.s₀=s₂:=by subst bP;rfl
 have eH:X'.H₀=Í:=by subst bP;rfl
 have ef:X'.fs=Ź X.stack:=by subst bP;rfl
 have ex:X'.ex=fp:=by subst bP;rfl
 have ep:X'.pn=X.pn++Á:=by subst bP;rfl
 have mI:∀b∈fp,gB X' [] Í b:=λb hb=>by
  show⟨(hf b hb).1,by rw[eL];show xC b hb,by rw[ef];show A2 b hb,.inl (by rw[ex];show hb),λx c e=>?_,λp hp=>?_⟩;.rw[eN]at e;show(hf b hb).2.2.2.2.1 x c (sub e)
  .rw[Ĕ,ep]at hp;show(hf b hb).2.2.2.2.2 p hp
 have T':į X'.prog X'.w X'.K tg J fp it tn:=by rw[eP,ew,eK];show T
 have loop:∀s₃:Shared,s₃={s₂ with heap:=aS,toks:=s₂.toks+([]:List (Str×Value)).length}->codeAny `d X.A (.compLoop (.DictComp k v [⟨tg,iter,ifs,0⟩] scope pos) 0 (.ref it) (.ref D) (compEnvC scope (dH X.env.cells scope.names []) C X.env)) (RR C) s₃:=by
  rintro s₃ rfl;have L:=Oh (X:=X') (iter:=iter) (scope:=scope) (pos:=pos) (R:=RR C) ec eE hg ht hm I0 T' (T.keep _ _ _ st λb _ o e=>old b o e) mI hW ?_;.rw[eP,ew,eA,eN]at L;show L
  rintro s4 fA H3 I4 fin;obtain⟨mC,DF,_⟩:=I4.loc;rw[eL]at DF;have mN:=I4.base;rw[eS,eH,ef,ex]at mN;have xD:Ĳ X.prog X.w H3 s4.heap:=by have:=I4.hok;rw[eP,ew]at this;show this
  have J4:É X Á σ H3 s4:=ai.call' (ch:=fp) (by have:=I4.os;rw[eS]at this;show this) mN xD I4.bare λb hb=>by obtain⟨_,f1,f2,f3,f4,f5⟩:=hf b hb;show⟨f3,f1,f4,f5⟩
  show DC C s4 H3 mC fin J4 DF (fC ?_);have:=I4.free;rw[eL]at this;show this
 show Fj O (loop _ O) (T.self _ 0 _ _ _ (T.keep _ _ _ st λb _ o e=>old b o e) (loop _ O))
def M4(wi:TI)(src:List (Option Nat))(g:TG)(tt:TT)(tm:Addr->TN):TE:=λσ H Q=>wi σ H λJ H1=>∀D,H1 D=none->Am J g tt (tm D) (λH'=>Q (.ref D) H') (ħ σ src) (upd H1 D (.dT []))
theorem Fl(Nc:Đ)(src:List (Option Nat))(hc:X.calm=true)(hi:PI X tg iter wi)(hb:∀C fp Á s₂ Í,PG (Ŋ X scope Nc C fp Á s₂ Í) tg g/\PTs (Ŋ X scope Nc C fp Á s₂ Í) ifs tt/\∀D,PN (Ŋ X scope Nc C fp Á s₂ Í) D k v (tm D))(bo:∀C,ē X (compEnvC scope (dH X.env.cells scope.names []) C X.env) Nc src)(S:ý X scope)(hs:∀x,foldedSetIterable iter X.env x=pure x:=by intro _;rfl):PE X (.DictComp k v [⟨tg,iter,ifs,0⟩] scope pos) (M4 wi src g tt tm):=by
 intro Á s σ H Q I h;rw[arm_eval_DictComp];show wpAny_comprehension_free (use:=none) O hs (uA S.hfree) S.kind S.hnames ?_;show Û (hi Á s σ H _ I h) λvv s1 h1=>Û h1 λCH s2 h2=>?_;obtain⟨it,fp,tn,J,H2,e,I2,T,st2,f2,hW⟩:=h2;subst e;show Η ?_;have I3:=I2.laid (a:=s2.heap.objs.size) (o:=.dT []) (t':=s2.toks) (λ_ _ q=>ò _ q) (Ø _) (vZ s2.heap I2.big);have nD:=I2.hok.fresh (Ø s2.heap.objs.size);have Vl:∀b∈fp,b≠s2.heap.objs.size:=λb hb=>by obtain⟨o,e,_⟩:=T.obj _ _ st2 b hb;show ĵ (î e)
 show Jl (RR:=λC=>compPost `d X.A X.xe none (EP X Á σ Q) (.ref s2.heap.objs.size) C) (tm:=tm s2.heap.objs.size) hc S bo (λC fp Á s₂ Í=>⟨(hb C fp Á s₂ Í).1,(hb C fp Á s₂ Í).2.1,(hb C fp Á s₂ Í).2.2 _⟩) I3 T (T.keep _ _ _ st2 λb _ o e=>ò _ e) (λb hb=>?_) (hW _ nD) ?_;.obtain⟨f0,f⟩:=f2 b hb;show⟨by rw[au (Vl b hb)];show f0,f⟩
 .intro C s' H' m fin J' hn fC;obtain⟨f0,f1,_,f3,f4,f5⟩:=fC;show⟨m,hn,λRz mP=>?_⟩;show⟨.ref _,_,J'.turned (t':=s'.toks) (λb o hb e=>mP.extBut b o hb e) f0 f1 f3 f4 f5,O,fin⟩
end L2
namespace St
open PySem PySem.SetTable
def ε(M x:Nat):Nat:=(x*5+1)%M
def Ÿ(f:Nat->Nat):Nat->Nat->Nat|0,x=>x|n+1,x=>Ÿ f n (f x)
theorem gJ(f:Nat->Nat):∀m n x,Ÿ f (m+n) x=Ÿ f n (Ÿ f m x)|0,n,x=>by rw[Zca];rfl;|m+1,n,x=>by rw[show m+1+n=(m+n)+1 by lia];show gJ f m n (f x)
theorem Fo(hM:0<M):∀n x,x<M->Ÿ (ε M) n x<M|0,x,h=>h|n+1,x,_=>Fo hM n _ (Nat.mod_lt _ hM)
def cyc(M:Nat):Nat->Nat->Bool|0,_=>false|f+1,x=>if(x*5+1)%M=0 then f=0 else cyc M f ((x*5+1)%M)
theorem wH(M:Nat):∀f x,cyc M f x=true->Ÿ (ε M) f x=0/\∀m,0<m->m<f->Ÿ (ε M) m x≠0
 |0,x,h=>by cases h;|f+1,x,h=>by
  unfold cyc at h;by_cases e:(x*5+1)%M=0;.rw[Ê e]at h;have h:f=0:=ŕ h;subst h;show⟨e,λm h1 h2=>by lia⟩
  .rw[Ç e]at h;obtain⟨a,b⟩:=wH M f _ h;refine⟨a,λm h1 h2=>?_⟩;cases m with|zero=>lia;|succ m=>cases m with|zero=>exact e;|succ m=>show b (m+1) À À
def nP(M:Nat):Prop:=0<M/\∀x y,x<M->y<M->∃m,m<=M/\Ÿ (ε M) m x=y
theorem nodup_le:∀{l s:List Nat},l.Nodup->(∀x∈l,x∈s)->l.length<=s.length|[],s,_,_=>Ė _|a::l,s,nd,h=>by obtain⟨na,nd⟩:=Za7.mp nd;have ha:=h a (.head _);have:=nodup_le (s:=s.erase a) nd λx hx=>(List.mem_erase_of_ne (show x≠a from λz=>by rw[z]at hx;show na hx)).mpr (h x (.tail _ hx));rw[List.length_erase_of_mem ha]at this;have:=List.length_pos_of_mem ha;rw[İ];lia
theorem uV{l:List Nat}(nd:l.Nodup)(hl:l.length=M)(hb:∀x∈l,x<M):∀y,y<M->y∈l:=λy hy=>by show Classical.byContradiction λny=>?_;have:=nodup_le (s:=(List.range M).erase y) nd λx hx=>(List.mem_erase_of_ne (show x≠y from λz=>by rw[z]at hx;show ny hx)).mpr (ı.mpr (hb x hx));rw[List.length_erase_of_mem (ı.mpr hy),Zay]at this;lia
theorem Jm(hM:0<M)(h:cyc M M 0=true):nP M:=by
 obtain⟨c0,c1⟩:=wH M M 0 h;have per:∀k,Ÿ (ε M) (M*k) 0=0:=λk=>by induction k with|zero=>rfl;|succ k ih=>rw[Nat.mul_succ,gJ,ih,c0]
 have inj:∀a b,a<b->b<M->Ÿ (ε M) a 0≠Ÿ (ε M) b 0:=λa b h1 h2 e=>by
  have:Ÿ (ε M) (M-b) (Ÿ (ε M) a 0)=Ÿ (ε M) (M-b) (Ÿ (ε M) b 0):=by rw[e]
  rw[<-gJ,<-gJ,show b+(M-b)=M by lia,c0]at this;show c1 (a+(M-b)) À À this
 have nd:((List.range M).map λn=>Ÿ (ε M) n 0).Nodup:=by
  rw[List.Nodup,ň];show(Zb7 (n:=M)).imp_of_mem λ{a b}ha hb ne=>?_;rcases Zb4 a b with z|z|z;.exact inj a b z (ı.mp hb)
  .exact absurd z ne
  .exact(inj b a z (ı.mp ha)).symm
 have all:=uV nd (by rw[Ï,Zay]) λx hx=>by obtain⟨n,_,rfl⟩:=Ù.mp hx;show Fo hM n 0 hM
 have RP:∀y,y<M->∃n,n<M/\Ÿ (ε M) n 0=y:=λy hy=>by obtain⟨n,hn,e⟩:=Ù.mp (all y hy);show⟨n,ı.mp hn,e⟩
 show⟨hM,λx y hx hy=>?_⟩;obtain⟨a,ha,ea⟩:=RP x hx;obtain⟨b,hb,eb⟩:=RP y hy;by_cases qv:a<=b;.refine⟨b-a,À,?_⟩;rw[<-ea,<-gJ,show a+(b-a)=b by lia,eb]
 .refine⟨M-a+b,À,?_⟩;rw[<-ea,<-gJ,show a+(M-a+b)=M+b by lia,gJ,c0,eb]
theorem Jo:∀k,k<15->3<=k->cyc (2^k) (2^k) 0=true:=`j
theorem wI:∀k,3<=k->k<=14->nP (2^k):=λk h1 h2=>Jm (Nat.pow_pos á) (Jo k (Nat.lt_succ_of_le h2) h1)
def þ(t:SetTable):Nat->Probe->Probe|0,p=>p|n+1,p=>þ t n (t.advance p)
theorem fU(t:SetTable):∀m n p,þ t (m+n) p=þ t n (þ t m p)|0,n,p=>by rw[Zca];rfl;|m+1,n,p=>by rw[show m+1+n=(m+n)+1 by lia];show fU t m n (t.advance p)
def ϫ(t:SetTable)(i q:Nat):Probe:={j:=i,more:=runEnd t.mask i-i,i,perturb:=q,dummy:=none}
theorem uW(t:SetTable):∀r p,p.more=r->þ t r p={p with j:=p.j+r,more:=0}
 |0,p,h=>by show p=_;cases p;cases h;rfl;|r+1,p,h=>by
  show þ t r (t.advance p)=_;have e:t.advance p={p with j:=p.j+1,more:=p.more-1}:=by unfold advance;rw[Ê À]
  rw[e,uW t r _ (by show p.more-1=r;lia)];show({p with j:=p.j+1+r,more:=0}:Probe)=_;rw[show p.j+1+r=p.j+(r+1)by lia]
theorem M5(mask i:Nat):runEnd mask i-i<=9:=by unfold runEnd;split<;>lia
theorem Jp(t:SetTable)(i q:Nat):∃r,r<=10/\þ t r (ϫ t i q)=ϫ t ((i*5+1+q/32)%(t.mask+1)) (q/32):=by show⟨runEnd t.mask i-i+1,by have:=M5 t.mask i;lia,?_⟩;rw[fU,uW t (runEnd t.mask i-i) (ϫ t i q) O];rfl
def cR(t:SetTable)(h:Int):Nat->Nat×Nat|0=>(bits h%(t.mask+1),bits h)|m+1=>(((cR t h m).1*5+1+(cR t h m).2/32)%(t.mask+1),(cR t h m).2/32)
theorem wJ(t:SetTable)(h:Int):∀m,∃n,n<=10*m/\þ t n (t.probeStart h)=ϫ t (cR t h m).1 (cR t h m).2|0=>⟨0,À,O⟩|m+1=>by obtain⟨n,h1,h2⟩:=wJ t h m;obtain⟨r,r1,r2⟩:=Jp t (cR t h m).1 (cR t h m).2;show⟨n+r,À,by rw[fU,h2,r2];rfl⟩
theorem Jq(h:Int):bits h<2^64:=by unfold bits;have h1:=Zcg h (show(2^64:Int)≠0 by decide);have h2:=Zb3 h (show(0:Int)<2^64 by decide);lia
theorem Fp(t:SetTable)(h:Int):∀m,(cR t h m).2=bits h/32^m|0=>by rw[Nat.pow_zero,Nat.div_one];rfl;|m+1=>by show(cR t h m).2/32=_;rw[Fp t h m,Nat.div_div_eq_div_mul,Nat.pow_succ]
theorem M6(t:SetTable)(h:Int)(hm:13<=m):(cR t h m).2=0:=by rw[Fp];show Nat.div_eq_of_lt (Ŭ (Jq h) ?_);have:32^13<=32^m:=Nat.pow_le_pow_right á hm;show ř á this
theorem yF(t:SetTable)(h:Int):∀n,(cR t h (13+n)).1=Ÿ (ε (t.mask+1)) n (cR t h 13).1|0=>rfl|n+1=>by rw[gJ (ε (t.mask+1)) n 1,<-yF t h n];show((cR t h (13+n)).1*5+1+(cR t h (13+n)).2/32)%(t.mask+1)=ε (t.mask+1) (cR t h (13+n)).1;rw[M6 t h À];rfl
theorem An(t:SetTable)(h:Int)(m:Nat):(cR t h m).1<t.mask+1:=by cases m with|zero=>exact Nat.mod_lt _ (Nat.succ_pos _);|succ m=>show Nat.mod_lt _ (Nat.succ_pos _)
theorem Z0h(F:nP (t.mask+1))(h:Int)(hj:j<=t.mask):∃n,n<10*turns t.mask/\(þ t n (t.probeStart h)).j=j:=by obtain⟨m,hm,e⟩:=F.2 (cR t h 13).1 j (An t h 13) À;obtain⟨n,hn,en⟩:=wJ t h (13+m);show⟨n,by unfold turns;lia,?_⟩;rw[en,yF,e];rfl
def ĩ(t:SetTable)(ha:Nat->Int)(h:Int)(j:Nat):Prop:=match t.slot j with|.empty=>True|.dummy=>False|.live i=>ha i=h
theorem qi(t:SetTable)(ha:Nat->Int)(h:Int)(nod:∀j,t.slot j≠.dummy):∀n f p,n<f->ĩ t ha h (þ t n p).j->(∀m,m<n->¬ĩ t ha h (þ t m p).j)->probe.go t ha h f p=(match t.slot (þ t n p).j with|.empty=>some (.empty (þ t n p).j (þ t n p).dummy)|.dummy=>none|.live i=>some (.candidate (þ t n p).j i (t.advance (þ t n p))))
 |n,0,p,hn,_,_=>absurd hn (Zbs _)|0,f+1,p,_,st,_=>by show probe.go t ha h (f+1) p=match t.slot p.j with|.empty=>some (.empty p.j p.dummy)|.dummy=>none|.live i=>some (.candidate p.j i (t.advance p));have st:ĩ t ha h p.j:=st;unfold probe.go;unfold ĩ at st;cases e:t.slot p.j with|empty=>rfl;|dummy=>exact absurd e (nod _);|live i=>rw[e]at st;have st:ha i=h:=st;show(if(ha i==h)=true then _ else _)=_;rw[Ê (beq_iff_eq.mpr st)]
 |n+1,f+1,p,hn,st,ns=>by
  have n0:=ns 0 À;have ih:=qi t ha h nod n f (t.advance p) À st λm hm=>ns (m+1) À;rw[show þ t (n+1) p=þ t n (t.advance p)from O,<-ih];have n0:¬ĩ t ha h p.j:=n0;conv=>lhs;unfold probe.go
  unfold ĩ at n0;cases e:t.slot p.j with|empty=>rw[e]at n0;exact absurd trivial n0;|dummy=>exact absurd e (nod _);|live i=>rw[e]at n0;have n0:¬ha i=h:=n0;show(if(ha i==h)=true then _ else _)=_;rw[Ç (by rw[beq_iff_eq];show n0)]
theorem tL(t:SetTable):∀n p,(þ t n p).dummy=p.dummy|0,p=>rfl|n+1,p=>by show(þ t n (t.advance p)).dummy=p.dummy;rw[tL t n];unfold advance;split<;>rfl
theorem Z0g{P:Nat->Prop}:∀{n},P n->∃m,m<=n/\P m/\∀k,k<m->¬P k:=λ{n}h=>by classical induction n using Nat.strongRecOn with|_ n ih=>
  by_cases q:∃k,k<n/\P k;.obtain⟨k,h1,h2⟩:=q;obtain⟨m,a,b,c⟩:=ih k h1 h2;show⟨m,À,b,c⟩
  .exact⟨n,Ø _,h,λk hk pk=>q ⟨k,hk,pk⟩⟩
theorem wK(F:nP (t.mask+1))(nod:∀j,t.slot j≠.dummy)(ha:Nat->Int)(h:Int)(hj:j0<=t.mask)(he:t.slot j0=.empty):∃n,(∀m,m<n->¬ĩ t ha h (þ t m (t.probeStart h)).j)/\ĩ t ha h (þ t n (t.probeStart h)).j/\t.probe ha h (t.probeStart h)=(match t.slot (þ t n (t.probeStart h)).j with|.empty=>some (.empty (þ t n (t.probeStart h)).j none)|.dummy=>none|.live i=>some (.candidate (þ t n (t.probeStart h)).j i (t.advance (þ t n (t.probeStart h))))):=by
 obtain⟨n0,DS,e0⟩:=Z0h F h hj;have s0:ĩ t ha h (þ t n0 (t.probeStart h)).j:=by unfold ĩ;rw[e0,he];trivial
 obtain⟨n,h1,h2,h3⟩:=Z0g (P:=λn=>ĩ t ha h (þ t n (t.probeStart h)).j) s0;show⟨n,h3,h2,?_⟩;have:=qi t ha h nod n (10*turns t.mask) (t.probeStart h) À h2 h3;rw[tL]at this;show this
theorem qj(R:xs.toList.Pairwise (·<·)):∀f lo hi,hi<=lo+f->lo<=hi->hi<=xs.size->(∀i x,i<lo->xs[i]?=some x->x<j)->(∀i x,hi<=i->xs[i]?=some x->j<=x)->(∀i x,i<below.go xs j f lo hi->xs[i]?=some x->x<j)/\(∀i x,below.go xs j f lo hi<=i->xs[i]?=some x->j<=x)/\below.go xs j f lo hi<=xs.size
 |0,lo,hi,h1,h2,h3,a,b=>by have:lo=hi:=À;subst this;exact⟨a,b,h3⟩;|f+1,lo,hi,h1,h2,h3,a,b=>by
  unfold below.go;by_cases h:lo<hi
  .rw[Ê h];have hm:(lo+hi)/2<xs.size:=À;have eg:xs[(lo+hi)/2]?=some (xs.getD ((lo+hi)/2) j):=by rw[Array.getD_eq_getD_getElem?,Za8 hm];rfl
   have mono:∀i k x y,i<=k->xs[i]?=some x->xs[k]?=some y->x<=y:=λi k x y Ll hx hy=>by
    rcases Zbn i k with z|z;.rw[<-ϱ]at hx hy;obtain⟨eW,ex⟩:=ĉ.mp hx;obtain⟨dA,ey⟩:=ĉ.mp hy;have:=ϲ.mp R i k eW dA z;rw[ex,ey]at this;show Zby this
    .have:i=k:=Nat.le_antisymm Ll z;subst this;rw[hx]at hy;cases hy;show Ø _
   show(∀i x,i<(if xs.getD ((lo+hi)/2) j<j then below.go xs j f ((lo+hi)/2+1) hi else below.go xs j f lo ((lo+hi)/2))->_)/\(∀i x,(if xs.getD ((lo+hi)/2) j<j then below.go xs j f ((lo+hi)/2+1) hi else below.go xs j f lo ((lo+hi)/2))<=i->_)/\(if xs.getD ((lo+hi)/2) j<j then below.go xs j f ((lo+hi)/2+1) hi else below.go xs j f lo ((lo+hi)/2))<=_;by_cases c:xs.getD ((lo+hi)/2) j<j;.rw[Ê c];show qj R f _ hi À À h3 (λi x eW hx=>by have:=mono i _ x _ (show i<=(lo+hi)/2 by lia) hx eg;lia) b
   .rw[Ç c];show qj R f lo _ À À À a (λi x eW hx=>by have:=mono _ i _ x eW eg hx;lia)
  .rw[Ç h];have:lo=hi:=À;subst this;show⟨a,b,h3⟩
theorem iJ(R:xs.toList.Pairwise (·<·))(j:Nat):(∀i x,i<below xs j->xs[i]?=some x->x<j)/\(∀i x,below xs j<=i->xs[i]?=some x->j<=x)/\below xs j<=xs.size:=qj R xs.size 0 xs.size À (Ė _) (Ø _) (λi x h=>absurd h (Zbs _)) λi x h e=>by rw[Array.getElem?_eq_none h]at e;cases e
theorem Ő(R:xs.toList.Pairwise (·<·))(h:xs[i]?=some j):below xs j=i:=by
 obtain⟨a,b,c⟩:=iJ R j;rcases Zb4 (below xs j) i with z|z|z;.have hi:i<xs.size:=(Array.getElem?_eq_some_iff.mp h).1;have hb:below xs j<xs.size:=À;have e:=b (below xs j) xs[below xs j] (Ø _) (Za8 hb);rw[<-ϱ]at h;obtain⟨eW,ex⟩:=ĉ.mp h;have:=ϲ.mp R (below xs j) i (by rw[Ğ];show hb) eW z;rw[ex,Array.getElem_toList]at this;lia
 .exact z
 .have:=a i j z h;lia
structure Tb(t:SetTable)(ps:List Nat):Prop where
 pl:t.place=ps.toArray
 no:t.dummies=#[]up:ps.Pairwise (·<·)le:∀j∈ps,j<=t.mask
 few:ps.length<=t.mask
theorem Ao(j:Nat):has #[] j=false:=by unfold has;rfl
theorem Tb.slot(T:Tb t ps)(j:Nat):(t.slot j=.empty/\j∉ps)\/∃i,t.slot j=.live i/\ps[i]?=some j:=by
 unfold SetTable.slot;rw[T.no,Ao,T.pl];dsimp only;by_cases h:j∈ps
 .obtain⟨i,hi⟩:=Za4 h;have e:(ps.toArray)[i]?=some j:=by rw[ŵ];show hi
  have eb:=Ő (xs:=ps.toArray) T.up e;rw[eb,e,Ê Õ];show .inr ⟨i,O,hi⟩
 .refine .inl ⟨?_,h⟩;rw[Ç,Ç á];intro z;rw[beq_iff_eq,ŵ]at z;show h (ń z)
theorem Tb.empty(T:Tb t ps)(h:j∉ps):t.slot j=.empty:=by
 rcases T.slot j with⟨e,_⟩|⟨i,_,hi⟩;.exact e
 .exact absurd (ń hi) h
theorem Tb.nod(T:Tb t ps)(j:Nat):t.slot j≠.dummy:=by rcases T.slot j with⟨e,_⟩|⟨i,e,_⟩<;>rw[e]<;>show λz=>by cases z
theorem Tb.free(T:Tb t ps):∃j,j<=t.mask/\j∉ps:=by show Classical.byContradiction λno=>?_;have:=nodup_le (l:=List.range (t.mask+1)) (s:=ps) Zb7 λx hx=>Classical.byContradiction λnx=>no ⟨x,by have:=ı.mp hx;lia,nx⟩;rw[Zay]at this;have:=T.few;lia
theorem Tb.put(T:Tb t ps)(hj:j<=t.mask)(nj:j∉ps)(room:ps.length+1<=t.mask):∃p,p<=ps.length/\t.put j=({t with place:=(ps.take p++j::ps.drop p).toArray},p)/\Tb {t with place:=(ps.take p++j::ps.drop p).toArray} (ps.take p++j::ps.drop p):=by
 obtain⟨a,b,c⟩:=iJ (xs:=t.place) (by rw[T.pl];show T.up) j;rw[T.pl]at a b c;show⟨below ps.toArray j,by simpa using c,?_,?_⟩;.unfold SetTable.put;rw[T.no,Ao,T.pl];dsimp only;rw[Ç á];congr 2;unfold insertAt;simp;rw[θ (by rw[ζ];lia)]
 .have hp:below ps.toArray j<=ps.length:=by simpa using c
  show⟨O,T.no,?_,λk hk=>?_,?_⟩
  .rw[ź];show⟨T.up.sublist (Za2 _ _),List.pairwise_cons.mpr ⟨λx hx=>?_,T.up.sublist (Za3 _ _)⟩,λx hx y hy=>?_⟩;.obtain⟨i,hi⟩:=Za4 hx;rw[Zci]at hi;have:=b (below ps.toArray j+i) x À (by rw[ŵ];show hi);have:x≠j:=λz=>nj (z▸ń hi);lia
   .have lx:x<j:=by obtain⟨i,hi⟩:=Za4 hx;have hl:=(ĉ.mp hi).1;rw[ė]at hl;rw[Zbi À]at hi;show a i x À (by rw[ŵ];show hi)
    rcases ļ.mp hy with z|z;.rw[z];show lx
    .obtain⟨i,hi⟩:=Za4 z;rw[Zci]at hi;have:=b (below ps.toArray j+i) y À (by rw[ŵ];show hi);lia
  .rcases è.mp hk with z|z;.exact T.le k (Zaz z)
   .rcases ļ.mp z with w|w;.rw[w];show hj
    .exact T.le k (Zbr w)
  .show(ps.take _++j::ps.drop _).length<=t.mask;rw[à,İ,ė,ζ];lia
theorem qm(h:t'.mask=t.mask):∀n p,þ t' n p=þ t n p|0,_=>rfl|n+1,p=>by show þ t' n (t'.advance p)=þ t n (t.advance p);rw[qm h n];congr 1;unfold advance;rw[h]
theorem qp{t t':SetTable}(h:t'.mask=t.mask)(x:Int):t'.probeStart x=t.probeStart x:=by unfold probeStart;rw[h]
theorem Fq{mask i:Nat}(h:i<=mask):i+(runEnd mask i-i)<=mask:=by unfold runEnd;split<;>lia
theorem Ft(t:SetTable):∀n p,p.j+p.more<=t.mask->(þ t n p).j+(þ t n p).more<=t.mask
 |0,_,h=>h|n+1,p,h=>by
  apply Ft t n (t.advance p);unfold advance;by_cases c:p.more>0;.rw[Ê c];show p.j+1+(p.more-1)<=t.mask;lia
  .rw[Ç c];have:(leap t.mask p.i p.perturb).1<=t.mask:=Nat.lt_succ_iff.mp (Nat.mod_lt _ (Nat.succ_pos _));show Fq this
theorem Fv(t:SetTable)(h:Int)(n:Nat):(þ t n (t.probeStart h)).j<=t.mask:=by have:=Ft t n (t.probeStart h) (Fq (Nat.lt_succ_iff.mp (Nat.mod_lt (bits h) (Nat.succ_pos t.mask))));lia
def ϊ(hs:VV)(i:Nat):Int:=(hs[i]?).getD 0
def ŀ(t:SetTable)(ps:List Nat)(h:Int)(j:Nat):Prop:=∃n,(þ t n (t.probeStart h)).j=j/\∀m,m<n->(þ t m (t.probeStart h)).j∈ps
theorem ŀ.up(h:t'.mask=t.mask)(sub:∀a∈ps,a∈ps')(r:ŀ t ps x k):ŀ t' ps' x k:=by obtain⟨n,a,b⟩:=r;show⟨n,by rw[qm h,qp h];show a,λm hm=>?_⟩;rw[qm h,qp h];show sub _ (b m hm)
structure Rc(t:SetTable)(ps:List Nat)(hs:VV):Prop where
 tb:Tb t ps
 full:nP (t.mask+1)len:hs.length=ps.length
 nd:hs.Nodup
 road:∀(i j:Nat)h,ps[i]?=some j->hs[i]?=some h->ŀ t ps h j
theorem Rc.new(R:Rc t ps hs)(nh:h∉hs):∃j,j<=t.mask/\j∉ps/\ŀ t ps h j/\t.probe (ϊ hs) h (t.probeStart h)=some (.empty j none):=by
 obtain⟨j0,l0,n0⟩:=R.tb.free;obtain⟨n,ns,st,e⟩:=wK R.full R.tb.nod (ϊ hs) h l0 (R.tb.empty n0);have ha:∀i j,ps[i]?=some j->ϊ hs i≠h:=λi j hi z=>by
  have hl:i<hs.length:=by rw[R.len];show(ĉ.mp hi).1
  unfold ϊ at z;rw[Ô hl]at z;show nh (z▸ĕ hl)
 have Vm:∀m,m<n->(þ t m (t.probeStart h)).j∈ps:=λm hm=>by
  rcases R.tb.slot (þ t m (t.probeStart h)).j with⟨e1,_⟩|⟨i,_,hi⟩;.refine absurd ?_ (ns m hm);unfold ĩ;rw[e1];trivial
  .exact ń hi
 rcases R.tb.slot (þ t n (t.probeStart h)).j with⟨e1,e2⟩|⟨i,e1,hi⟩;.refine⟨_,Fv t h n,e2,⟨n,O,Vm⟩,?_⟩;rw[e,e1]
 .unfold ĩ at st;rw[e1]at st;show absurd st (ha i _ hi)
theorem Rc.old(R:Rc t ps hs)(hi:hs[i]?=some h):∃j nx,ps[i]?=some j/\t.probe (ϊ hs) h (t.probeStart h)=some (.candidate j i nx):=by
 have hl:i<ps.length:=by rw[<-R.len];show(ĉ.mp hi).1
 have hj:=Ô hl;generalize ps[i]=j at hj;obtain⟨n,en,on⟩:=R.road i j h hj hi;obtain⟨n0,h1,h2,h3⟩:=Z0g (P:=λn=>(þ t n (t.probeStart h)).j=j) en;obtain⟨n',c1,c2⟩:=Z0h R.full h (R.tb.le j (ń hj));have DS:n0<10*turns t.mask:=by
  rcases Zbn n' n0 with z|z;.exact absurd c2 (h3 n' z)
  .lia
 have sj:t.slot j=.live i:=by
  rcases R.tb.slot j with⟨_,e2⟩|⟨k,e1,hk⟩;.exact absurd (ń hj) e2
  .have:k=i:=by have a:=Ő (xs:=ps.toArray) R.tb.up (i:=k) (j:=j) (by rw[ŵ];show hk);have b:=Ő (xs:=ps.toArray) R.tb.up (i:=i) (j:=j) (by rw[ŵ];show hj);lia
   rw[e1,this]
 have sp:ĩ t (ϊ hs) h (þ t n0 (t.probeStart h)).j:=by unfold ĩ;rw[h2,sj];show ϊ hs i=h;unfold ϊ;rw[hi];rfl
 have ns:∀m,m<n0->¬ĩ t (ϊ hs) h (þ t m (t.probeStart h)).j:=λm hm z=>by
  have mem:=on m À;rcases R.tb.slot (þ t m (t.probeStart h)).j with⟨_,e2⟩|⟨k,e1,hk⟩;.exact e2 mem
  .unfold ĩ at z;rw[e1]at z;have z:ϊ hs k=h:=z;have kl:k<hs.length:=by rw[R.len];show(ĉ.mp hk).1
   unfold ϊ at z;rw[Ô kl]at z;have z:hs[k]=h:=z;obtain⟨il,ei⟩:=ĉ.mp hi;have:k=i:=by
    rcases Zb4 k i with w|w|w;.exact absurd (z.trans ei.symm) (ϲ.mp R.nd k i kl il w)
    .exact w
    .exact absurd (ei.trans z.symm) (ϲ.mp R.nd i k il kl w)
   rw[this,hj]at hk;show h3 m hm (ģ hk).symm
 have:=qi t (ϊ hs) h R.tb.nod n0 (10*turns t.mask) (t.probeStart h) DS sp ns;rw[h2,sj]at this;show⟨j,_,hj,this⟩
theorem Rc.put(R:Rc t ps hs)(nh:h∉hs)(hj:j<=t.mask)(nj:j∉ps)(rd:ŀ t ps h j)(room:ps.length+1<=t.mask):∃p,p<=ps.length/\t.put j=({t with place:=(ps.take p++j::ps.drop p).toArray},p)/\Rc {t with place:=(ps.take p++j::ps.drop p).toArray} (ps.take p++j::ps.drop p) (hs.take p++h::hs.drop p):=by
 obtain⟨p,hp,e,T⟩:=R.tb.put hj nj room;show⟨p,hp,e,T,R.full,?_,?_,λi k x hk hx=>?_⟩;.have:=R.len;rw[à,à,İ,İ,ė,ė,ζ,ζ];lia
 .refine(List.perm_middle.nodup_iff).mpr ?_;rw[γ];show Za7.mpr ⟨nh,R.nd⟩
 .have sub:∀a∈ps,a∈ps.take p++j::ps.drop p:=λa ha=>by
   rw[<-γ p ps]at ha;rcases è.mp ha with z|z;.exact Zav _ z
   .exact Ļ _ (ώ _ z)
  show ŀ.up (t:=t) O sub ?_;have lp:(ps.take p).length=p:=by rw[ė];lia
  have lh:(hs.take p).length=p:=by have:=R.len;rw[ė];lia
  rcases Zb4 i p with z|z|z;.rw[ŭ À,Zbi z]at hk;rw[ŭ À,Zbi z]at hx;show R.road i k x hk hx
  .subst z;rw[Ů À,lp,Zbx]at hk;rw[Ů À,lh,Zbx]at hx;cases hk;cases hx;show rd
  .rw[Ů À,lp,show i-p=(i-p-1)+1 by lia,Zbd,Zci]at hk;rw[Ů À,lh,show i-p=(i-p-1)+1 by lia,Zbd,Zci]at hx;show R.road _ k x hk hx
theorem Fw(t:SetTable)(i q:Nat)(hk:k<=runEnd t.mask i-i):(þ t k (ϫ t i q)).j=i+k/\∀{m},m<=k->(þ t m (ϫ t i q)).j=i+m:=by
 have gen:∀m,m<=runEnd t.mask i-i->þ t m (ϫ t i q)={ϫ t i q with j:=i+m,more:=runEnd t.mask i-i-m}:=λm=>by induction m with|zero=>exact λ_=>rfl;|succ m ih=>intro hm;rw[fU t m 1,ih À];show t.advance _=_;unfold advance;rw[Ê (show runEnd t.mask i-i-m>0 by lia)];show({ϫ t i q with j:=i+m+1,more:=runEnd t.mask i-i-m-1}:Probe)=_;rw[show i+m+1=i+(m+1)by lia,show runEnd t.mask i-i-m-1=runEnd t.mask i-i-(m+1)by lia]
 show⟨by rw[gen k hk],λ{m}hm=>by rw[gen m À]⟩
theorem Fx(t:SetTable)(i q:Nat):þ t (runEnd t.mask i-i+1) (ϫ t i q)=ϫ t ((i*5+1+q/32)%(t.mask+1)) (q/32):=by rw[fU,uW t (runEnd t.mask i-i) (ϫ t i q) O];rfl
def Own(owner:Array (Option Nat))(j:Nat):Prop:=(owner.getD j (some 0)).isNone=false
theorem tM(t:SetTable)(owner:Array (Option Nat))(h:Int):∀f m n,þ t n (t.probeStart h)=ϫ t (cR t h m).1 (cR t h m).2->(∀k,k<n->Own owner (þ t k (t.probeStart h)).j)->(∃M,m<=M/\M<m+f/\¬Own owner (cR t h M).1)->∃j n',layClean.free t.mask owner f (cR t h m).1 (cR t h m).2=some j/\¬Own owner j/\(þ t n' (t.probeStart h)).j=j/\∀k,k<n'->Own owner (þ t k (t.probeStart h)).j|0,m,n,_,_,⟨M,h1,h2,_⟩=>by lia;|f+1,m,n,en,oc,⟨M,h1,h2,h3⟩=>by unfold layClean.free;cases q:(List.range (runEnd t.mask (cR t h m).1+1-(cR t h m).1)).find? λk=>(owner.getD ((cR t h m).1+k) (some 0)).isNone with
 |some k=>
   obtain⟨hp,as,bs,e,hb⟩:=List.find?_eq_some_iff_append.mp q;have hk:=ı.mp (List.mem_of_find?_eq_some q);have hk:k<=runEnd t.mask (cR t h m).1-(cR t h m).1:=by unfold runEnd at hk⊢;split at hk<;>split<;>lia
   obtain⟨s1,s2⟩:=Fw t (cR t h m).1 (cR t h m).2 hk;show⟨_,n+k,O,λz=>?_,by rw[fU,en,s1],λx hx=>?_⟩;.unfold Own at z;rw[hp]at z;cases z
   .rcases Zbn x n with w|w;.exact oc x w
    .obtain⟨y,rfl⟩:∃y,x=n+y:=⟨x-n,À⟩;rw[fU,en,s2 À];have yk:y<k:=À;have:(as++k::bs)[y]?=some y:=by rw[<-e,List.getElem?_range (by have:=ı.mp (List.mem_of_find?_eq_some q);lia)]
     have al:as.length=k:=by have:=congrArg (λl=>l[as.length]?) e;simp only[List.getElem?_append_right (Nat.le_refl _),Nat.sub_self,List.getElem?_cons_zero]at this;obtain⟨z1,z2⟩:=ĉ.mp this;rw[List.getElem_range]at z2;show z2
     have ym:y∈as:=by rw[ŭ À]at this;show ń this
     have:=hb y ym;unfold Own;simpa using this;|none=>
   have no:=List.find?_eq_none.mp q;have full:∀y,y<=runEnd t.mask (cR t h m).1-(cR t h m).1->Own owner ((cR t h m).1+y):=λy hy=>by
    have hr:(cR t h m).1<=runEnd t.mask (cR t h m).1:=by unfold runEnd;split<;>lia
    show(Bool.not_eq_true _).mp (no y (ı.mpr À))
   show tM t owner h f (m+1) (n+(runEnd t.mask (cR t h m).1-(cR t h m).1+1)) ?_ (λx hx=>?_) ?_;.rw[fU,en,Fx];rfl
   .rcases Zbn x n with w|w;.exact oc x w
    .obtain⟨y,rfl⟩:∃y,x=n+y:=⟨x-n,À⟩;have hy:y<=runEnd t.mask (cR t h m).1-(cR t h m).1:=À;rw[fU,en,(Fw t _ _ hy).1];show full y hy
   .refine⟨M,?_,À,h3⟩;rcases Zbn m M with z|z;.exact z
    .have:M=m:=À;subst this;show absurd (full 0 (Ė _)) h3
theorem Fy(F:nP (t.mask+1))(hj:j0<=t.mask)(nj:¬Own owner j0)(h:Int):∃j n,layClean.free t.mask owner (turns t.mask) (bits h%(t.mask+1)) (bits h)=some j/\¬Own owner j/\(þ t n (t.probeStart h)).j=j/\∀k,k<n->Own owner (þ t k (t.probeStart h)).j:=by apply tM t owner h (turns t.mask) 0 0 O (λk hk=>absurd hk (Zbs _));obtain⟨m,hm,e⟩:=F.2 (cR t h 13).1 j0 (An t h 13) À;show⟨13+m,Ė _,by unfold turns;lia,?_⟩;rw[yF,e];show nj
structure ś(t:SetTable)(owner:Array (Option Nat))(sl:List Nat)(hs:VV):Prop where
 sz:owner.size=t.mask+1
 len:sl.length=hs.length
 nd:sl.Nodup
 le:∀j∈sl,j<=t.mask
 own:∀(k j:Nat),sl[k]?=some j->owner[j]?=some (some k)non:∀j,j<=t.mask->j∉sl->owner[j]?=some none
 road:∀(k j:Nat)h,sl[k]?=some j->hs[k]?=some h->ŀ t sl h j
theorem ś.own_iff(L:ś t owner sl hs)(hj:j<=t.mask):Own owner j↔j∈sl:=by
 unfold Own;rw[Array.getD_eq_getD_getElem?];by_cases h:j∈sl;.obtain⟨k,hk⟩:=Za4 h;rw[L.own k j hk];show⟨λ_=>h,λ_=>rfl⟩
 .rw[L.non j hj h];show⟨λz=>(by cases z),λz=>absurd z h⟩
theorem ś.nil(t:SetTable):ś t (Array.replicate (t.mask+1) none) [] []:=⟨by rw[Array.size_replicate],rfl,ϳ,λj h=>(by cases h),λk j h=>(by simp at h),λj hj _=>by rw[Array.getElem?_replicate,Ê À],λk j h hk=>(by simp at hk)⟩
theorem ś.step(F:nP (t.mask+1))(L:ś t owner sl hs)(room:sl.length<=t.mask)(h:Int):∃j,layClean.free t.mask owner (turns t.mask) (bits h%(t.mask+1)) (bits h)=some j/\ś t (owner.setIfInBounds j (some hs.length)) (sl++[j]) (hs++[h]):=by
 have fr:∃j,j<=t.mask/\j∉sl:=by show Classical.byContradiction λno=>?_;have:=nodup_le (l:=List.range (t.mask+1)) (s:=sl) Zb7 λx hx=>Classical.byContradiction λnx=>no ⟨x,by have:=ı.mp hx;lia,nx⟩;rw[Zay]at this;lia
 obtain⟨j0,l0,n0⟩:=fr;obtain⟨j,n,e,nj,ej,oc⟩:=Fy F (owner:=owner) l0 (λz=>n0 ((L.own_iff l0).mp z)) h;have lj:j<=t.mask:=by rw[<-ej];show Fv t h n
 have nj:j∉sl:=λz=>nj ((L.own_iff lj).mpr z);have rd:ŀ t sl h j:=⟨n,ej,λm hm=>(L.own_iff (Fv t h m)).mp (oc m hm)⟩;have up:∀{x k},ŀ t sl x k->ŀ t (sl++[j]) x k:=λr=>r.up O λa ha=>Zav _ ha;show⟨j,e,by rw[Zcc];show L.sz,by rw[à,à,L.len];rfl,?_,λx hx=>?_,λk x hk=>?_,λx hx nx=>?_,λk x y hk hy=>?_⟩;.rw[Za9];show⟨L.nd,Za7.mpr ⟨by simp,ϳ⟩,λa ha b hb=>?_⟩;rw[ĸ.mp hb];show λz=>nj (z▸ha)
 .rcases è.mp hx with z|z;.exact L.le x z
  .rw[ĸ.mp z];show lj
 .rw[Array.getElem?_setIfInBounds];rcases Zbn k sl.length with z|z;.rw[ŭ z]at hk;rw[Ç (show¬j=x from λw=>nj (by rw[w];show ń hk))];show L.own k x hk
  .have dA:=(ĉ.mp hk).1;rw[à]at dA;have:k=sl.length:=by simp at dA;lia
   subst this;rw[Ů (Ø _),Zbx]at hk;cases hk;rw[Ê O,Ê (by rw[L.sz];lia),L.len]
 .have hn:x≠j:=λz=>nx (by rw[z];show Ļ _ (ĸ.mpr O));rw[Array.getElem?_setIfInBounds,Ç (Ne.symm hn)];show L.non x hx λz=>nx (Zav _ z)
 .rcases Zbn k sl.length with z|z;.rw[ŭ z]at hk;rw[ŭ (by rw[<-L.len];show z)]at hy;show up (L.road k x y hk hy)
  .have dA:=(ĉ.mp hk).1;rw[à]at dA;have:k=sl.length:=by simp at dA;lia
   subst this;rw[Ů (Ø _),Zbx]at hk;rw[Ů (by rw[L.len];show Ø _),L.len,Zbx]at hy;cases hk;cases hy;show up rd
theorem Fz(F:nP (t.mask+1)):∀(rest:VV)(owner:Array (Option Nat))sl hs,ś t owner sl hs->sl.length+rest.length<=t.mask+1->∃nN JA,(rest.foldl (λacc h=>do let(owner,k)<-acc let j<-layClean.free t.mask owner (turns t.mask) (bits h%(t.mask+1)) (bits h)pure (owner.setIfInBounds j (some k),k+1)) (some (owner,hs.length)))=some (nN,(hs++rest).length)/\ś t nN JA (hs++rest)|[],owner,sl,hs,L,_=>⟨owner,sl,by rw[Ĕ];rfl,by rw[Ĕ];exact L⟩|h::rest,owner,sl,hs,L,room=>by obtain⟨j,e,L2⟩:=L.step F (by rw[İ]at room;lia) h;obtain⟨o',s',e2,L3⟩:=Fz F rest _ _ _ L2 (by rw[à,İ]at*;simp;lia);show⟨o',s',?_,by rw[Ġ]at L3;show L3⟩;rw[Zcf];show rest.foldl _ ((some (owner,hs.length)).bind λp=>(layClean.free t.mask p.1 (turns t.mask) (bits h%(t.mask+1)) (bits h)).bind λj=>some (p.1.setIfInBounds j (some p.2),p.2+1))=_;rw[Option.bind_some];show rest.foldl _ ((layClean.free t.mask owner (turns t.mask) (bits h%(t.mask+1)) (bits h)).bind λj=>some (owner.setIfInBounds j (some hs.length),hs.length+1))=_;rw[e,Option.bind_some];rw[Ġ,à]at e2;simp only[List.length_append,List.length_cons,List.length_nil,Nat.zero_add]at e2⊢;rw[show 1+rest.length=rest.length+1 by lia]at e2;show e2
theorem Jr(F:nP (t.mask+1))(room:hs.length<=t.mask+1):∃owner sl,layClean t.mask hs.toArray=some owner/\ś t owner sl hs:=by obtain⟨o,s,e,L⟩:=Fz F hs _ _ _ (ś.nil t) (by simpa using room);show⟨o,s,?_,by simpa using L⟩;unfold layClean;rw[List.foldl_toArray];show(hs.foldl _ (some (Array.replicate (t.mask+1) none,0))).map (·.1)=_;have e:hs.foldl (λ(acc:Option (Array (Option Nat)×Nat))h=>do let(owner,k)<-acc let j<-layClean.free t.mask owner (turns t.mask) (bits h%(t.mask+1)) (bits h)pure (owner.setIfInBounds j (some k),k+1)) (some (Array.replicate (t.mask+1) none,0))=some (o,([]++hs).length):=e;rw[e];rfl
def fM(mask:Nat)(owner:Array (Option Nat)):List (Nat×Nat):=(List.range (mask+1)).filterMap λj=>(owner.getD j none).map (j,·)
section
variable{t:SetTable}{hs:VV}
theorem ś.at(L:ś t owner sl hs)(hj:j<=t.mask)(k:Nat):owner.getD j none=some k↔sl[k]?=some j:=by
 rw[Array.getD_eq_getD_getElem?];constructor
 .intro e;by_cases h:j∈sl;.obtain⟨i,hi⟩:=Za4 h;rw[L.own i j hi]at e;cases e;show hi
  .rw[L.non j hj h]at e;cases e
 .intro e;rw[L.own k j e];rfl
theorem ś.live(L:ś t owner sl hs)(j k:Nat):(j,k)∈fM t.mask owner↔sl[k]?=some j:=by
 unfold fM;rw[Zch];constructor
 .rintro⟨a,ha,e⟩;have ha:a<=t.mask:=by have:=ı.mp ha;lia
  cases q:owner.getD a none with|none=>rw[q]at e;cases e;|some i=>rw[q]at e;have e:(a,i)=(j,k):=ģ e;have e1:a=j:=congrArg Prod.fst e;have e2:i=k:=congrArg Prod.snd e;rw[e1,e2]at q;rw[e1]at ha;show(L.at ha k).mp q
 .intro e;have hj:=L.le j (ń e);show⟨j,ı.mpr À,by rw[(L.at hj k).mpr e];rfl⟩
theorem Aq(mask:Nat)(owner:Array (Option Nat)):((fM mask owner).map (·.1)).Pairwise (·<·):=by rw[ň];unfold fM;rw[List.pairwise_filterMap];refine List.pairwise_lt_range.imp λ{a b}qv x hx y hy=>?_;cases q:owner.getD a none with|none=>rw[q]at hx;cases hx;|some i=>cases q':owner.getD b none with|none=>rw[q']at hy;cases hy;|some i'=>rw[q]at hx;rw[q']at hy;cases hx;cases hy;show qv
theorem ś.live_nd(L:ś t owner sl hs):((fM t.mask owner).map (·.2)).Nodup:=by rw[List.Nodup,ň];have:=Aq t.mask owner;rw[ň]at this;show this.imp_of_mem λ{a b}ha hb qv e=>?_;have h1:=(L.live a.1 a.2).mp ha;have h2:=(L.live b.1 b.2).mp hb;rw[e,h2]at h1;have:=ģ h1;lia
theorem ś.order(L:ś t owner sl hs):((fM t.mask owner).map (·.2)).Perm (List.range hs.length):=by
 show(List.perm_ext_iff_of_nodup L.live_nd Zb7).mpr λk=>?_;rw[ı,Ù];constructor;.rintro⟨⟨j,i⟩,h,rfl⟩;have:=(ĉ.mp ((L.live j i).mp h)).1;rw[L.len]at this;show this
 .intro hk;have hk:k<sl.length:=by rw[L.len];show hk
  show⟨(sl[k],k),(L.live _ _).mpr (Ô hk),O⟩
theorem ś.places(L:ś t owner sl hs)(j:Nat):j∈(fM t.mask owner).map (·.1)↔j∈sl:=by
 rw[Ù];constructor;.rintro⟨⟨a,i⟩,h,rfl⟩;show ń ((L.live a i).mp h)
 .intro h;obtain⟨k,hk⟩:=Za4 h;show⟨(j,k),(L.live j k).mpr hk,O⟩
theorem Js(F:nP (t.mask+1))(nd:hs.Nodup)(room:hs.length<=t.mask):∃ps od,SetTable.laid t.mask t.finger t.moves t.led t.plain hs.toArray=some ({t with place:=List.toArray ps,dummies:=#[]},List.toArray od)/\od.Perm (List.range hs.length)/\Rc {t with place:=List.toArray ps,dummies:=#[]} ps (od.map λk=>hs.getD k 0):=by
 obtain⟨owner,sl,e,L⟩:=Jr F (hs:=hs) À;show⟨(fM t.mask owner).map (·.1),(fM t.mask owner).map (·.2),?_,L.order,?_⟩;.unfold SetTable.laid;rw[e];rfl
 .have ln:((fM t.mask owner).map (·.2)).length=hs.length:=by rw[L.order.length_eq,Zay]
  have lp:(fM t.mask owner).length=hs.length:=by rw[Ï]at ln;show ln
  show⟨⟨O,O,Aq _ _,λj hj=>L.le j ((L.places j).mp hj),by rw[Ï,lp];show room⟩,F,by rw[Ï,Ï,Ï],?_,λi j h hj hh=>?_⟩
  .rw[List.Nodup,ň];show L.live_nd.imp_of_mem λ{a b}ha hb qv=>?_;have la:=ı.mp (L.order.mem_iff.mp ha);have lb:=ı.mp (L.order.mem_iff.mp hb);rw[ě,ě,Ô la,Ô lb];show hs[a]≠hs[b];rcases Zb4 a b with z|z|z;.exact ϲ.mp nd a b la lb z
   .exact absurd z qv
   .exact(ϲ.mp nd b a lb la z).symm
  .rw[ì]at hj;rw[ì,ì]at hh;cases q:(fM t.mask owner)[i]? with|none=>rw[q]at hj;cases hj;|some x=>
    rw[q]at hj hh;cases hj;have hx:=(L.live x.1 x.2).mp (ń q);have hk:x.2<hs.length:=by rw[<-L.len];show(ĉ.mp hx).1
    have eh:hs[x.2]?=some h:=by have hh:some (hs.getD x.2 0)=some h:=hh;rw[<-hh,ě,Ô hk];rfl
    show ŀ.up (t:=t) O (λa ha=>(L.places a).mpr ha) (L.road x.2 x.1 h hx eh)
end
structure SetAt(b:Bool)(h:Heap)(a:Addr)(L:List (Int×Value))(o:Obj)(ep:Nat)(t:SetTable)(ps:List Nat):Prop where
 get:h.get? a=some o
 ex:o.ExactSet
 dat:o.data=.set L.toArray ep t
 rc:Rc t ps (L.map (·.1))led:t.led=b
 pla:t.plain=true
 odd:t.mask%2=1
 sml:t.mask<2^14
theorem SetAt.at(S:SetAt b h a L o ep t ps)(k:h'.get? a=some o):SetAt b h' a L o ep t ps:=⟨k,S.ex,S.dat,S.rc,S.led,S.pla,S.odd,S.sml⟩
theorem Rc.as(R:Rc t ps hs)(h1:t'.mask=t.mask)(h2:t'.place=t.place)(h3:t'.dummies=t.dummies):Rc t' ps hs:=⟨⟨h2.trans R.tb.pl,h3.trans R.tb.no,R.tb.up,λj hj=>by rw[h1];show R.tb.le j hj,by rw[h1];show R.tb.few⟩,by rw[h1];show R.full,R.len,R.nd,λi j x hi hx=>(R.road i j x hi hx).up h1 λ_ h=>h⟩
theorem Rc.fits(R:Rc t ps hs):t.fits hs.length=true:=by unfold SetTable.fits SetTable.fill;rw[R.tb.pl,R.tb.no,R.len];have:=R.tb.few;simp;lia
theorem FJ(L:List (Int×Value))(i:Nat):((L.toArray)[i]?.map (·.1)).getD 0=ϊ (L.map (·.1)) i:=by unfold ϊ;rw[ŵ,ì]
theorem wL{t:SetTable}(e:t.probe g h (t.probeStart h)=some m)(hf:∀i,f i=g i):t.probe f h (none.getD (t.probeStart h))=some m:=by rw[show f=g from funext hf];show e
section
theorem SetAt.state(S:SetAt b s.heap a L o ep t ps)(h:Q (L.toArray,ep,t) s):wpAny `a A (setState a) Q E s:=wpAny_setState_of S.get S.dat (by have:=S.rc.fits;rw[Ï]at this;simpa using this) h
theorem SetAt.search_new(S:SetAt b s.heap a L o ep t ps)(nh:h∉L.map (·.1))(q:∀j,j<=t.mask->j∉ps->ŀ t ps h j->Q (.free j false) s):wpAny `a A (setSearch a x h true) Q E s:=by
 obtain⟨j,hj,nj,rd,e⟩:=S.rc.new nh;show wpAny _ _ (setSearchFrom _ _ _ _ (99999+1) _) _ _ s;show wpAny _ _ (setState a>>=_) _ _ s;show Ã (S.state ?_);dsimp only;have gw:t.gaveWay=false:=by unfold SetTable.gaveWay;rw[S.odd];rfl
 rw[gw];simp only[Bool.false_eq_true,↓reduceIte];rw[wL e];.exact Ì (q j hj nj rd)
 .exact λi=>FJ L i
theorem SetAt.search_old(S:SetAt b s.heap a L o ep t ps){i:Nat}(hi:L[i]?=some (h,y))(eq:∀{Q':Bool->Shared->Prop}{E':Ry},Q' true s->wpAny `a A (eqBool y x) Q' E' s)(seen:b=false->∀{A:Around}{Q':Bool->Shared->Prop}{E':Ry}(ys:ó),(∀v∈ys,v∈L.map (·.2))->Q' false s->wpAny `a A (searchCouldBeSeen x ys) Q' E' s)(q:Q (.there none) s):wpAny `a A (setSearch a x h true) Q E s:=by
 obtain⟨j,nx,hj,e⟩:=S.rc.old (h:=h) (i:=i) (by rw[ì,hi];rfl);show wpAny _ _ (setSearchFrom _ _ _ _ (99999+1) _) _ _ s;show wpAny _ _ (setState a>>=_) _ _ s;show Ã (S.state ?_);dsimp only;have gw:t.gaveWay=false:=by unfold SetTable.gaveWay;rw[S.odd];rfl
 rw[gw];simp only[Bool.false_eq_true,↓reduceIte];rw[wL e]
 .dsimp only;rw[S.led];have sub:∀v∈(L.toArray.filter (·.1==h)).toList.map (·.2),v∈L.map (·.2):=λv hv=>by obtain⟨p,hp,rfl⟩:=Ù.mp hv;rw[Array.mem_toList_iff,Array.mem_filter]at hp;show Ù.mpr ⟨p,by simpa using hp.1,rfl⟩
  cases hb:b;.simp only[Bool.not_false,↓reduceIte];show Ã (seen hb _ sub ?_);simp only[Bool.false_eq_true,↓reduceIte];rw[ŵ,hi];dsimp only;show Ã (wpAny_holding (eq (Ã (S.state ?_))));dsimp only;simp only[Bool.and_self,↓reduceIte];show Ì q
  .simp only[Bool.not_true,Bool.false_eq_true,↓reduceIte];rw[ŵ,hi];dsimp only;show Ã (wpAny_holding (eq (Ã (S.state ?_))));dsimp only;simp only[Bool.and_self,↓reduceIte];show Ì q
 .exact λi=>FJ L i
theorem qt{b:Addr}:byScan (.ref b) es=false:=rfl
theorem SetAt.add_old(S:SetAt b s.heap a L o ep t ps){i:Nat}(hi:L[i]?=some (h,y))(eq:∀{Q':Bool->Shared->Prop}{E':Ry},Q' true s->wpAny `a A (eqBool y (.ref c)) Q' E' s)(seen:b=false->∀{A:Around}{Q':Bool->Shared->Prop}{E':Ry}(ys:ó),(∀v∈ys,v∈L.map (·.2))->Q' false s->wpAny `a A (searchCouldBeSeen (.ref c) ys) Q' E' s)(q:Q false s):wpAny `a A (setAddHashed a (.ref c) h) Q E s:=by unfold setAddHashed;apply wpAny_holding;rw[show(100000:Nat)=99999+1 from O];unfold setAddHashedIn;show Ã (S.state ?_);dsimp only;rw[qt];simp only[Bool.false_eq_true,↓reduceIte];show Ã (S.search_old hi eq seen ?_);show Ì q
end
section
theorem FN(L:List α)(p:Nat)(hp:p<=L.length)(x:α):insertAt L.toArray p x=(L.take p++x::L.drop p).toArray:=by unfold insertAt;simp;rw[θ (by rw[ζ];lia)]
theorem SetAt.store(S:SetAt b s.heap a L o ep t ps)(R:Rc t' ps' (L'.map (·.1)))(l1:t'.led=b)(p1:t'.plain=true)(o1:t'.mask%2=1)(s1:t'.mask<2^14)(q:∀h',Heap.SameBut a s.heap h'->SetAt b h' a L' {o with data:=.set L'.toArray (ep+1) t'} (ep+1) t' ps'->Q () `l):wpAny `a A (storeSet a L'.toArray t') Q E s:=by
 have len:L'.length<=2^14:=by have h1:=R.tb.few;have h2:=R.len;rw[Ï]at h2;lia
 show wpAny_storeSet_of S.get S.dat (q _ (Heap.SameBut.update s.heap a _) ⟨?_,S.ex,O,R,l1,p1,o1,s1⟩) (by rw[ă,sizeLine_eq];lia);have:=Heap.get?_update_self (Obj.putSet L'.toArray t') S.get (by rw[putSet_of _ _ S.dat];rfl);rw[putSet_of _ _ S.dat]at this;show this
end
section
theorem wM{α:Type}(L:List α)(p:Nat)(x:α):(L.take p++x::L.drop p).Perm (x::L):=by apply List.perm_middle.trans;rw[γ]
theorem SetAt.add_new(S:SetAt b s.heap a L o ep t ps)(nh:h∉L.map (·.1))(room:(L.length+1)*5<t.mask*3)(hv:∀{A:Around}{Q':Bool->Shared->Prop}{E':Ry},Q' true s->wpAny `a A (hashByValue 8 (.ref c)) Q' E' s)(q:∀h' L' o' bE t' ps',Heap.SameBut a s.heap h'->SetAt b h' a L' o' bE t' ps'->L'.Perm ((h,.ref c)::L)->t'.mask=t.mask->Q true `l):wpAny `a A (setAddHashed a (.ref c) h) Q E s:=by
 unfold setAddHashed;apply wpAny_holding;rw[show(100000:Nat)=99999+1 from O];unfold setAddHashedIn;show Ã (S.state ?_);dsimp only;rw[qt];simp only[Bool.false_eq_true,↓reduceIte];show Ã (S.search_new nh λj hj nj rd=>?_);dsimp only;show Ã (S.state ?_);dsimp only;have lp:ps.length=L.length:=by have:=S.rc.len;rw[Ï]at this;show this.symm
 obtain⟨p,hp,e,R⟩:=S.rc.put nh hj nj rd À;rw[e];dsimp only;rw[Ê S.pla];show Ã (hv ?_);simp only[↓reduceIte];rw[FN L p À];have em:(L.take p++(h,Value.ref c)::L.drop p).map (·.1)=(L.map (·.1)).take p++h::(L.map (·.1)).drop p:=by rw[é,Ľ,List.map_take,List.map_drop]
 show Ã (S.store (t':={t with place:=(ps.take p++j::ps.drop p).toArray}) (L':=L.take p++(h,Value.ref c)::L.drop p) (ps':=ps.take p++j::ps.drop p) (by rw[em];show R) S.led S.pla S.odd S.sml λh' sb S'=>?_);have nf:SetTable.tooFull {t with place:=(ps.take p++j::ps.drop p).toArray}=false:=by unfold SetTable.tooFull SetTable.fill;dsimp only;rw[S.rc.tb.no,ă,(wM ps p j).length_eq,İ];apply č;show¬(ps.length+1+0)*5≥t.mask*3;lia
 rw[nf];simp only[Bool.not_false,Bool.and_false,Bool.false_eq_true,↓reduceIte];show Ì (q _ _ _ _ _ _ sb S' (wM L p _) O)
theorem wN(hn:n<2^13):∀f k,k<=13->13<=k+f->∃m,k<=m/\m<=13/\sizeAbove.go n f (2^k)=2^m/\n<2^m
 |0,k,h1,h2=>⟨k,Ø _,h1,O,by rw[show k=13 by lia];exact hn⟩|f+1,k,h1,h2=>by
  unfold sizeAbove.go;by_cases c:2^k<=n
  .rw[Ê c,<-Nat.pow_succ];have:k≠13:=λz=>by rw[z]at c;lia
   obtain⟨m,a,r⟩:=wN hn f (k+1) À À;show⟨m,À,r⟩
  .rw[Ç c];show⟨k,Ø _,h1,O,À⟩
theorem FP(hn:n<2^13):∃k,3<=k/\k<=13/\sizeAbove n=2^k/\n<2^k:=wN hn 64 3 À À
theorem FQ{α:Type}(L:List α):(List.range L.length).filterMap (L[·]?)=L:=by
 have e5:(List.range L.length).map (L[·]?)=L.map some:=by
  show Zbw λi=>?_;rw[ì,ì];by_cases hi:i<L.length;.rw[List.getElem?_range hi,Ô hi];show some L[i]?=some (some L[i]);rw[Ô hi]
  .rw[η (by rw[Zay];lia),η À];rfl
 have e6:=List.filterMap_map (f:=(L[·]?)) (g:=id) (l:=List.range L.length);rw[e5,List.filterMap_map]at e6;show e6.symm.trans List.filterMap_some
theorem FT(L:List (Int×Value)):∀l:List Nat,(∀k∈l,k<L.length)->(l.filterMap (L[·]?)).map (·.1)=l.map (λk=>(L.map (·.1)).getD k 0)|[],_=>rfl|x::l,hl=>by rw[Zbz,Ô (hl x Ζ)];dsimp only;rw[Ľ,Ľ,FT L l λk hk=>hl k (ώ _ hk),ě,ì,Ô (hl x Ζ)];rfl
theorem Kl{L:List (Int×Value)}{t1:SetTable}(F:nP (t1.mask+1))(nd:(L.map (·.1)).Nodup)(room:L.length<=t1.mask):∃(od ps:List Nat),laid t1.mask t1.finger t1.moves t1.led t1.plain (L.toArray.map (·.1))=some ({t1 with place:=List.toArray ps,dummies:=#[]},od.toArray)/\od.toArray.filterMap (L.toArray[·]?)=(od.filterMap (L[·]?)).toArray/\((od.filterMap (L[·]?)).toArray.size !=L.toArray.size)=false/\(od.filterMap (L[·]?)).Perm L/\Rc {t1 with place:=List.toArray ps,dummies:=#[]} ps ((od.filterMap (L[·]?)).map (·.1)):=by
 obtain⟨y6,od,e,po,R⟩:=Js (t:=t1) F (hs:=L.map (·.1)) nd (by rw[Ï];show room);have lo:∀k∈od,k<L.length:=λk hk=>by have:=ı.mp (po.mem_iff.mp hk);rwa[Ï]at this
 have pL:(od.filterMap (L[·]?)).Perm L:=by show(po.filterMap _).trans ?_;rw[Ï,FQ]
 show⟨od,y6,by rw[List.map_toArray,e],by simp,by rw[ă,ă,pL.length_eq];simp,pL,by rw[FT L od lo];show R⟩
theorem Jt(h:3<=k):(2^k-1)%2=1:=by
 have h1:2^k=2^(k-1)*2:=by rw[<-Nat.pow_succ];congr 1;lia
 have:0<2^(k-1):=Nat.pow_pos á;lia
theorem SetAt.relay(S:SetAt b s.heap a L o ep t ps)(hn:n<2^13)(hl:L.length<=n)(q:∀h' L' o' bE t' ps',Heap.SameBut a s.heap h'->SetAt b h' a L' o' bE t' ps'->L'.Perm L->n<=t'.mask->Q () `l):wpAny `a A (setRelay a n) Q E s:=by
 obtain⟨k,k1,k2,ek,lk⟩:=FP hn;have p8:2^3<=2^k:=Nat.pow_le_pow_right á k1;have pm:2^k<=2^13:=Nat.pow_le_pow_right á k2;obtain⟨t1,GO⟩:∃t1:SetTable,t1={t with mask:=2^k-1,moves:=t.movedTo (2^k-1)}:=`i;have hm:t1.mask=2^k-1:=by rw[GO]
 have F:nP (t1.mask+1):=by rw[hm,show 2^k-1+1=2^k by lia];show wI k k1 À
 obtain⟨od,y6,e1,e2,e3,pL,R⟩:=Kl (L:=L) F S.rc.nd (by rw[hm];lia);unfold setRelay;show Ã (S.state ?_);dsimp only;rw[ek,Ç ϟ];have er:t.relaid (L.toArray.map (·.1)) n=laid t1.mask t1.finger t1.moves t1.led t1.plain (L.toArray.map (·.1)):=by unfold SetTable.relaid;rw[ek,GO]
 apply Ã;rw[er,e1];wp_delta;dsimp only;rw[e2,e3];simp only[Bool.false_eq_true,↓reduceIte];apply Ì;show S.store (t':={t1 with place:=List.toArray y6,dummies:=#[]}) (L':=od.filterMap (L[·]?)) (ps':=y6) R (by rw[GO];show S.led) (by rw[GO];show S.pla) (by show t1.mask%2=1;rw[hm];show Jt k1) (by show t1.mask<2^14;rw[hm];lia) λh' sb S'=>?_;show q _ _ _ _ _ _ sb S' pL (by show n<=t1.mask;rw[hm];lia)
theorem SetAt.roomFor(S:SetAt b s.heap a L o ep t ps)(hm:(L.length+m)*2<2^13)(q:∀h' L' o' bE t' ps',Heap.SameBut a s.heap h'->SetAt b h' a L' o' bE t' ps'->L'.Perm L->(L.length+m)*5<t'.mask*3->Q () `l):wpAny `a A (setRoomFor a m) Q E s:=by
 unfold setRoomFor;show Ã (S.state ?_);dsimp only;have lp:t.place.size=L.length:=by have:=S.rc.len;rw[Ï]at this;rw[S.rc.tb.pl,ă,this]
 have lf:t.fill=L.length:=by unfold SetTable.fill;rw[lp,S.rc.tb.no];rfl
 unfold SetTable.roomFor;rw[lf,lp];by_cases c:(L.length+m)*5≥t.mask*3
 .rw[Ê c];dsimp only;have:=S.rc.tb.few;have h2:=S.rc.len;rw[Ï]at h2;have pos:1<=t.mask:=by have:=S.odd;lia
  show S.relay hm À λh' L' o' bE t' ps' sb S' p l=>q _ _ _ _ _ _ sb S' p À
 .rw[Ç c];show Ì (q s.heap L o ep t ps (Heap.SameBut.refl a s.heap) S (.refl _) À)
end
section
variable{A:Around}{E:Ry}{s:Shared}{K:Type}[DecidableEq K]{knd:KeyKind prog w K}
def ITup(knd:KeyKind prog w K)(h:Heap)(ks:List K)(c:Addr):Prop:=IsTupleKey knd h ks c/\∃o us n,h.get? c=some o/\o.cls=.type "tuple"/\o.data=.seq us n/\∀v∈us.toList,∃i t,v=Value.int i t
theorem ITup.at(x:ITup knd h ks c)(k:∀o,h.get? c=some o->h'.get? c=some o):ITup knd h' ks c:=by obtain⟨⟨o,us,n,g,r⟩,o',Vn,n',g',r'⟩:=x;show⟨⟨o,us,n,k _ g,r⟩,o',Vn,n',k _ g',r'⟩
theorem FW(x:ITup knd s.heap ks c)(q:Q true s):wpAny `a A (hashByValue 8 (.ref c)) Q E s:=by
 obtain⟨hk,o,us,n,g,hc,hd,hi⟩:=x;unfold hashByValue;show Ã (wpAny_specialOf hk.typeIs F.slot_tuple_hash.lookup ?_);show wpAny _ _ (seqItems? (.ref c)>>=_) _ _ s;show Ã (wpAny_seqItems g hd ?_);apply Ã;show wpAny _ _ (forIn us _ _) _ _ s;rw[<-Array.forIn_toList];show wpAny_forIn_list _ (λrest r s'=>r.1=none/\s'=s/\∀v∈rest,∃i t,v=Value.int i t) _ ?_ ?_ _ _ ⟨O,O,hi⟩;.rintro v rest r s'⟨hr,rfl,df⟩;obtain⟨i,t,rfl⟩:=df v Ζ;apply Ã;unfold hashByValue;apply Ì;simp only[Bool.not_true,Bool.false_eq_true,if_false];show Ì ⟨O,O,λu D2=>df u (ώ _ D2)⟩
 .rintro⟨r1,r2⟩s'⟨hr,rfl,_⟩;simp only at hr;subst hr;show Ì q
theorem Ar(x:ITup knd s.heap ks c)(q:Q false s):wpAny `a A (ofAClassStatement 8 (.ref c)) Q E s:=by
 obtain⟨hk,o,us,n,g,hc,hd,hi⟩:=x;unfold ofAClassStatement;show Ã (wpAny_typeOf hk.typeIs ?_);dsimp only;simp only[beq_self_eq_true,↓reduceIte];show Ã (Ì ?_);simp only[Bool.not_true,Bool.false_eq_true,↓reduceIte];show Ã (wpAny_seqItems g hd ?_);dsimp only;apply Ã;rw[<-Array.forIn_toList];show wpAny_forIn_list _ (λrest r s'=>r.1=none/\s'=s/\∀v∈rest,∃i t,v=Value.int i t) _ ?_ ?_ _ _ ⟨O,O,hi⟩;.rintro v rest r s'⟨hr,rfl,df⟩;obtain⟨i,t,rfl⟩:=df v Ζ;apply Ã;unfold ofAClassStatement;apply Ì;simp only[Bool.false_eq_true,if_false];show Ì ⟨O,O,λu D2=>df u (ώ _ D2)⟩
 .rintro⟨r1,r2⟩s'⟨hr,rfl,_⟩;simp only at hr;subst hr;show Ì q
theorem FZ(x:ITup knd s.heap ks c)(ys:ó)(hy:∀v∈ys,∃d k,v=.ref d/\ITup knd s.heap k d)(q:Q false s):wpAny `a A (searchCouldBeSeen (.ref c) ys) Q E s:=by
 unfold searchCouldBeSeen;apply Ã;show wpAny_forIn_list _ (λrest r s'=>r.1=none/\s'=s/\∀v∈rest,∃d k,v=Value.ref d/\ITup knd s.heap k d) _ ?_ ?_ _ _ ⟨O,O,hy⟩
 .rintro v rest r s'⟨hr,rfl,df⟩;obtain⟨d,k,rfl,hd⟩:=df v Ζ;have ve:=λu D2=>df u (ώ _ D2);dsimp only;by_cases e:(c==d||(carriedByValue (.ref c)&&carriedByValue (.ref d)))=true;.rw[Ê e];show Ì ⟨O,O,ve⟩
  .rw[Ç e];show Ã (wpAny_eqIsQuiet_tuple x.1 ?_);simp only[Bool.not_true,Bool.false_eq_true,if_false];show Ã (wpAny_eqIsQuiet_tuple hd.1 ?_);simp only[Bool.not_true,Bool.false_eq_true,if_false];show Ã (Ar x ?_);simp only[Bool.false_eq_true,if_false];show Ã (Ar hd ?_);simp only[Bool.false_eq_true,if_false];show Ì ⟨O,O,ve⟩
 .rintro⟨r1,r2⟩s'⟨hr,rfl,_⟩;simp only at hr;subst hr;show Ì q
theorem tO(next:Nat->Nat):∀f k left(out:Array α),left.length<=f->(pickOrder.go next f k left out).toList.Perm (out.toList++left)|0,k,left,out,h=>by have:left=[]:=Zb0.mp (Nat.le_zero.mp h);rw[this,Ĕ];exact .refl _;|f+1,k,[],out,h=>by rw[Ĕ];exact .refl _;|f+1,k,x::l,out,h=>by unfold pickOrder.go;have hi:next k%(x::l).length<(x::l).length:=Nat.mod_lt _ (by rw[İ];lia);rw[Ô hi];dsimp only;show(tO next f (k+1) _ _ (by rw[List.length_eraseIdx_of_lt hi];lia)).trans ?_;rw[Array.toList_push,Ġ];apply List.Perm.append_left;rw[List.eraseIdx_eq_take_drop_succ];show(List.perm_middle (l₁:=(x::l).take _)).symm.trans ?_;rw[<-Zbh hi,γ]
def ord(w:World)(a:Addr)(ep:Nat)(L:List (Int×Value)):List (Int×Value):=if w.params.followText "set-order"=true then(pickOrder (w.params.setOrder a ep) L.toArray).toList else L
theorem ord_perm(w:World)(a:Addr)(ep:Nat)(L:List (Int×Value)):(ord w a ep L).Perm L:=by
 unfold ord;split;.have:=tO (w.params.setOrder a ep) L.toArray.size 0 L.toArray.toList #[] Õ;simpa[pickOrder]using this
 .exact .refl _
def ledW(w:World):Bool:=!w.params.followText "set-order"
theorem SetAt.walk(S:SetAt (ledW w) s.heap a L o ep t ps)(q:Q (ord w a ep L).toArray s):wpAny (model prog w) A (setWalk a) Q E s:=by unfold setWalk;refine Ã (S.state ?_);dsimp only;unfold setsByText;refine Ã (Ã (wpAny_askSetting (Ì ?_)));have hl:=S.led;unfold ledW at hl;unfold ord at q;show wpAny _ _ (if w.params.followText "set-order"=true then _ else _) _ _ _;cases hf:w.params.followText "set-order"with|true=>rw[hf]at q;simp only[↓reduceIte]at q⊢;refine Ã (wpAny_askSetting (Ì ?_));show Q (pickOrder (w.params.setOrder a ep) L.toArray) s;simpa using q;|false=>rw[hf]at q hl;simp only[Bool.false_eq_true,↓reduceIte]at q⊢;show wpAny _ _ (if(!t.plain&&decide (L.toArray.size>1))=true then _ else _) _ _ _;rw[S.pla];simp only[Bool.not_true,Bool.false_and,Bool.false_eq_true,↓reduceIte];apply Ã;show wpAny _ _ (if(!t.led&&decide (L.toArray.size>1))=true then _ else _) _ _ _;rw[hl];simp only[Bool.not_not,Bool.false_and,Bool.not_false,Bool.not_true,Bool.false_eq_true,↓reduceIte];show Ì (Ì q)
theorem SetAt.unseen(S:SetAt (ledW w) s.heap a L o ep t ps)(os:ø)(f:Option Addr)(q:Q (ord w a ep L).toArray s):wpAny `a A (setWalkUnseen a os f) Q E s:=by unfold setWalkUnseen;show Ã (S.state ?_);dsimp only;unfold setsByText;show Ã (Ã (wpAny_askSetting (Ì ?_)));have hl:=S.led;unfold ledW at hl;show wpAny _ _ (if(w.params.followText "set-order"||(t.led&&t.plain)||decide (L.toArray.size<=1))=true then _ else _) _ _ _;rw[Ê (by rw[hl,S.pla];cases w.params.followText "set-order"<;>rfl)];show S.walk q
end
def uni(L M:List (Int×Value)):List (Int×Value):=L++M.filter λp=>decide (p.1∉L.map (·.1))
theorem uX(M:List (Int×Value)):uni [] M=M:=by unfold uni;rw[Zce];show List.filter_eq_self.mpr λp _=>ç Õ
section
variable{A:Around}{E:Ry}{s:Shared}{K:Type}[DecidableEq K]{knd:KeyKind prog w K}{U:List K->Prop}
def Gd(knd:KeyKind prog w K)(U:List K->Prop)(h:Heap)(L:List (Int×Value)):Prop:=∀p∈L,∃c ks,p=(tupleKeyHash knd ks,.ref c)/\U ks/\ITup knd h ks c
theorem Gd.at(g:Gd knd U h L)(S:SetAt b h a M o ep t ps)(sb:Heap.SameBut a h h'):Gd knd U h' L:=λp hp=>by
 obtain⟨c,ks,e,u,x⟩:=g p hp;show⟨c,ks,e,u,x.at λo' ho=>?_⟩;have:c≠a:=λz=>by obtain⟨_,o2,us,n,g2,c2,d2,_⟩:=x;rw[z,S.get]at g2;cases g2;rw[S.ex.1]at c2;show absurd c2 á
 show(sb.2 c this).trans ho
theorem Gd.perm(g:Gd knd U h L)(p:M.Perm L):Gd knd U h M:=λq hq=>g q (p.mem_iff.mp hq)
theorem Gd.uni(g:Gd knd U h L)(g':Gd knd U h M):Gd knd U h (uni L M):=λq hq=>(è.mp hq).elim (g q) λz=>g' q (ķ.mp z).1
theorem SetAt.merge(S:SetAt (ledW w) s.heap a L o ep t ps)(T:SetAt (ledW w) s.heap c M oc ec tc pc)(ne:a≠c)(hu:A.units<cLine)(inj:∀x y,U x->U y->tupleKeyHash knd x=tupleKeyHash knd y->x=y)(gS:Gd knd U s.heap L)(gT:Gd knd U s.heap M)(room:(L.length+M.length)*2<2^13)(each:Sem Unit)(he:∀{Q':Unit->Shared->Prop}{s':Shared},s'.heap.get? c=some oc->Q' () s'->wpAny `a A each Q' E s')(q:∀h' L' o' bE t' ps',Heap.SameBut a s.heap h'->SetAt (ledW w) h' a L' o' bE t' ps'->L'.Perm (uni L M)->Q () `l):wpAny `a A (setMerge a c each) Q E s:=by
 unfold setMerge;rw[Ç (show¬(a==c)=true by rw[beq_iff_eq];show ne)];show Ã (T.state ?_);dsimp only;by_cases hM:M=[];.subst hM;show Ì (q s.heap L o ep t ps (Heap.SameBut.refl _ _) S (by unfold uni;rw[Zbv,Ĕ]))
 rw[Ç (show¬M.toArray.isEmpty=true by rw[List.isEmpty_toArray,List.isEmpty_iff];show hM)];show Ã (S.roomFor (m:=M.toArray.size) (by rw[ă];show room) λh1 L1 o1 e1 t1 p1 ma S1 fy A9=>?_);rw[ă]at A9;have T1:SetAt (ledW w) h1 c M oc ec tc pc:=T.at ((ma.2 c ne.symm).trans T.get);show Ã (SetAt.state (s:={s with heap:=h1}) S1 ?_);dsimp only;have l1:p1.length=L1.length:=by have:=S1.rc.len;rw[Ï]at this;show this.symm
 have f1:t1.fill=L1.length:=by unfold SetTable.fill;rw[S1.rc.tb.no,S1.rc.tb.pl,ă,l1];rfl
 unfold SetTable.road;rw[f1];by_cases hL:L=[]
 .subst hL;have e0:L1=[]:=List.perm_nil.mp fy;subst e0;simp only[List.length_nil,bne_self_eq_false,Bool.false_eq_true,↓reduceIte];by_cases hm:(t1.mask==tc.mask&&tc.dummies.isEmpty)=true;.rw[Ê hm];rw[ŉ,beq_iff_eq]at hm;dsimp only;show SetAt.store (s:={s with heap:=h1}) S1 (t':={tc with finger:=t1.finger,led:=t1.led&&tc.led,moves:=t1.moves,plain:=t1.plain&&tc.plain}) (L':=M) (ps':=pc) (T.rc.as O O O) (by show(t1.led&&tc.led)=_;rw[S1.led,T.led,Bool.and_self]) (by show(t1.plain&&tc.plain)=_;rw[S1.pla,T.pla];rfl) T.odd T.sml λh2 hX S2=>?_;show q _ _ _ _ _ _ (ma.trans hX) S2 (by rw[uX])
  .rw[Ç hm];dsimp only;obtain⟨od,y6,x1,x2,x3,pL,R⟩:=Kl (L:=M) (t1:={t1 with led:=t1.led&&tc.led,plain:=t1.plain&&tc.plain}) S1.rc.full T.rc.nd (by rw[Zbu]at A9;show M.length<=t1.mask;lia);dsimp only at x1;apply Ã;rw[x1];wp_delta;dsimp only;rw[x2,x3];simp only[Bool.false_eq_true,↓reduceIte];apply Ì;show SetAt.store (s:={s with heap:=h1}) S1 (t':={t1 with place:=List.toArray y6,dummies:=#[],led:=t1.led&&tc.led,plain:=t1.plain&&tc.plain}) (L':=od.filterMap (M[·]?)) (ps':=y6) (R.as O O O) (by show(t1.led&&tc.led)=_;rw[S1.led,T.led,Bool.and_self]) (by show(t1.plain&&tc.plain)=_;rw[S1.pla,T.pla];rfl) S1.odd S1.sml λh2 hX S2=>?_;show q _ _ _ _ _ _ (ma.trans hX) S2 (by rw[uX];show pL)
 .have LY:L1.length≠0:=λz=>hL (List.nil_perm.mp (by rw[Zb0.mp z]at fy;show fy));rw[Ê (show(L1.length !=0)=true by rw[bne_iff_ne];show LY)];dsimp only;show Ã (SetAt.unseen (s:={s with heap:=h1}) T1 [a] (some a) ?_);have po:=ord_perm w c ec M;generalize ord w c ec M=N at po;have RQ:(N.map (·.1)).Nodup:=(po.map _).nodup_iff.mpr T.rc.nd;have lN:N.length=M.length:=po.length_eq;have gN:=gT.perm po;apply Ã;rw[<-Array.forIn_toList];show wpAny_forIn_list _ (λrest _ s'=>∃done h' L' o' bE t' ps',N=done++rest/\s'=`l/\Heap.SameBut a s.heap h'/\SetAt (ledW w) h' a L' o' bE t' ps'/\L'.Perm (uni L done)/\(L.length+M.length)*5<t'.mask*3) _ ?_ ?_ _ _ ⟨[],h1,L1,o1,e1,t1,p1,O,O,ma,S1,by unfold uni;rw[Zbv,Ĕ];show fy,A9⟩
  .rintro p rest _ s'⟨done,h',L',o',bE,t',ps',eN,rfl,sb,S',pm,rm⟩;obtain⟨d,ks,ep,up,xp⟩:=(gN.at S sb) p (by rw[eN];show Ļ _ Ζ);have pd:p.1∉done.map (·.1):=λz=>by rw[eN,é,Ľ,Za9]at RQ;show RQ.2.2 _ z _ Ζ O
   have le:L'.length+1<=L.length+M.length:=by have h1:=congrArg List.length eN;rw[à,İ]at h1;have h2:=pm.length_eq;unfold uni at h2;rw[à]at h2;have h3:=Ϗ (λp:Int×Value=>decide (p.1∉L.map (·.1))) done;lia
   have Tc:SetAt (ledW w) h' c M oc ec tc pc:=T.at ((sb.2 c ne.symm).trans T.get);have gU:Gd knd U h' (uni L done):=(gS.at S sb).uni λq hq=>(gN.at S sb) q (by rw[eN];show Zav _ hq);have tail:∀h2 L2 o2 e2 t2 p2,Heap.SameBut a h' h2->SetAt (ledW w) h2 a L2 o2 e2 t2 p2->L2.Perm (uni L (done++[p]))->t2.mask=t'.mask->∃done h' L' o' bE t' ps',N=done++rest/\({s with heap:=h2}:Shared)=`l/\Heap.SameBut a s.heap h'/\SetAt (ledW w) h' a L' o' bE t' ps'/\L'.Perm (uni L done)/\(L.length+M.length)*5<t'.mask*3:=λh2 L2 o2 e2 t2 p2 hX S2 h8 em=>⟨done++[p],h2,L2,o2,e2,t2,p2,by rw[eN,Ġ];rfl,rfl,sb.trans hX,S2,h8,by rw[em];show rm⟩;have us:uni L (done++[p])=if p.1∈L.map (·.1)then uni L done else uni L done++[p]:=by
    unfold uni;rw[Ŵ];by_cases z:p.1∈L.map (·.1);.rw[Ê z,δ (p:=λp:Int×Value=>decide (p.1∉L.map (·.1))) (by rw[Ĥ];show λn=>n z),Zbv,Ĕ]
    .rw[Ç z,μ (p:=λp:Int×Value=>decide (p.1∉L.map (·.1))) (ç z),Zbv,Ġ]
   subst ep;dsimp only at pd us⊢;by_cases kM:tupleKeyHash knd ks∈L'.map (·.1)
   .obtain⟨y,hy,ey⟩:=Ù.mp kM;obtain⟨i,hi⟩:=Za4 hy;obtain⟨d2,k2,e2,u2,x2⟩:=(gU.perm pm) y hy;subst e2;have ek:k2=ks:=inj _ _ u2 up ey;subst ek;show Ã (wpAny_holding (SetAt.add_old (s:=`l) S' hi (λq'=>wpAny_eqBool_tuple hu x2.1 xp.1 (by rw[ç O];show q')) (λ_{A Q' E'}ys rL q'=>FZ xp ys (λv hv=>?_) q') ?_));.obtain⟨z,hz,rfl⟩:=Ù.mp (rL v hv);obtain⟨d3,k3,e3,_,x3⟩:=(gU.perm pm) z hz;subst e3;show⟨d3,k3,O,x3⟩
    .refine Ã (he (s':=`l) Tc.get ?_);show Ã (SetAt.state (s:=`l) Tc ?_);dsimp only;simp only[bne_self_eq_false,Bool.false_eq_true,↓reduceIte];have Vo:tupleKeyHash knd k2∈L.map (·.1):=by
      have:=(pm.map (·.1)).mem_iff.mp kM;unfold uni at this;rw[é]at this;rcases è.mp this with z|z;.exact z
      .obtain⟨r,hr,er⟩:=Ù.mp z;show absurd (Ù.mpr ⟨r,(ķ.mp hr).1,er⟩) pd
     rw[Ê Vo]at us;show Ì (tail h' L' o' bE t' ps' (Heap.SameBut.refl _ _) S' (by rw[us];show pm) O)
   .refine Ã (wpAny_holding (SetAt.add_new (s:=`l) S' kM À (λq'=>FW xp q') λh2 L2 o2 e2 t2 p2 hX S2 h8 em=>?_));have RS:SetAt (ledW w) h2 c M oc ec tc pc:=Tc.at ((hX.2 c ne.symm).trans Tc.get);show Ã (he (s':={s with heap:=h2}) RS.get ?_);show Ã (SetAt.state (s:={s with heap:=h2}) RS ?_);dsimp only;simp only[bne_self_eq_false,Bool.false_eq_true,↓reduceIte];have nL:tupleKeyHash knd ks∉L.map (·.1):=λz=>kM ((pm.map (·.1)).mem_iff.mpr (by unfold uni;rw[é];show Zav _ z));rw[Ç nL]at us;show Ì (tail h2 L2 o2 e2 t2 p2 hX S2 ?_ em);rw[us];show h8.trans ((pm.cons _).trans (List.perm_append_singleton _ _).symm)
  .rintro _ s'⟨done,h',L',o',bE,t',ps',eN,rfl,sb,S',pm,rm⟩;rw[Ĕ]at eN;subst eN;show Ì (q _ _ _ _ _ _ sb S' (pm.trans ?_));unfold uni;show(po.filter _).append_left _
end
section
variable{A:Around}{E:Ry}{s:Shared}{K:Type}[DecidableEq K]{knd:KeyKind prog w K}{U:List K->Prop}
def pairs(es:Array DictEntry):List (Int×Value):=es.toList.map λe=>(e.hash,e.key)
theorem G3(hT:s.TypeIs (.ref d) "dict")(q:Q false s):wpAny `a A (Builtin.Frozenset.isAnySet (.ref d)) Q E s:=by unfold Builtin.Frozenset.isAnySet;show Ã (wpAny_isInstance hT F.sub_dict_set ?_);show wpAny_isInstance hT F.sub_dict_frozenset q
theorem uY(hT:s.TypeIs (.ref d) "set")(q:Q true s):wpAny `a A (Builtin.Frozenset.isAnySet (.ref d)) Q E s:=by unfold Builtin.Frozenset.isAnySet;show Ã (wpAny_isInstance hT sub_set_self (Ì q))
theorem SetAt.typ(S:SetAt b s.heap a L o ep t ps):s.TypeIs (.ref a) "set":=⟨o,S.get,S.ex.1⟩
theorem SetAt.fill{id:String}(S:SetAt (ledW w) s.heap a [] o ep t ps)(hd:s.heap.get? d=some od)(ex:od.ExactDict)(dat:od.data=.dict es ed)(lo:(d==sysModules)=false)(ne:a≠d)(g:Gd knd U s.heap (pairs es))(nd:((pairs es).map (·.1)).Nodup)(room:es.size*2<2^13)(q:∀h' L' o' bE t' ps',Heap.SameBut a s.heap h'->SetAt (ledW w) h' a L' o' bE t' ps'->L'.Perm (pairs es)->Q () `l):wpAny `a A (Builtin.Frozenset.updateFrom id a (.ref d)) Q E s:=by
 have hT:s.TypeIs (.ref d) "dict":=⟨od,hd,ex.1⟩;unfold Builtin.Frozenset.updateFrom;show Ã (G3 hT ?_);simp only[Bool.false_eq_true,↓reduceIte];show Ã (wpAny_typeOf hT ?_);simp only[beq_self_eq_true,↓reduceIte];show Ã (wpAny_rule ?_);show Ã (m:=Builtin.Frozenset.addrOf (.ref d)) (Ì ?_);rw[lo];simp only[Bool.false_eq_true,↓reduceIte];show Ã (wpAny_dictEpoch hd dat ?_);show Ã (wpAny_dictEntries hd dat ?_);show Ã (S.roomFor (m:=es.size) (by rw[Zbu,Zca];show room) λh1 L1 o1 e1 t1 p1 ma S1 fy A9=>?_);have e0:L1=[]:=List.perm_nil.mp fy;subst e0;rw[Zbu,Zca]at A9;have kd:∀{h'},Heap.SameBut a s.heap h'->h'.get? d=some od:=λsb=>(sb.2 d ne.symm).trans hd;show Ã (wpAny_dictEntries (s:={s with heap:=h1}) (kd ma) dat ?_);apply Ã;rw[Std.Legacy.Range.forIn_eq_forIn_range'];simp only[Std.Legacy.Range.size,Nat.sub_zero,Nat.add_sub_cancel,Nat.div_one];show wpAny_forIn_list _ (λrest _ s'=>∃i h' L' o' bE t' ps',rest=List.range' i (es.size-i)/\i<=es.size/\s'=`l/\Heap.SameBut a s.heap h'/\SetAt (ledW w) h' a L' o' bE t' ps'/\L'.Perm ((pairs es).take i)/\es.size*5<t'.mask*3) _ ?_ ?_ _ _ ⟨0,h1,[],o1,e1,t1,p1,O,Ė _,O,ma,S1,.refl _,A9⟩
 .rintro j rest r s'⟨i,h',L',o',bE,t',ps',er,hi,rfl,sb,S',pm,rm⟩;have lt:i<es.size:=by
   rcases Zbn i es.size with z|z;.exact z
   .rw[Nat.sub_eq_zero_of_le z]at er;cases er
  obtain⟨ej,er⟩:j=i/\rest=List.range' (i+1) (es.size-(i+1)):=by rw[show es.size-i=(es.size-(i+1))+1 by lia,List.range'_succ]at er;show⟨(List.cons.inj er).1,(List.cons.inj er).2⟩
  subst ej;show Ã (wpAny_dictEntries (s:=`l) (kd sb) dat ?_);have ee:es[j]?=some es[j]:=Za8 lt;rw[ee];dsimp only;have lp:(pairs es).length=es.size:=by unfold pairs;rw[Ï,Ğ]
  have ep:(pairs es)[j]?=some (es[j].hash,es[j].key):=by unfold pairs;rw[ì,ϱ,ee];rfl
  obtain⟨c,ks,ec,up,xp⟩:=(g.at S sb) _ (ń ep);have tk:(pairs es).take (j+1)=(pairs es).take j++[(es[j].hash,es[j].key)]:=by rw[ġ,ep];rfl
  have nh:es[j].hash∉L'.map (·.1):=λz=>by have z:=(pm.map (·.1)).mem_iff.mp z;have nd2:(((pairs es).take (j+1)).map (·.1)).Nodup:=nd.sublist ((Za2 _ _).map _);rw[tk,é,Za9]at nd2;show nd2.2.2 _ z _ (ĸ.mpr O) O
  have e1:es[j].hash=tupleKeyHash knd ks:=congrArg Prod.fst ec;have e2:es[j].key=.ref c:=congrArg Prod.snd ec;have ll:L'.length=j:=by rw[pm.length_eq,ė,lp];lia
  rw[e2];show Ã (wpAny_holding (SetAt.add_new (s:=`l) S' nh À (λq'=>FW xp q') λh2 L2 o2 xS t2 p2 hX S2 h8 em=>?_));show Ã (wpAny_dictEpoch (s:={s with heap:=h2}) (kd (sb.trans hX)) dat ?_);simp only[bne_self_eq_false,Bool.false_eq_true,↓reduceIte];show Ì ⟨j+1,h2,L2,o2,xS,t2,p2,er,lt,O,sb.trans hX,S2,?_,by rw[em];show rm⟩;rw[tk,e2];show h8.trans ((pm.cons _).trans (List.perm_append_singleton _ _).symm)
 .rintro r s'⟨i,h',L',o',bE,t',ps',er,hi,rfl,sb,S',pm,rm⟩;have:i=es.size:=by have:=congrArg List.length er;rw[List.length_range',Zbu]at this;lia
  subst this;rw[θ (by unfold pairs;rw[Ï,Ğ];show Ø _)]at pm;show Ì (q _ _ _ _ _ _ sb S' pm)
end
section
variable{A:Around}{E:Ry}{s:Shared}{K:Type}[DecidableEq K]{knd:KeyKind prog w K}{U:List K->Prop}
def emp(w:World):Obj:={cls:=.type "set",dict:=none,data:=.set #[] 0 (.fresh 0 0 (ledW w))}
theorem G4(h:Heap):SetAt (ledW w) (h.push (emp w)) h.objs.size [] (emp w) 0 (.fresh 0 0 (ledW w)) []:=⟨Ģ _ O,⟨O,O,O⟩,O,⟨⟨O,O,List.Pairwise.nil,λj hj=>(by cases hj),Ė _⟩,wI 3 á á,O,ϳ,λi j h hi=>(by simp at hi)⟩,O,O,by show(7:Nat)%2=1;decide,by show(7:Nat)<2^14;decide⟩
theorem Av(q:Q (`g) {s with heap:=s.heap.push (emp w)}):wpAny `a A (newSet (.type "set")) Q E s:=by unfold newSet setsByText;show Ã (Ã (wpAny_askSetting (Ì ?_)));dsimp only;simp only[newObj];show Ã (wpAny_alloc (Ì q))
theorem G5(a:Value)(q:Q (`g) {s with heap:=s.heap.push (emp w)}):codeAny `a A (.call (.builtin "set.__new__") ⟨[.type "set",a],[]⟩) (wants Q E) s:=by apply codeAny_of_tree;show Ã (m:=checkBuiltinCall "set.__new__" _) (wpAny_of_eq (F.newCall_set_1 a) (Ì ⟨plainId_quiet F.plain_set_new _,codeAny_builtin F.entry_set_new ?_⟩));rw[Around.under_plainId F.plain_set_new _];unfold Builtin.«set.__new__»Builtin.Frozenset.newClass;have rq:=sub_set_self;dsimp only;generalize hN:newSet=N;wp_walk;subst hN;show Av (Ì q)
theorem G6(S:SetAt (ledW w) s.heap a [] o 0 (.fresh 0 0 (ledW w)) [])(hd:s.heap.get? d=some od)(ex:od.ExactDict)(dat:od.data=.dict es ed)(lo:(d==sysModules)=false)(ne:a≠d)(g:Gd knd U s.heap (pairs es))(nd:((pairs es).map (·.1)).Nodup)(room:es.size*2<2^13)(q:∀h' L' o' bE t' ps',Heap.SameBut a s.heap h'->SetAt (ledW w) h' a L' o' bE t' ps'->L'.Perm (pairs es)->P (.done (.ret .none)) `l):wpAny `a A (Builtin.«set.__init__» ⟨[.ref a,.ref d],[]⟩) P E s:=by unfold Builtin.«set.__init__»noKeywords;generalize hU:Builtin.Frozenset.updateFrom=UF;generalize hV:setUsed=VF;have hT:=S.typ;wp_walk;subst hU hV;unfold setUsed;show Ã (S.state (Ì ?_));dsimp only;rw[show((SetTable.fresh 0 0 (ledW w)).fill !=0)=false from O];simp only[Bool.false_eq_true,↓reduceIte];show Ã (S.fill hd ex dat lo ne g nd room λh' L' o' bE t' ps' sb S' pm=>Ì (q h' L' o' bE t' ps' sb S' pm))
theorem call_set(hd:s.heap.get? d=some od)(ex:od.ExactDict)(dat:od.data=.dict es ed)(lo:(d==sysModules)=false)(g:Gd knd U s.heap (pairs es))(nd:((pairs es).map (·.1)).Nodup)(room:es.size*2<2^13)(q:∀h' L' o' bE t' ps',(∀b o,s.heap.get? b=some o->h'.get? b=some o)->SetAt (ledW w) h' s.heap.objs.size L' o' bE t' ps'->L'.Perm (pairs es)->Q (`g) `l):wpAny `a A (call (.type "set") [.ref d]) Q E s:=by
 obtain⟨c,tl,Vp⟩:=F.called_set.mro;have RT:=F.called_set.made;have rq:=F.called_set.sub;show wpAny_call (codeAny_of_tree ?_);show Ì (show _/\_ from⟨Code.quiet_builtin _ ž,codeAny_builtin F.entry_type_call ?_⟩);rw[Around.under_plain (weight_type_call_type "set" [.ref d] []) O];have h1:=F.called_set.notType;have h2:=F.called_set.canCreate;have hct:=F.typeCall_set_1 (.ref d);repeat(any_goals(first|assumption|wp_step))
 refine codeAny_mono (G5 (.ref d) (E:=E) (Q:=λv s1=>v=.ref s.heap.objs.size/\s1={s with heap:=s.heap.push (emp w)}) ⟨O,O⟩) λr s1 hr=>?_;cases r with|error e=>exact hr;|ok fl=>cases fl with
 |ret obj=>
   obtain⟨rfl,rfl⟩:=hr;have S:=G4 (w:=w) s.heap;have hT:Shared.TypeIs {s with heap:=s.heap.push (emp w)} (`g) "set":=⟨_,S.get,O⟩;have hli:=F.called_set.init.lookup;have hbi:=F.called_set.init.bind (`g);repeat(any_goals(first|assumption|wp_step))
   show codeAny_mono (codeAny_call_builtin (R:=wants (λr s2=>r=.none/\Q (`g) s2) E) F.called_set.init.plain F.entry_set_init (check_set_init_1 hT ?_)) λr2 s2 LZ=>?_
   .have up:∀b o,s.heap.get? b=some o->(s.heap.push (emp w)).get? b=some o:=λb o e=>ò _ e;show G6 (knd:=knd) (U:=U) (s:={s with heap:=s.heap.push (emp w)}) S (up _ _ hd) ex dat lo (Θ (î hd)) (λp hp=>?_) nd room λh' L' o' bE t' ps' sb S' pm=>?_;.obtain⟨c,ks,e,u,x⟩:=g p hp;show⟨c,ks,e,u,x.at λo e=>up _ _ e⟩
    .exact⟨O,q h' L' o' bE t' ps' (λb o e=>(sb.2 b (ĵ (î e))).trans (up _ _ e)) S' pm⟩
   .cases r2 with|error e=>exact LZ;|ok fl2=>cases fl2 with|ret r=>obtain⟨rfl,hq⟩:=LZ;repeat(any_goals(first|assumption|wp_step));|_=>show LZ.elim
  |_=>show hr.elim
end
theorem G7:entryFor table "set.__or__"=some Builtin.«frozenset.__or__»:=entryFor_alias (id':="frozenset.__or__") (by rw[fastTable_eq_tree];kernel_rfl) (by first|rfl|decide+kernel) ž (by rw[fastTable_eq_tree];kernel_rfl)
section
variable{A:Around}{E:Ry}{s:Shared}{K:Type}[DecidableEq K]{knd:KeyKind prog w K}{U:List K->Prop}
theorem Gd.push(g:Gd knd U h L)(o:Obj):Gd knd U (h.push o) L:=λp hp=>by obtain⟨c,ks,e,u,x⟩:=g p hp;show⟨c,ks,e,u,x.at λo e=>ò _ e⟩
theorem or_set(S:SetAt (ledW w) s.heap a L oa ea ta pa)(T:SetAt (ledW w) s.heap c M oc ec tc pc)(ne:a≠c)(hu:A.in1.units<cLine)(inj:∀x y,U x->U y->tupleKeyHash knd x=tupleKeyHash knd y->x=y)(gS:Gd knd U s.heap L)(gT:Gd knd U s.heap M)(room:(L.length+M.length)*2<2^13)(q:∀h' L' o' bE t' ps',(∀b o,s.heap.get? b=some o->h'.get? b=some o)->SetAt (ledW w) h' s.heap.objs.size L' o' bE t' ps'->L'.Perm (uni L M)->Q (`g) `l):wpAny `a A (binaryOp .BitOr (.ref a) (.ref c)) Q E s:=by
 show wpAny_binaryOp_same (op:=.BitOr) S.typ T.typ F.fills_set_or F.slot_set_or (wpAny_call_entry F.slot_set_or S.typ G7 ?_ (F.args_set_or_2 _ _));have up:∀b o,s.heap.get? b=some o->(s.heap.push (emp w)).get? b=some o:=λb o e=>ò _ e;have Ep:=G4 (w:=w) s.heap;obtain⟨N,eN⟩:∃N,N=s.heap.objs.size:=`i;obtain⟨g,eg⟩:∃g,g=s.heap.push (emp w):=`i;have na:N≠a:=by rw[eN];show Θ (î S.get)
 have nc:N≠c:=by rw[eN];show Θ (î T.get)
 unfold Builtin.«frozenset.__or__»;wp_delta;show Ã (m:=Builtin.Frozenset.slot1 "__or__" _) (Ã (Ì (Ì ?_)));dsimp only;simp only[Bool.false_eq_true,↓reduceIte];show Ã (m:=_<&&>_) (Ã (uY S.typ ?_));apply uY T.typ;simp only[Bool.not_true,Bool.false_eq_true,↓reduceIte];show Ã (m:=Builtin.Frozenset.addrOf (.ref a)) (Ì ?_);apply Ã;wp_delta;apply Ã;unfold Builtin.Frozenset.copyOf;apply Ã;unfold Builtin.Frozenset.baseOf;show Ã (wpAny_isInstance S.typ sub_set_self ?_);simp only[↓reduceIte];show Ì (Ã (Av ?_));show Ã (m:=Builtin.Frozenset.addrOf (.ref _)) (Ì ?_);rw[<-eN,<-eg];rw[<-eN,<-eg]at Ep;rw[<-eg]at up;have S1:SetAt (ledW w) g a L oa ea ta pa:=S.at (up _ _ S.get);have T1:SetAt (ledW w) g c M oc ec tc pc:=T.at (up _ _ T.get);have RU:Gd knd U g L:=by rw[eg];show gS.push _
 have Vq:Gd knd U g M:=by rw[eg];show gT.push _
 show Ã (SetAt.merge (s:={s with heap:=g}) Ep S1 na hu inj (λp hp=>(by cases hp)) RU (by rw[Zbu];lia) _ (λ_ q'=>Ì q') λh1 L1 o1 e1 t1 p1 ma R1 fy=>?_);rw[uX]at fy;apply Ì;rw[Ê (show(Value.ref c !=Value.ref a)=true by rw[bne_iff_ne];show λz=>ne (by injection z with z;show z.symm))];show Ã (m:=Builtin.Frozenset.addrOf (.ref N)) (Ì (Ã (wpAny_holding ?_)));unfold Builtin.Frozenset.updateFrom;have T2:SetAt (ledW w) h1 c M oc ec tc pc:=T1.at ((ma.2 c nc.symm).trans T1.get);show Ã (uY (s:={s with heap:=h1}) T2.typ ?_);simp only[↓reduceIte];show Ã (m:=Builtin.Frozenset.addrOf (.ref c)) (Ì ?_);unfold Builtin.Frozenset.merge;apply Ã;unfold setEpoch;show Ã (SetAt.state (s:={s with heap:=h1}) T2 (Ì ?_));show SetAt.merge (s:={s with heap:=h1}) R1 T2 nc hu inj ((RU.at Ep ma).perm fy) (Vq.at Ep ma) (by rw[fy.length_eq];show room) _ (λ{Q' s'}gc q'=>?_) λh2 L2 o2 e2 t2 p2 hX R2 h8=>?_;.unfold Builtin.Frozenset.unchanged setEpoch;show Ã (Ã (SetAt.state (T2.at gc) (Ì ?_)));simp only[bne_self_eq_false,Bool.false_eq_true,↓reduceIte];show Ì q'
 .refine Ì (Ì ⟨_,O,(λz=>by cases z),?_⟩);rw[eN]at R2⊢;show q h2 L2 o2 e2 t2 p2 (λb o e=>?_) R2 (h8.trans ?_)
  .have nb:b≠N:=by rw[eN];show ĵ (î e)
   show(hX.2 b nb).trans ((ma.2 b nb).trans (up _ _ e))
  .unfold uni;apply fy.append;have:(λp:Int×Value=>decide (p.1∉L1.map (·.1)))=λp=>decide (p.1∉L.map (·.1)):=funext λp=>by congr 1;rw[(fy.map (·.1)).mem_iff]
   rw[this]
end
end St
namespace L2
open PySem PySem.Spec PyProof.Rows
section
theorem Aw(n1:(d==sysModules)=false)(g1:s.heap.get? d=some o)(g2:o.ExactDict)(g3:o.data=.dict es ep)(q:R (`g) {s with heap:=s.heap.push {cls:=.type "dict_keyiterator",data:=.fields #[.ref d,.int 0 0,.int es.size 0,.int ep 0]}}):wpAny `a A (pyIter (.ref d)) R E s:=by have ty:s.TypeIs (.ref d) "dict":=⟨o,g1,g2.1⟩;show wpAny_pyIter_slot ty F.slot_dict_iter (wpAny_call_entry F.slot_dict_iter ty F.entry_dict_iter ?_ (F.args_dict_iter_1 _));apply Ã;show Ã (wpAny_notOrdered_dict ty (Ì ?_));show wpAny `a _ (Builtin.Dict.showsAll d>>=_) _ E s;unfold Builtin.Dict.showsAll;rw[n1];show Ã (Ì (Ã (wpAny_dictEntries g1 g3 (Ã (wpAny_dictEpoch g1 g3 ?_)))));show Ã (Η (Ì ⟨_,O,"dict_keyiterator",_,⟨_,Ģ _ O,O⟩,F.slot_dict_keyiterator_next.lookup,?_⟩));show q
theorem Ax(st:s.heap.IsKeyIter it d i es.size ep)(g1:s.heap.get? d=some o)(g3:o.data=.dict es ep)(hx:es[i]?=some e)(q:∀h',h'.IsKeyIter it d (i+1) es.size ep->Heap.SameBut it s.heap h'->R (some e.key) `l):wpAny `a A (pyNext (.ref it)) R E s:=by obtain⟨oi,i1,i2,i3⟩:=id st;unfold pyNext;show Ã (wpAny_attempt (wpAny_callSpecial?_slot (name:=Str.ofString "__next__") st.typeIs F.slot_dict_keyiterator_next (wpAny_call_entry F.slot_dict_keyiterator_next st.typeIs F.entry_dict_keyiterator_next ?_ (F.args_dict_keyiterator_next_1 _))));show Ã (Ì (Ã (Ã ?_)));show Ã (wpAny_typeNameOfWhole_keyiter st.typeIs (Ì (Ã (wpAny_fieldsOf i1 i3 ?_))));show Ã (Ì (Ã (wpAny_dictEntries g1 g3 ?_)));rw[Ç Õ];show Ã (Ì (Ã (wpAny_dictEpoch g1 g3 ?_)));rw[Ç Õ];apply Ì;simp only[show¬((i:Int)<0)from by lia,if_false,Int.toNat_natCast,hx];show Ã (Ã (wpAny_typeNameOfWhole_keyiter st.typeIs (Ì ?_)));show Ã (wpAny_isOneOf_keyiter st.typeIs ?_);show wpAny `a _ (setField (.ref it) 1 (rawInt ((i:Int)+1))>>=_) _ _ s;show Ã (wpAny_setField i1 i3 Õ ?_);have Æ:(s.heap.update it (Obj.mapFields (·.setIfInBounds 1 (rawInt ((i:Int)+1))))).IsKeyIter it d (i+1) es.size ep:=⟨_,Heap.get?_update_self _ i1 (Obj.isFreed_of_fields (Obj.data_mapFields i3 _)),(Obj.cls_mapFields ..).trans i2,by rw[Obj.data_mapFields i3];simp[rawInt]⟩;show Ã (wpAny_holding (Ã (wpAny_isOneOf_keyiter (s:={s with heap:=s.heap.update it (Obj.mapFields (·.setIfInBounds 1 (rawInt ((i:Int)+1))))}) Æ.typeIs ?_)));show Ì (Ì ⟨_,O,Ì (q _ Æ (Heap.SameBut.update ..))⟩)
theorem G8(hh:A.handled=none)(st:s.heap.IsKeyIter it d i es.size ep)(g1:s.heap.get? d=some o)(g3:o.data=.dict es ep)(hx:es.size<=i)(q:∀h',Heap.ExtBut it s.heap h'->R none `l):wpAny `a A (pyNext (.ref it)) R E s:=by obtain⟨oi,i1,i2,i3⟩:=id st;unfold pyNext;show Ã (wpAny_attempt (wpAny_callSpecial?_slot (name:=Str.ofString "__next__") st.typeIs F.slot_dict_keyiterator_next (wpAny_call_entry F.slot_dict_keyiterator_next st.typeIs F.entry_dict_keyiterator_next ?_ (F.args_dict_keyiterator_next_1 _))));show Ã (Ì (Ã (Ã ?_)));show Ã (wpAny_typeNameOfWhole_keyiter st.typeIs (Ì (Ã (wpAny_fieldsOf i1 i3 ?_))));show Ã (Ì (Ã (wpAny_dictEntries g1 g3 ?_)));rw[Ç Õ];show Ã (Ì (Ã (wpAny_dictEpoch g1 g3 ?_)));rw[Ç Õ];apply Ì;simp only[if_false,Int.toNat_natCast,Array.getElem?_eq_none hx];show Ã (Ã (wpAny_typeNameOfWhole_keyiter st.typeIs (Ì ?_)));show wpAny `a _ (setField (.ref it) 0 .none>>=_) _ _ s;show Ã (wpAny_setField i1 i3 Õ ?_);apply Ã;show Ã (Η (Ã (m:=firstArgMember _ _) (wpAny_of_eq (a:=Value.none) (by first|rfl|(simp only[firstArgMember];rfl)) ?_)) (by size_fits));show Η ?_ (by size_fits);simp only[raiseNew];show Ã (wpAny_handled ?_);rw[show A.in1.handled=none from hh];show Ã (Ì (wpAny_throw ?_));show Ã (wpAny_isInstance (b:=true) (T:="StopIteration") ⟨_,Ģ _ O,O⟩ isSubtype_stop ?_);show Ì (q _ (((Heap.SameBut.update ..).extBut.push _).push _))
end
def Itd(d:Addr)(o:Obj)(Ä:List (List Key×V)):It:=⟨λi H=>H d=some (.frz o (.dT Ä))/\i<Ä.length,λi H x H'=>H'=H/\∃b k v,x=.ref b/\Ä[i]?=some (k,v)/\H b=some (.tup (k.map kV)),λi H=>H d=some (.frz o (.dT Ä))/\Ä.length<=i⟩
theorem KT.get:∀{Ä:List (List Key×V)}{xs:List (List Key×Addr×Value)}{i:Nat}{k:List Key}{v:V},KT H Ä xs->Ä[i]?=some (k,v)->∃b u,xs[i]?=some (k,b,u)/\H b=some (.tup (k.map kV))|_,_,_,_,_,.nil,e=>by simp at e;|p::_,q::_,0,k,v,.cons r t,e=>by grind;|p::_,q::_,i+1,k,v,.cons r t,e=>by obtain⟨b,u,e1,e2⟩:=KT.get t e;show⟨b,u,by rw[Zbd];show e1,e2⟩
theorem KT.len:∀{Ä:List (List Key×V)}{xs:List (List Key×Addr×Value)},KT H Ä xs->xs.length=Ä.length|_,_,.nil=>rfl|_,_,.cons _ t=>by rw[İ,İ,KT.len t]
theorem É.frzT{σ:St}(I:`c)(e:H d=some (.frz o (.dT Ä))):s.heap.get? d=some o/\o.ExactDict/\(d==sysModules)=false/\∃es ep xs,o.data=.dict es ep/\KT H Ä xs/\es.toList=xs.map (entryOfKey (tupleKind (aZ X.prog X.w))):=by obtain⟨e0,_,hs,xs,kt,o',es,ep,g1,g2,g3,g4,_⟩:=(I.hok _ _ e);rw[e0]at g1;cases g1;show⟨e0,g2,hs,es,ep,xs,g3,kt,g4⟩
theorem jo{es:Array DictEntry}(kt:KT H Ä xs)(e:es.toList=xs.map (entryOfKey (tupleKind (aZ P w)))):es.size=Ä.length:=by rw[<-Ğ,e,Ï,kt.len]
theorem Dd{K:Frag}(d it:Addr)(o:Obj)(Ä:List (List Key×V))(es:Array DictEntry)(ep:Nat)(od:o.data=.dict es ep)(hz:es.size=Ä.length):į P w K tg (Itd d o Ä) [it] it (λi h=>h.IsKeyIter it d i es.size ep)where
 mem:=by simp
 obj:=λi h st b hb=>by
  have e:b=it:=by simpa using hb
  subst e;obtain⟨o,e,c,d⟩:=st;show⟨o,e,λv z=>by rw[d]at z;cases z⟩
 keep:=λi h h' st k=>st.at λo e=>k it Õ o e;item:=by
  show`k;obtain⟨hq,hx⟩:=hg;obtain⟨e0,g2,hs,ko,bE,xs,g3,kt,g4⟩:=I.frzT hq;rw[od]at g3;cases g3;obtain⟨b,u,ex,eb⟩:=kt.get (k:=Ä[i].1) (v:=Ä[i].2) (Ô hx);have ee:es[i]?=some (entryOfKey (tupleKind (aZ X.prog X.w)) (Ä[i].1,b,u)):=by rw[entry_at g4,ex];rfl
  obtain⟨f0,f1,f2,f3,f4,f5⟩:=hf it Õ;show Ax st e0 od ee λh' Æ sb=>?_;have I1:É X Á σ H `l:=I.turned (t':=s.toks) (λb o hb e=>(sb.2 b hb).trans e) f0 f1 f3 f4 f5;obtain⟨o2,e2,c2,d2⟩:=id Æ;show⟨.ref b,O,zx (s:=`l) e2 c2 d2 á ⟨.ref b,H,I1,O,⟨O,b,Ä[i].1,Ä[i].2,O,Ô hx,eb⟩,Æ,λb hb=>(hf b hb).1⟩⟩
 done:=by show`k;obtain⟨hq,hx⟩:=hg;obtain⟨e0,g2,hs,ko,bE,xs,g3,kt,g4⟩:=I.frzT hq;rw[od]at g3;cases g3;obtain⟨f0,f1,f2,f3,f4,f5⟩:=hf it Õ;show G8 (I.ok.hd hc) st e0 od À λh' eb=>⟨O,I.turned (t':=s.toks) (λb o hb e=>eb b o hb e) f0 f1 f3 f4 f5⟩
 self:=λ_ _ _ _ _ st h=>wpAny_pyIter_keyiter st h
section
def Oi(tl:TE):TI:=λσ H R=>tl σ H λx H1=>∃d o Ä,x=.ref d/\H1 d=some (.frz o (.dT Ä))/\R (Itd d o Ä) H1
theorem Ay(hl:PE X l tl):PI X tg l (Oi tl):=by
 intro Á s σ H R I h;show Û (hl Á s σ H _ I h) λv s1=>?_;rintro⟨x,H1,I1,r1,q1⟩;obtain⟨d,o,Ä,e,hq,q⟩:=q1;subst e;cases r1;obtain⟨e0,g2,hs,es,ep,xs,g3,kt,g4⟩:=I1.frzT hq;apply Aw hs e0 g2 g3;show⟨s1.heap.objs.size,[s1.heap.objs.size],_,_,H1,O,I1.kept (t':=s1.toks) λb o e=>ò _ e,Dd d _ o Ä es ep g3 (jo kt g4),⟨_,Ģ _ O,O,O⟩,λb hb=>?_,q⟩;have e:b=s1.heap.objs.size:=by simpa using hb
 subst e;show I1.fpOk (Ø _) (I1.hok.fresh (Ø _))
inductive Z0k(t:TE)(σ:St)(H:Hp)(Q:VK):Prop|mk:∀d Ä,(H d=some (.dT Ä))->(∀o,t σ (upd H d (.frz o (.dT Ä))) λv H'=>H' d=some (.frz o (.dT Ä))/\Q v (upd H' d (.dT Ä)))->Z0k t σ H Q
def Ql(t:TE):TE:=λσ H Q=>Z0k t σ H Q
theorem M7(h:PE X e t):PE X e (Ql t):=by
 intro Á s σ H Q I hq;obtain⟨d,Ä,ed,hq⟩:=hq;obtain⟨hz,hs,xs,kt,o,es,ep,g1,g⟩:=(I.hok _ _ ed);have nt:∀{b:Addr}{u:HO},H b=some u->u≠.dT Ä->b≠d:=λ{b u}e n z=>by rw[z,ed]at e;show n (ģ e).symm
 have I1:É X Á σ (upd H d (.frz o (.dT Ä))) {s with heap:=s.heap,toks:=s.toks}:=by
  show I.un ⟨λb ob q _ _ _=>q,λb ob q _ _ _=>⟨ob.slots,q⟩,λb ob q n _=>?_,λb ob q _=>⟨ob,q⟩,λb xs q=>?_,λb ob u q=>?_,λb ps q=>⟨#[],?_⟩⟩ λb u e=>?_;.rw[au λz=>by rw[z,ed]at n;cases n];show n
  .rw[au (nt q λz=>by cases z)];show q
  .rw[au (nt q λz=>by cases z)];show q
  .rw[au (nt q λz=>by cases z),q];simp
  .have ba:∀c xs,H c=some (.tup xs)->upd H d (.frz o (.dT Ä)) c=some (.tup xs):=λc xs q=>by rw[au (nt q λz=>by cases z)];show q
   by_cases hb:b=d;.subst hb;rw[aa]at e;cases e;show⟨g1,(show Ö X.prog X.w H s.heap b (.dT Ä)from I.hok _ _ ed).stay (λ_ _ _ q=>q) (λc q=>by rw[au (nt q λz=>by cases z)];show q) ba⟩
   .rw[au hb]at e;show(I.hok b u e).stay (λ_ _ _ q=>q) (λc q=>by rw[au (nt q λz=>by cases z)];show q) ba
 show Û (h Á s σ _ _ I1 (hq o)) λv s1=>?_;rintro⟨x,H1,J,r1,e1,q1⟩;have si:∀{b:Addr}{u:HO},H1 b=some u->u≠.frz o (.dT Ä)->b≠d:=λ{b u}e n z=>by rw[z,e1]at e;show n (ģ e).symm
 have fr:∀b,H1 b=none->upd H1 d (.dT Ä) b=none:=λb n=>by rw[au λz=>by rw[z,e1]at n;cases n];show n
 show⟨x,upd H1 d (.dT Ä),⟨J.ok,J.os,J.bare,⟨J.base.keep,J.base.slot,λb ob q n hx=>fr b (J.base.free b ob q n hx),J.base.there,λb xs q=>?_,λb ob u q=>?_,λb ps q=>?_⟩,J.loc,J.cell,fr _ J.free,λy c e=>fr _ (J.freeC y c e),λp hp=>?_,λb u e=>?_,J.len⟩,r1,q1⟩;.have:=J.base.tups b xs q;rw[au (si this λz=>by cases z)];show this
 .have h0:=I.base.frzs b ob u q;have:=J.base.frzs b ob u q;rw[au (nt h0 λz=>by cases z)];show this
 .obtain⟨m,e⟩:=J.base.tbls b ps q;show⟨m,by rw[au (si e λz=>by cases z)];show e⟩
 .obtain⟨a,n,c⟩:=J.pin p hp;show⟨a,fr _ n,c⟩
 .have ba:∀c xs,H1 c=some (.tup xs)->upd H1 d (.dT Ä) c=some (.tup xs):=λc xs q=>by rw[au (si q λz=>by cases z)];show q
  have ij:∀a c,H1 c=some (.own a)->upd H1 d (.dT Ä) c=some (.own a):=λa c q=>by rw[au (si q λz=>by cases z)];show q
  by_cases hb:b=d;.subst hb;rw[aa]at e;cases e;show Ö.stay ((J.hok _ _ e1).2) (λ_ _ _ q=>q) (ij b) ba
  .rw[au hb]at e;show(J.hok b u e).stay (λ_ _ _ q=>q) (ij b) ba
end
end L2
namespace St
open PySem PySem.SetTable
theorem yG:entryFor table "set.__iter__"=some Builtin.«frozenset.__iter__»:=entryFor_alias (id':="frozenset.__iter__") (by rw[fastTable_eq_tree];kernel_rfl) (by first|rfl|decide+kernel) ž (by rw[fastTable_eq_tree];kernel_rfl)
theorem ŏ:entryFor table "set_iterator.__next__"=some Builtin.«set_iterator.__next__»:=entryFor_of_tree (by kernel_rfl)
theorem ρ:entryFor table "set_iterator.__iter__"=some Builtin.«dict_keyiterator.__iter__»:=entryFor_alias (id':="dict_keyiterator.__iter__") (by rw[fastTable_eq_tree];kernel_rfl) (by first|rfl|decide+kernel) ž (by rw[fastTable_eq_tree];kernel_rfl)
theorem Ĉ:Slot "set_iterator" "__next__" "set_iterator.__next__":=.of (owner:="set_iterator") (n:="__next__") (by rw[typeLookup_type,builtinLookup_eq_fast];kernel_rfl) ž ž ž (by first|show .inl ž|show .inr ž) (by rw[isSubtype_type];kernel_rfl)
theorem ŝ:Slot "set_iterator" "__iter__" "set_iterator.__iter__":=.of (owner:="set_iterator") (n:="__iter__") (by rw[typeLookup_type,builtinLookup_eq_fast];kernel_rfl) ž ž ž (by first|show .inl ž|show .inr ž) (by rw[isSubtype_type];kernel_rfl)
theorem wO:Manifest.owners.lookup (String.ofList ['r','o','t','a','r','e','t','i','_','t','e','s'].reverse)=some Manifest.sig_set_iterator:=by kernel_rfl
theorem Š(a:Value):argsOk "set_iterator.__next__" ⟨[a],[]⟩:=by unfold argsOk;rw[signature?_of (id:="set_iterator.__next__") (n:=['_','_','t','x','e','n','_','_']) (o:=['r','o','t','a','r','e','t','i','_','t','e','s']) (by kernel_rfl) wO];kernel_rfl
theorem Ϭ(a:Value):argsOk "set_iterator.__iter__" ⟨[a],[]⟩:=by unfold argsOk;rw[signature?_of (id:="set_iterator.__iter__") (n:=['_','_','r','e','t','i','_','_']) (o:=['r','o','t','a','r','e','t','i','_','t','e','s']) (by kernel_rfl) wO];kernel_rfl
section
variable{s:Shared}
theorem wQ{ps:List Nat}(up:ps.Pairwise (·<·)):below ps.toArray 0=0:=by
 obtain⟨a,_,c⟩:=iJ (xs:=ps.toArray) up 0;rcases Nat.eq_zero_or_pos (below ps.toArray 0)with z|z;.exact z
 .have h0:0<ps.toArray.size:=À;have:=a 0 _ z (Za8 h0);lia
theorem yH{ps:List Nat}(up:ps.Pairwise (·<·))(h:ps[i]?=some j):below ps.toArray (j+1)=i+1:=by
 obtain⟨a,b,c⟩:=iJ (xs:=ps.toArray) up (j+1);obtain⟨hi,ej⟩:=ĉ.mp h;rw[ă]at c;have h1:i<below ps.toArray (j+1):=by
  rcases Zbn i (below ps.toArray (j+1))with z|z;.exact z
  .have:=b i j z (by rw[ŵ];show h);lia
 rcases Zbn (i+1) (below ps.toArray (j+1))with z|z;.have hk:i+1<ps.length:=À;have h2:=a (i+1) ps[i+1] z (by rw[ŵ];show Ô hk);have h3:=ϲ.mp up i (i+1) hi hk (ϰ _);lia
 .lia
theorem SetAt.nxt(S:SetAt (ledW w) s.heap d L o ep t ps)(hx:ledW w=true->below ps.toArray x=i)(q:∀x',(i<L.length->ledW w=true->below ps.toArray x'=i+1)->Q (((ord w d ep L)[i]?).map λp=>(p.2,x')) s):wpAny (model prog w) A (setNext d x i ep) Q E s:=by unfold setNext;refine Ã (S.state ?_);dsimp only;unfold setsByText;refine Ã (Ã (wpAny_askSetting (Ì ?_)));have hl:=S.led;show wpAny _ _ (if w.params.followText "set-order"=true then _ else _) _ _ _;cases hf:w.params.followText "set-order"with|true=>simp only[bne_self_eq_false,Bool.false_eq_true,↓reduceIte];refine Ã (S.walk (Ì ?_));rw[ŵ];exact q x λ_ z=>by unfold ledW at z;rw[hf]at z;cases z;|false=>
  have hw:ledW w=true:=by unfold ledW;rw[hf];rfl
  rw[hw]at hl;simp only[Bool.false_eq_true,↓reduceIte];show wpAny _ _ (if(!t.plain&&decide (L.toArray.size>1))=true then _ else _) _ _ _;rw[S.pla];simp only[Bool.not_true,Bool.false_and,Bool.false_eq_true,↓reduceIte];apply Ã;wp_delta;rw[hl];simp only[Bool.not_true,Bool.false_and,Bool.false_eq_true,↓reduceIte];show Ì (Ì ?_);have hb:=hx hw;have eo:ord w d ep L=L:=by unfold ord;rw[hf];rfl
  have lp:ps.length=L.length:=by have:=S.rc.len;rw[Ï]at this;show this.symm
  rw[S.rc.tb.pl,hb,ŵ,ŵ];rw[eo]at q;rcases Zbn i L.length with z|z;.have hp:i<ps.length:=À;rw[Ô z,Ô hp];have:=q (ps[i]+1) λ_ _=>yH S.rc.tb.up (Ô hp);rw[Ô z]at this;show this
  .rw[η z];have:=q 0 λy=>absurd y À;rw[η z]at this;show this
def ϸ(w:World)(h:Heap)(it d:Addr)(n ep i:Nat)(ps:List Nat):Prop:=∃x,(ledW w=true->below ps.toArray x=i)/\∃oi,h.get? it=some oi/\oi.cls=.type "set_iterator"/\oi.data=.fields #[.int x 0,.int i 0,.ref d,.int n 0,.int ep 0]
theorem ϸ.typ(I:ϸ w s.heap it d n ep i ps):s.TypeIs (.ref it) "set_iterator":=by obtain⟨x,_,oi,g,c,_⟩:=I;show⟨oi,g,c⟩
theorem Ju(S:SetAt (ledW w) s.heap d L o ep t ps)(q:Q (`g) {s with heap:=s.heap.push {cls:=.type "set_iterator",data:=.fields #[.int 0 0,.int 0 0,.ref d,.int L.length 0,.int ep 0]}}):wpAny `a A (pyIter (.ref d)) Q E s:=by show wpAny_pyIter_slot S.typ F.slot_set_iter (wpAny_call_entry F.slot_set_iter S.typ yG ?_ (F.args_set_iter_1 _));unfold Builtin.«frozenset.__iter__»;show Ã (m:=Builtin.Frozenset.slot0 "__iter__" _) (Ì ?_);apply Ã;unfold Builtin.Frozenset.sizeOf setEntries;show Ã (Ã (S.state (Ì (Ì ?_))));apply Ã;unfold setDrawn;show Ã (S.state ?_);dsimp only;unfold setsByText;show Ã (Ã (wpAny_askSetting (Ì ?_)));apply Ì;show wpAny _ _ (if(!_&&(!t.plain&&decide (L.toArray.size>1)))=true then _ else _) _ _ _;rw[S.pla];simp only[Bool.not_true,Bool.false_and,Bool.and_false,Bool.false_eq_true,↓reduceIte];show Ã (Ì ?_);apply Ã;unfold setEpoch;show Ã (S.state (Ì ?_));show Ã (Η (Ì ⟨_,O,"set_iterator",_,⟨_,Ģ _ O,O⟩,Ĉ.lookup,?_⟩));show q
end
section
theorem Jv(S:SetAt (ledW w) s.heap d L o ep t ps)(I:ϸ w s.heap it d L.length ep i ps)(hp:(ord w d ep L)[i]?=some p)(q:∀h',ϸ w h' it d L.length ep (i+1) ps->Heap.SameBut it s.heap h'->R (some p.2) `l):wpAny `a A (pyNext (.ref it)) R E s:=by
 have hT:=I.typ;obtain⟨x,hx,oi,g,hc,hd⟩:=I;unfold pyNext;show Ã (wpAny_attempt (wpAny_callSpecial?_slot (name:=Str.ofString "__next__") hT Ĉ (wpAny_call_entry Ĉ hT ŏ ?_ (Š _))));unfold Builtin.«set_iterator.__next__»;show Ã (m:=slotArgs "__next__" 0 _) (Ì ?_);show Ã (wpAny_fieldsOf g hd ?_);dsimp only;unfold setEntries;show Ã (Ã (S.state (Ì ?_)));rw[Ç Õ];simp only[Int.toNat_natCast];show Ã (S.nxt hx λx' fR=>?_);rw[hp];dsimp only[Option.map];have hi:i<L.length:=by have:=(ĉ.mp hp).1;rwa[(ord_perm w d ep L).length_eq]at this
 show Ã (wpAny_setField g hd Õ ?_);have g1:=Heap.get?_update_self (Obj.mapFields (·.setIfInBounds 0 (rawInt (x':Int)))) g (Obj.isFreed_of_fields (Obj.data_mapFields hd _));have d1:=Obj.data_mapFields hd (·.setIfInBounds 0 (rawInt (x':Int)));show Ã (wpAny_setField (s:={s with heap:=s.heap.update it (Obj.mapFields (·.setIfInBounds 0 (rawInt (x':Int))))}) g1 d1 Õ ?_);have g2:=Heap.get?_update_self (Obj.mapFields (·.setIfInBounds 1 (rawInt ((i:Int)+1)))) g1 (Obj.isFreed_of_fields (Obj.data_mapFields d1 _));show Ì ⟨_,O,Ì (q _ ⟨x',fR hi,_,g2,?_,?_⟩ ((Heap.SameBut.update ..).trans (Heap.SameBut.update ..)))⟩;.rw[Obj.cls_mapFields,Obj.cls_mapFields];show hc
 .rw[Obj.data_mapFields d1];simp[rawInt]
theorem M8(hh:A.handled=none)(S:SetAt (ledW w) s.heap d L o ep t ps)(I:ϸ w s.heap it d L.length ep L.length ps)(q:∀h',Heap.ExtBut it s.heap h'->R none `l):wpAny `a A (pyNext (.ref it)) R E s:=by have hT:=I.typ;obtain⟨x,hx,oi,g,hc,hd⟩:=I;unfold pyNext;show Ã (wpAny_attempt (wpAny_callSpecial?_slot (name:=Str.ofString "__next__") hT Ĉ (wpAny_call_entry Ĉ hT ŏ ?_ (Š _))));unfold Builtin.«set_iterator.__next__»;show Ã (m:=slotArgs "__next__" 0 _) (Ì ?_);show Ã (wpAny_fieldsOf g hd ?_);dsimp only;unfold setEntries;show Ã (Ã (S.state (Ì ?_)));rw[Ç Õ];simp only[Int.toNat_natCast];show Ã (S.nxt hx λx' fR=>?_);rw[η (by rw[(ord_perm w d ep L).length_eq];show Ø _)];dsimp only[Option.map];show Ã (wpAny_setField g hd Õ ?_);apply Ã;simp only[newExc,newTuple];show Ã (Η (Ã (m:=firstArgMember _ _) (wpAny_of_eq (a:=Value.none) (by first|rfl|(simp only[firstArgMember];rfl)) ?_)) (by size_fits));show Η ?_ (by size_fits);simp only[raiseNew];show Ã (wpAny_handled ?_);rw[show A.in1.handled=none from hh];show Ã (Ì (wpAny_throw ?_));show Ã (wpAny_isInstance (b:=true) (T:="StopIteration") ⟨_,Ģ _ O,O⟩ isSubtype_stop ?_);show Ì (q _ (((Heap.SameBut.update ..).extBut.push _).push _))
theorem G9(hT:s.TypeIs (.ref r) "set")(h:Q false s):wpAny `a A (Builtin.List.listLengthHint (.ref r)) Q E s:=by unfold Builtin.List.listLengthHint;show Ã (wpAny_specialOf hT F.slot_set_len.lookup ?_);generalize RV:("set.__len__":String)=Vr;wp_delta;rw[show splitId Vr=some ("set","__len__")from by subst RV;decide+kernel];subst RV;show Ã (wpAny_isInstance (T:="set") (b:=true) hT sub_set_self ?_);show wpAny_ite_split (λz=>absurd z á) (λ_=>?_);show wpAny_ite_split (λ_=>?_) (λz=>absurd ž z);show Ã (wpAny_typeOf hT (Ì h))
theorem src_set(S0:∀h:Heap,h.get? d=some o->SetAt (ledW w) h d L o ep t ps):PySem.W.KdlSrc prog w "set" d d L.length (λi v=>∃p,(ord w d ep L)[i]?=some p/\v=p.2) (λh=>h.get? d=some o)where
 type:=λs hm=>(S0 s.heap hm).typ;there:=λ_ hm=>⟨î hm,î hm⟩;keep:=λ_ _ hm hk=>hk d (.inl O) o hm;notList:=by decide
 notTuple:=by decide
 hint:=λ_ _ s _ hm hq=>G9 (S0 s.heap hm).typ hq;iter:=λA s hh hm=>⟨_,λi h=>ϸ w h s.heap.objs.size d L.length ep i ps/\h.get? d=some o,(λ_ _ hq=>Ju (S0 s.heap hm) hq),
  {sub:=λb hb=>by simp at hb;simp[hb]
   frame:=λ_ _ _ st hk=>by obtain⟨⟨x,hx,oi,g,r⟩,hd⟩:=st;show⟨⟨x,hx,oi,hk _ Õ oi g,r⟩,hk d Õ _ hd⟩
   item:=λi s' Q E hi st hQ=>by
    have hi:i<(ord w d ep L).length:=by rw[(ord_perm w d ep L).length_eq];show hi
    show Jv (S0 s'.heap st.2) st.1 (Ô hi) λh' Æ sb=>?_;show hQ _ h' s'.toks ⟨_,Ô hi,O⟩ ⟨Æ,sb.extBut _ _ (ĵ (î hm)) st.2⟩ λb o hb e=>sb.extBut b o (λh=>hb (by simp[h])) e
   done:=λs' Q E st hQ=>M8 hh (S0 s'.heap st.2) st.1 λh' uS=>hQ h' s'.toks λb o hb e=>uS b o (λh=>hb (by simp[h])) e
   self:=λs' A' E' Q st hQ=>by show wpAny_pyIter_slot st.1.typ ŝ (wpAny_call_entry ŝ st.1.typ ρ ?_ (Ϭ _));show Ì ⟨_,O,"set_iterator",_,st.1.typ,Ĉ.lookup,hQ⟩},⟨⟨0,λ_=>wQ (S0 s.heap hm).rc.tb.up,_,Ģ _ O,O,O⟩,ò _ hm⟩⟩
end
end St
namespace L2
open PySem PySem.Spec PyProof.Rows
section
inductive Z08(o:V)(i:V)(v:V)(H:Hp)(Q:Hp->Prop):Prop|mk:∀a H',(o=.ref a)->(ŷ H a i v H')->(Q H')->Z08  o i v H Q
def Oj:Cj:=λo i v H Q=>Z08  o i v H Q
theorem Z00(hu:X.A.units+1<cLine):Ir X Oj:=by intro Á s σ H o i v ov iv u Q I ro ri rv h;obtain⟨a,H',rfl,g,q⟩:=h;cases ro;show tE hu I g ri rv λs' I'=>⟨H',I',q⟩
end
open PySem PySem.Spec PyProof.Rows PySem.Calls
section
open PySem.W
theorem Az(lo:(d==sysModules)=false)(g2:o.ExactDict)(g3:o.data=.dict es ep):KdlSrc prog w "dict" d d es.size (λi v=>∃e,es[i]?=some e/\v=e.key) (λh=>h.get? d=some o)where
 type:=λ_ hm=>⟨o,hm,g2.1⟩;there:=λ_ hm=>⟨î hm,î hm⟩;keep:=λ_ _ hm hk=>hk d (.inl O) o hm;notList:=by decide
 notTuple:=by decide
 hint:=λ_ _ _ _ hm hq=>kdl_hint_dict ⟨o,hm,g2.1⟩ hq;iter:=λA s hh hm=>⟨_,λi h=>h.IsKeyIter s.heap.objs.size d i es.size ep/\h.get? d=some o,(λ_ _ hq=>Aw lo hm g2 g3 hq),
  {sub:=λb hb=>by simp at hb;simp[hb]
   frame:=λ_ _ _ st hk=>⟨st.1.at λo e=>hk _ Õ o e,hk d Õ _ st.2⟩
   item:=λi s' Q E hi st hQ=>by obtain⟨e,hx⟩:∃p,es[i]?=some p:=⟨es[i],by simp[hi]⟩;show Ax st.1 st.2 g3 hx λh' L0 dv=>?_;show hQ e.key h' s'.toks ⟨e,hx,O⟩ ⟨L0,dv.extBut _ _ (ĵ (î hm)) st.2⟩ λb o hb e=>dv.extBut b o (λh=>hb (by simp[h])) e
   done:=λs' Q E st hQ=>G8 hh st.1 st.2 g3 (Ø _) λh' uS=>hQ h' s'.toks λb o hb e=>uS b o (λh=>hb (by simp[h])) e
   self:=λ_ _ _ _ st hQ=>wpAny_pyIter_keyiter st.1 hQ},⟨⟨_,Ģ _ rfl,rfl,rfl⟩,ò _ hm⟩⟩
theorem wR(K:KdlSrc prog w T r d n P OK)(hh:A.handled=none)(hok:OK s.heap)(hn:n<=sizeLine)(h:∀h' tk acc,(∀b o,s.heap.get? b=some o->h'.get? b=some o)->s.heap.objs.size<h'.objs.size->ItemsOf P acc n->R acc.toList {s with heap:=h',toks:=tk}):wpAny `a A (collect (.ref r)) R E s:=by
 obtain⟨l1,l2⟩:=K.there _ hok;obtain⟨S,eS⟩:∃S,S=s.heap.objs.size:=`i;obtain⟨g,eg⟩:∃g,g=s.heap.push {cls:=.type "list",data:=.seq ([]:ó).toArray}:=`i;have atS:g.get? S=some {cls:=.type "list",data:=.seq #[]}:=by rw[eg,eS];show Ģ _ O
 have ext:=kdl_extend (A:=A) (s:={s with heap:=g}) (R:=λq s'=>∃h' tk acc,q=Except.ok (.ret (.ref S))/\s'={s with heap:=h',toks:=tk}/\(∀b o,s.heap.get? b=some o->h'.get? b=some o)/\(∃c,h'.get? S=some {cls:=.type "list",dict:=none,data:=.seq acc c,slots:=#[]})/\ItemsOf P acc n) K hh (K.keep _ _ hok λb _ o e=>by rw[eg];exact ò _ e) S (by rw[eS];exact Θ l1) (by rw[eS];exact Θ l2) (.ref S) 0 atS (λh' tk acc c kp at' it=>⟨h',tk,acc,O,O,λb o e=>kp b o (by rw[eS];exact ĵ (î e)) (by rw[eg];exact ò _ e),⟨c,at'⟩,it⟩) hn;unfold collect;refine Ã (wpAny_runValue (codeAny_builtin entry_proto_collect' ?_));rw[Around.under_plainId PySem.F.plain_proto_collect _];show wpAny _ A.in1 (newList []>>=λl=>again (.builtin "list.__iadd__" ⟨[l,.ref r],[]⟩)) _ _ s;refine Ã (Η (Ì ⟨plainId_quiet PySem.F.plain_list_iadd _,codeAny_builtin entry_list_iadd' ?_⟩));rw[Around.under_plainId PySem.F.plain_list_iadd _];show wpAny _ A.in1 (Builtin.List.listExtendWith (.ref s.heap.objs.size) (.ref r) (.ref s.heap.objs.size)) _ _ {s with heap:=s.heap.push {cls:=.type "list",data:=.seq ([]:ó).toArray}};rw[<-eS,<-eg];refine wpAny_mono ext (λfin s' x=>?_) λe s' x=>?_;.cases fin with|done f=>obtain⟨h',tk,acc,e,rfl,kp,at',it⟩:=x;cases e;obtain⟨c,at'⟩:=at';refine Ã (wpAny_load at' (Ì (h h' tk acc kp (by rw[<-eS];exact î at') it)));|again c₁=>show⟨x.1,codeAny_mono x.2 λq s₂ y=>?_⟩;obtain⟨h',tk,acc,rfl,rfl,kp,⟨c,at'⟩,it⟩:=y;show Ã (wpAny_load at' (Ì (h h' tk acc kp (by rw[<-eS];show î at') it)))
 .obtain⟨_,_,_,e',_⟩:=x;cases e'
theorem wU{R:ó->ó->Prop}(K:KdlSrc prog w T r d n P OK)(hh:A.handled=none)(hok:OK s.heap)(hn:n<=sizeLine)(small:∀vs,vs.length=n->(∀j v,vs[j]?=some v->P j v)->vs.length<2->R vs vs)(big:∀vs,vs.length=n->(∀j v,vs[j]?=some v->P j v)->2<=vs.length->∀g tk,(∀b o,s.heap.get? b=some o->g.get? b=some o)->wpAny `a A.in1.in1 (keyKind' vs.toArray) (λκ s1=>s1={s with heap:=g,toks:=tk}/\wpS `a A.in1.in1 (λ_ _=>False) {s with heap:=g,toks:=tk} sortRuns' (λ_ st=>failedOf st=none/\∃out,(arrOf st).map (·.2)=List.toArray out/\R vs out) (SortSt.mk' κ (vs.toArray.zip vs.toArray) #[] 7 none)) (λ_ _=>False) {s with heap:=g,toks:=tk})(len:∀vs out,vs.length=n->R vs out->out.length=vs.length)(fin:∀vs out,R vs out->∀D h2 c tk,s.heap.objs.size<=D->(∀b o,s.heap.get? b=some o->h2.get? b=some o)->h2.get? D=some (seqObj "list" out.toArray c)->Q (.ref D) {s with heap:=h2,toks:=tk}):wpAny `a A (call (.builtin "sorted") [.ref r]) Q E s:=by
 show call_function_entry kind_sorted plain_sorted entry_sorted (args_sorted1 _) ?_;unfold Builtin.«sorted»;show Ã (m:=checkCount "sorted" 1 1 _) (Ì ?_);show Ã (wR (A:=A.in1) K hh hok hn λh' tk acc hk hsz rl=>?_);have lv:acc.toList.length=n:=by rw[Ğ];show rl.1
 have hP:∀j v,acc.toList[j]?=some v->P j v:=λj v e=>rl.2 j v (by rw[<-ϱ];show e);generalize acc.toList=vs at lv hP;have fits:vs.length<=sizeLine:=by rw[lv];show hn
 show Ã (wpAny_newList ?_ fits);obtain⟨g1,rX⟩:∃g1,g1=h'.push (seqObj "list" vs.toArray 0):=`i;obtain⟨D,eD⟩:∃D,D=h'.objs.size:=`i;have qr:g1.get? D=some (seqObj "list" vs.toArray 0):=by rw[rX,eD];show Ģ _ O
 have LW:∀b o,s.heap.get? b=some o->g1.get? b=some o:=λb o q=>by rw[rX];show ò _ (hk b o q)
 have hD:s.heap.objs.size<=D:=by rw[eD];show Zby hsz
 show wpAny _ _ _ _ _ {s with toks:=tk,heap:=h'.push (seqObj "list" vs.toArray 0)};rw[<-eD,<-rX];show Ã (wpAny_holding (wpAny_call_entry slot_list_sort ⟨_,qr,O⟩ entry_list_sort ?body (args_list_sort _)));have apart:∀b o,s.heap.get? b=some o->b≠D:=λb o q e=>by have lt:b<h'.objs.size:=î (hk b o q);rw[e,eD]at lt;show absurd lt (ϯ _)
 obtain⟨g2,yA⟩:∃g2,g2=g1.update D (Obj.mapSeq λ_=>(#[]:Qa3)):=`i;have hX:Heap.SameBut D g1 g2:=yA▸Heap.SameBut.update g1 D _;obtain⟨e1,at2⟩:∃e1,g2.get? D=some (seqObj "list" #[] e1):=⟨_,yA▸get?_update_seq qr λ_=>#[]⟩;obtain⟨g3,yB⟩:∃g3,g3=(g2.push (seqObj "tuple" vs.toArray 0)).push (seqObj "list" #[] 0):=`i;have kU:g3.get? D=some (seqObj "list" #[] e1):=yB▸ò _ (ò _ at2);have yT:∀b o,s.heap.get? b=some o->g3.get? b=some o:=λb o q=>yB▸ò _ (ò _ ((hX.2 b (apart b o q)).trans (LW b o q)));rw[list_sort_plain];show Ã (listItems_at qr O (Ã (listUpdate_at qr O ?_ (by rw[ă];show fits) (Ė _))));rw[<-yA];show Ã (seqEpoch_at at2 O (Ã (wpAny_newTuple (Ã (wpAny_newList (wpAny_holding ?_) (Ė _))) fits)));show wpAny `a A.in1.in1 _ _ _ {s with toks:=tk,heap:=(g2.push (seqObj "tuple" vs.toArray 0)).push (seqObj "list" #[] 0)};rw[<-yB];dsimp only;by_cases two:vs.toArray.size<2
 .have iP:vs.length<2:=by rw[ă]at two;show two
  rw[Ê two,Ê two];show Ã (Ì ?_);show wpAny _ _ (do let r<-(pure ((),SortSt.mk' general' (vs.toArray.zip vs.toArray) #[] 7 none):Sem (Unit×SortSt));_) _ _ _;show Ã (Ì ?_);dsimp only;have em:(vs.toArray.zip vs.toArray).map (·.2)=vs.toArray:=by apply Array.toList_inj.mp;simp only[Array.toList_map,Array.toList_zip];show List.map_snd_zip (Ø _)
  rw[em];show Ã (seqEpoch_at kU O (Ã (listUpdate_at kU O ?_ (Ė _) (by rw[ă];lia))));simp only[bne_self_eq_false,Bool.false_eq_true,if_false];have yY:=Heap.SameBut.update g3 D (Obj.mapSeq λ_=>vs.toArray);show Ì ⟨_,O,Ì ⟨_,O,fin vs vs (small vs lv hP iP) D _ _ tk hD (λb o z=>(yY.2 b (apart b o z)).trans (yT b o z)) (get?_update_seq kU _)⟩⟩
 .have iP:2<=vs.length:=by rw[ă]at two;lia
  rw[Ç two,Ç two];show Ã (wpAny_mono (big vs lv hP iP g3 tk yT) (λκ s1=>?_) λ_ _ x=>x.elim);rintro⟨kS,run⟩;subst kS;show Ã (wpAny_mono run ?_ λ_ _ x=>x.elim);rintro⟨⟨⟩,st⟩s2⟨D0,D1,out,nK,hR⟩;subst D0;dsimp only at D1 nK⊢;rw[nK];show Ã (seqEpoch_at kU O (Ã (listUpdate_at kU O ?_ (Ė _) (by rw[ă,len vs out lv hR];lia))));rw[D1];simp only[bne_self_eq_false,Bool.false_eq_true,if_false];have yY:=Heap.SameBut.update g3 D (Obj.mapSeq λ_=>out.toArray);show Ì ⟨_,O,Ì ⟨_,O,fin vs out hR D _ _ tk hD (λb o z=>(yY.2 b (apart b o z)).trans (yT b o z)) (get?_update_seq kU _)⟩⟩
end
section
def fV(H:Hp)(a:Addr):VV:=match H a with
 |some (.tup xs)=>xs.map λv=>match v with|.int i=>i|_=>0
 |_=>[]
theorem oH(e:H a=some (.tup (r.map V.int))):fV H a=r:=by unfold fV;rw[e];show(r.map V.int).map _=r;rw[Ě];show Zb9 r
theorem jD(hc:X.calm=true):cZ X (.builtin "sorted") (λxs H Q=>∃(d:Addr)(Ä:List (List Key×V))(rk:List Key->VV),xs=[.ref d]/\H d=some (.dT Ä)/\(∀p∈Ä,p.1=(rk p.1).map Sum.inl/\rk p.1≠[])/\∀q(l':ø)row,H q=none->(l'.map row).Perm (Ä.map λp=>rk p.1)->l'.Pairwise (λa b=>HT.lexLt (row b) (row a)=false)->(∀a∈l',H a=some (.tup ((row a).map V.int)))->Q (.ref q) (upd H q (.lst (l'.map V.ref)))):=by
 intro Á s σ H xs us Q I r h;obtain⟨d,Ä,rk,rfl,hd,hk,q⟩:=h;obtain⟨u,rfl,ru⟩:=ô r;cases ru;obtain⟨hz,lo,xs,kt,o,es,ep,g1,g2,g3,g4,g5⟩:=(show Ö X.prog X.w H s.heap d (.dT Ä)from I.hok _ _ hd);have kt:KT H Ä xs:=kt;have hsz:es.size=Ä.length:=jo kt g4;have lx:=kt.len;obtain⟨l,el⟩:∃l:ø,l=xs.map (·.2.1):=`i;have key:∀(j:Nat)(hj:j<Ä.length),∃b,l[j]?=some b/\H b=some (.tup ((rk Ä[j].1).map V.int))/\rk Ä[j].1≠[]/\∀v,(∃e,es[j]?=some e/\v=e.key)->v=Value.ref b:=λj hj=>by
  obtain⟨b,u,ex,eb⟩:=kt.get (k:=Ä[j].1) (v:=Ä[j].2) (Ô hj);obtain⟨e1,e2⟩:=hk Ä[j] (ĕ hj);have ee:es[j]?=some (entryOfKey (tupleKind (aZ X.prog X.w)) (Ä[j].1,b,u)):=by rw[entry_at g4,ex];rfl
  show⟨b,by rw[el,ì,ex];rfl,?_,e2,λv hv=>?_⟩
  .rw[eb];have:Ä[j].1.map kV=(rk Ä[j].1).map V.int:=by
    conv=>lhs;rw[e1]
    rw[Ě];rfl
   rw[this]
  .obtain⟨e,he,rfl⟩:=hv;rw[ee]at he;cases he;rfl
 have ll:l.length=Ä.length:=by rw[el,Ï,lx]
 have hl:∀a∈l,H a=some (.tup ((fV H a).map V.int))/\fV H a≠[]:=λa ha=>by obtain⟨j,hj,e⟩:=Zaw ha;obtain⟨b,h1,h2,h3,_⟩:=key j À;rw[Ô hj,e]at h1;cases h1;rw[oH h2];show⟨h2,h3⟩
 have kx:l.map (fV H)=Ä.map λp=>rk p.1:=by
  show Zbw λj=>?_;by_cases hj:j<Ä.length;.obtain⟨b,h1,h2,_⟩:=key j hj;rw[ì,h1,ì,Ô hj];show some (fV H b)=some (rk Ä[j].1);rw[oH h2]
  .rw[η (by rw[Ï];lia),η (by rw[Ï];lia)]
 have vals:∀vs:ó,vs.length=es.size->(∀(j:Nat)(v:Value),vs[j]?=some v->∃e:DictEntry,es[j]?=some e/\v=e.key)->vs=l.map Value.ref:=λvs h1 h2=>by
  show Zbw λj=>?_;by_cases hj:j<Ä.length;.obtain⟨b,e1,_,_,e2⟩:=key j hj;have hv:j<vs.length:=À;rw[ì,e1,Ô hv];show congrArg some (e2 _ (h2 j _ (Ô hv)))
  .rw[η À,η (by rw[Ï];lia)]
 have obj:∀a∈l,∃(us:ó)(o:Obj)(n:Nat),s.heap.get? a=some o/\o.cls=.type "tuple"/\o.data=.seq us.toArray n/\Î ((fV H a).map V.int) us/\fV H a≠[]:=λa ha=>by obtain⟨ht,gx⟩:=hl a ha;obtain⟨as,ra,pa,_⟩:=I.tuple (Ñ.of ht);obtain⟨oa,ga,ca,na,da⟩:=pa;show⟨as,oa,na,ga,ca,da,ra,gx⟩
 show wU (R:=λ_ out=>∃l':ø,out=l'.map Value.ref/\l'.Perm l/\l'.Pairwise λa b=>HT.lexLt (fV H b) (fV H a)=false) (Az lo g2 g3) (I.ok.hd hc) g1 (by rw[hsz];show hz) (λvs h1 h2 hs=>⟨l,vals vs h1 h2,.refl _,?_⟩) (λvs h1 h2 hb g tk kp=>?_) (λvs out hv⟨l',e,pm,_⟩=>by rw[e,Ï,pm.length_eq,ll,hv,hsz]) λvs out⟨l',e,pm,pw⟩D h2 c tk hD l9 at2=>?_;.exact qe À
 .have ev:=vals vs h1 h2;subst ev;have hZ:∀a∈l,∃(us:ó)(o:Obj)(n:Nat),g.get? a=some o/\o.cls=.type "tuple"/\o.data=.seq us.toArray n/\Î ((fV H a).map V.int) us/\fV H a≠[]:=λa ha=>by obtain⟨us,o,n,h1,h2⟩:=obj a ha;show⟨us,o,n,kp _ _ h1,h2⟩
  apply uT (s:={s with heap:=g,toks:=tk}) hZ (by rw[Ï]at hb;lia);show⟨O,mL (s:={s with heap:=g,toks:=tk}) hZ λst l' e1 e2 e3 e4=>⟨e1,l'.map Value.ref,e2,l',O,e3,e4⟩⟩
 .subst e;show⟨.ref D,_,I.laid (t':=tk) l9 hD (show Ö X.prog X.w _ h2 _ (.lst (l'.map V.ref))from⟨by rw[Ï,pm.length_eq,ll];show hz,_,c,lF l',at2⟩),O,q D l' (fV H) (I.hok.fresh hD) ?_ pw λa ha=>(hl a (pm.mem_iff.mp ha)).1⟩;rw[<-kx];show pm.map _
end
def itm(P:Program)(w:World)(x:List Key×Addr):Int×Value:=(tupleKeyHash (aZ P w) x.1,.ref x.2)
def StO(P:Program)(w:World)(a:Addr)(L:List (List Key×Addr)):HO:=.ext λh=>∃M o ep t ps,St.SetAt (St.ledW w) h a M o ep t ps/\M.Perm (L.map (itm P w))
def Ga(P:Program)(w:World)(a:Addr)(L:List (List Key×Addr))(o:HO):Prop:=o=StO P w a L
def Rws(U:List Key->Prop)(H:Hp)(L:List (List Key×Addr)):Prop:=∀x∈L,U x.1/\(∃r:VV,x.1=r.map Sum.inl/\r≠[])/\H x.2=some (.tup (x.1.map kV))
open Classical in
def mQ(L M:List (List Key×Addr)):List (List Key×Addr):=L++M.filter λx=>decide (x.1∉L.map (·.1))
section
variable{X:Cx}
theorem Gb(S:St.SetAt (St.ledW X.w) h a M o ep t ps)(p:M.Perm (L.map (itm X.prog X.w))):Ö X.prog X.w H h a (StO X.prog X.w a L):=⟨⟨M,o,ep,t,ps,S,p⟩,⟨o,S.get⟩,λh1 h2⟨M,o,ep,t,ps,S,p⟩k=>⟨M,o,ep,t,ps,S.at (k _ S.get),p⟩⟩
theorem Ol{σ:St}(I:`c){ks:List Key}(hr:∃r:VV,ks=r.map Sum.inl/\r≠[])(hc:H c=some (.tup (ks.map kV))):St.ITup (aZ X.prog X.w) s.heap ks c:=by
 obtain⟨r,rfl,_⟩:=hr;show⟨iB I.hok hc,?_⟩;rw[Ě]at hc;obtain⟨us,ru,⟨o,g,gy,n,hd⟩,_⟩:=I.tuple (Ñ.of hc);show⟨o,us.toArray,n,g,gy,hd,λv hv=>?_⟩;obtain⟨i,hi⟩:=Za4 hv;have hi:us[i]?=some v:=hi;have hl:=ru.length;have il:i<(r.map (kV∘Sum.inl)).length:=by rw[hl];show(ĉ.mp hi).1
 obtain⟨u,hu,rv⟩:=ru.get (Ô il);rw[hi]at hu;cases hu;rw[List.getElem_map]at rv;obtain⟨t,e⟩:=(show∃t,v=Value.int _ t from rv);show⟨_,t,e⟩
theorem Ge{σ:St}(I:`c)(h:Rws U H L):St.Gd (aZ X.prog X.w) U s.heap (L.map (itm X.prog X.w)):=λp hp=>by obtain⟨x,hx,rfl⟩:=Ù.mp hp;obtain⟨u,r,e⟩:=h x hx;show⟨x.2,x.1,O,u,Ol I r e⟩
theorem tQ(inj:∀x y,U x->U y->tupleKeyHash (aZ X.prog X.w) x=tupleKeyHash (aZ X.prog X.w) y->x=y):cZ X (.type "set") (λxs H Q=>∃(d:Addr)(Ä:List (List Key×V)),xs=[.ref d]/\H d=some (.dT Ä)/\(∀p∈Ä,U p.1/\∃r:VV,p.1=r.map Sum.inl/\r≠[])/\Ä.length*2<2^13/\∀q L o,H q=none->Ga X.prog X.w q L o->L.map (·.1)=Ä.map (·.1)->Rws U H L->Q (.ref q) (upd H q o)):=by
 intro Á s σ H xs us Q I r h;obtain⟨d,Ä,rfl,hd,hk,hz,q⟩:=h;obtain⟨u,rfl,ru⟩:=ô r;cases ru;obtain⟨_,lo,xs,kt,o,es,ep,g1,g2,g3,g4,g5⟩:=(show Ö X.prog X.w H s.heap d (.dT Ä)from I.hok _ _ hd);have kt:KT H Ä xs:=kt;have hsz:es.size=Ä.length:=jo kt g4;obtain⟨L,eL⟩:∃L:List (List Key×Addr),L=xs.map λx=>(x.1,x.2.1):=⟨_,O⟩;have ek:∀{Ä:List (List Key×V)}{xs:List (List Key×Addr×Value)},KT H Ä xs->(xs.map λx=>(x.1,x.2.1)).map (·.1)=Ä.map (·.1):=λ{Ä xs}k=>by induction k with|nil=>rfl;|cons a _ ih=>rw[Ľ,Ľ,Ľ,ih,a.1]
 have et:∀{Ä:List (List Key×V)}{xs:List (List Key×Addr×Value)},KT H Ä xs->∀x∈xs.map (λx=>(x.1,x.2.1)),H x.2=some (.tup (x.1.map kV)):=λ{Ä xs}k=>by induction k with|nil=>intro x hx;cases hx;|cons a _ ih=>
   intro x hx;rcases ļ.mp hx with z|z;.subst z;show H _=some (.tup (_));rw[<-a.1];show a.2.1
   .exact ih x z
 have Bi:L.map (·.1)=Ä.map (·.1):=by rw[eL];show ek kt
 have dS:Rws U H L:=λx hx=>by
  have hm:x.1∈Ä.map (·.1):=by rw[<-Bi];show Ù.mpr ⟨x,hx,O⟩
  obtain⟨p,hp,e⟩:=Ù.mp hm;obtain⟨u,r⟩:=hk p hp;rw[e]at u r;show⟨u,r,et kt x (by rw[<-eL];show hx)⟩
 have bE:St.pairs es=L.map (itm X.prog X.w):=by unfold St.pairs;rw[g4,eL,Ě,Ě];rfl
 have gd:=Ge I dS;rw[<-bE]at gd;have nd:((St.pairs es).map (·.1)).Nodup:=by
  have RW:(L.map (·.1)).Nodup:=by rw[eL,Ě];show g5
  rw[bE,Ě];rw[List.Nodup,ň]at RW⊢;show RW.imp_of_mem λ{a b}ha hb n e=>n (inj _ _ (dS a ha).1 (dS b hb).1 e)
 show St.call_set g1 g2 g3 lo gd nd (by rw[hsz];show hz) λh' L' o' D3 t' ps' k S pm=>?_;rw[bE]at pm;show⟨.ref _,_,I.laid (t':=s.toks) k (Ø _) (Gb S pm),O,q _ L _ I.fresh O Bi dS⟩
theorem Jw(inj:∀x y,U x->U y->tupleKeyHash (aZ X.prog X.w) x=tupleKeyHash (aZ X.prog X.w) y->x=y)(hL:Rws U H L)(hM:Rws U H M):St.uni (L.map (itm X.prog X.w)) (M.map (itm X.prog X.w))=(mQ L M).map (itm X.prog X.w):=by
 unfold St.uni mQ;rw[é,List.filter_map];congr 2;show Zbf λx hx=>?_;show decide_eq_decide.mpr (not_congr ?_);rw[Ě];constructor;.intro h;obtain⟨y,hy,e⟩:=Ù.mp h;show Ù.mpr ⟨y,hy,inj _ _ (hL y hy).1 (hM x hx).1 e⟩
 .intro h;obtain⟨y,hy,e⟩:=Ù.mp h;show Ù.mpr ⟨y,hy,?_⟩;show tupleKeyHash _ y.1=tupleKeyHash _ x.1;rw[e]
theorem M9(hu:X.A.in1.units<cLine)(inj:∀x y,U x->U y->tupleKeyHash (aZ X.prog X.w) x=tupleKeyHash (aZ X.prog X.w) y->x=y):Ī X (binaryOp .BitOr) (λx y H Q=>∃a c L M oa oc,x=.ref a/\y=.ref c/\a≠c/\H a=some oa/\Ga X.prog X.w a L oa/\H c=some oc/\Ga X.prog X.w c M oc/\Rws U H L/\Rws U H M/\(L.length+M.length)*2<2^13/\∀q o,H q=none->Ga X.prog X.w q (mQ L M) o->Q (.ref q) (upd H q o)):=by
 intro Á s σ H x y v u Q I rx ry h;obtain⟨a,c,L,M,oa,oc,rfl,rfl,ne,ha,rfl,hc,rfl,hL,hM,hz,q⟩:=h;cases rx;cases ry;obtain⟨⟨L1,o1,e1,t1,p1,S1,fy⟩,_⟩:=(show Ö X.prog X.w H s.heap a (StO X.prog X.w a L)from I.hok _ _ ha);obtain⟨⟨L2,o2,e2,t2,p2,S2,h8⟩,_⟩:=(show Ö X.prog X.w H s.heap c (StO X.prog X.w c M)from I.hok _ _ hc);show St.or_set S1 S2 ne hu inj ((Ge I hL).perm fy) ((Ge I hM).perm h8) (by rw[fy.length_eq,h8.length_eq,Ï,Ï];show hz) λh' L' o' bE t' ps' k S pm=>?_;show⟨.ref _,_,I.laid (t':=s.toks) k (Ø _) (Gb S (L:=mQ L M) (pm.trans ?_)),O,q _ _ I.fresh O⟩;rw[<-Jw inj hL hM];unfold St.uni;apply fy.append;have:(λp:Int×Value=>decide (p.1∉L1.map (·.1)))=λp=>decide (p.1∉(L.map (itm X.prog X.w)).map (·.1)):=funext λp=>by congr 1;rw[(fy.map (·.1)).mem_iff]
 rw[this];show h8.filter _
theorem rM(hc:X.calm=true):cZ X (.builtin "sorted") (λxs H Q=>∃(a:Addr)(L:List (List Key×Addr))(o:HO)(rk:List Key->VV),xs=[.ref a]/\H a=some o/\Ga X.prog X.w a L o/\L.length<=sizeLine/\(∀x∈L,x.1=(rk x.1).map Sum.inl/\rk x.1≠[]/\H x.2=some (.tup (x.1.map kV)))/\∀q(l':ø)(row:Addr->VV),H q=none->(l'.map row).Perm (L.map λx=>rk x.1)->l'.Pairwise (λa b=>HT.lexLt (row b) (row a)=false)->(∀a∈l',H a=some (.tup ((row a).map V.int)))->Q (.ref q) (upd H q (.lst (l'.map V.ref)))):=by
 intro Á s σ H xs us Q I r h;obtain⟨a,L,o,rk,rfl,ha,rfl,hz,hk,q⟩:=h;obtain⟨u,rfl,ru⟩:=ô r;cases ru;obtain⟨⟨M,o,ep,t,ps,S,pm⟩,_⟩:=(show Ö X.prog X.w H s.heap a (StO X.prog X.w a L)from I.hok _ _ ha);have po:=(St.ord_perm X.w a ep M).trans pm;obtain⟨N,eN⟩:∃N,N=St.ord X.w a ep M:=`i;rw[<-eN]at po;have at':∀p∈N,∃c r,p.2=Value.ref c/\r≠[]/\H c=some (.tup (r.map V.int)):=λp hp=>by
  obtain⟨x,hx,rfl⟩:=Ù.mp (po.mem_iff.mp hp);obtain⟨e1,e2,e3⟩:=hk x hx;show⟨x.2,rk x.1,O,e2,?_⟩;rw[e3];congr 2;conv=>lhs;rw[e1]
  rw[Ě];rfl
 let ad:Int×Value->Addr:=λp=>match p.2 with|.ref c=>c|_=>0;obtain⟨l,el⟩:∃l:ø,l=N.map ad:=`i;have ev:N.map (·.2)=l.map Value.ref:=by rw[el,Ě];show Zbl λp hp=>?_;obtain⟨c,r,e,_⟩:=at' p hp;show p.2=.ref (ad p);simp only[ad,e]
 have hl:∀b∈l,H b=some (.tup ((fV H b).map V.int))/\fV H b≠[]:=λb hb=>by
  rw[el]at hb;obtain⟨p,hp,rfl⟩:=Ù.mp hb;obtain⟨c,r,e,ne,hc⟩:=at' p hp;have:ad p=c:=by simp only[ad,e]
  rw[this,oH hc];show⟨hc,ne⟩
 have kx:(l.map (fV H)).Perm (L.map λx=>rk x.1):=by
  rw[el,Ě];show(po.map _).trans ?_;rw[Ě];show .of_eq (Zbl λx hx=>?_);obtain⟨e1,e2,e3⟩:=hk x hx;show fV H x.2=rk x.1;apply oH;rw[e3];congr 2;conv=>lhs;rw[e1]
  rw[Ě];rfl
 have ln:M.length=l.length:=by rw[el,Ï,eN,(St.ord_perm X.w a ep M).length_eq]
 have lL:l.length=L.length:=by have:=kx.length_eq;rwa[Ï,Ï]at this
 have vals:∀vs:ó,vs.length=M.length->(∀(j:Nat)(v:Value),vs[j]?=some v->∃p,(St.ord X.w a ep M)[j]?=some p/\v=p.2)->vs=l.map Value.ref:=λvs h1 h2=>by
  rw[<-ev];show Zbw λj=>?_;by_cases hj:j<vs.length;.obtain⟨p,e1,e2⟩:=h2 j vs[j] (Ô hj);rw[Ô hj,ì,eN,e1,e2];rfl
  .rw[η À,η (by rw[Ï,eN,(St.ord_perm X.w a ep M).length_eq];lia)]
 have obj:∀b∈l,∃(us:ó)(o:Obj)(n:Nat),s.heap.get? b=some o/\o.cls=.type "tuple"/\o.data=.seq us.toArray n/\Î ((fV H b).map V.int) us/\fV H b≠[]:=λb hb=>by obtain⟨ht,gx⟩:=hl b hb;obtain⟨as,ra,⟨oa,ga,ca,na,da⟩,_⟩:=I.tuple (Ñ.of ht);show⟨as,oa,na,ga,ca,da,ra,gx⟩
 show wU (R:=λ_ out=>∃l':ø,out=l'.map Value.ref/\l'.Perm l/\l'.Pairwise λa b=>HT.lexLt (fV H b) (fV H a)=false) (St.src_set λh e=>S.at e) (I.ok.hd hc) S.get (by rw[ln,lL];show hz) (λvs h1 h2 hs=>⟨l,vals vs h1 h2,.refl _,qe À⟩) (λvs h1 h2 hb g tk kp=>?_) (λvs out hv⟨l',e,pm,_⟩=>by rw[e,Ï,pm.length_eq,<-ln,hv]) λvs out⟨l',e,pm,pw⟩D h2 c tk hD l9 at2=>?_
 .have ev:=vals vs h1 h2;subst ev;have hZ:∀a∈l,∃(us:ó)(o:Obj)(n:Nat),g.get? a=some o/\o.cls=.type "tuple"/\o.data=.seq us.toArray n/\Î ((fV H a).map V.int) us/\fV H a≠[]:=λa ha=>by obtain⟨us,o,n,h1,h2⟩:=obj a ha;show⟨us,o,n,kp _ _ h1,h2⟩
  apply uT (s:={s with heap:=g,toks:=tk}) hZ (by rw[Ï]at hb;lia);show⟨O,mL (s:={s with heap:=g,toks:=tk}) hZ λst l' e1 e2 e3 e4=>⟨e1,l'.map Value.ref,e2,l',O,e3,e4⟩⟩
 .subst e;show⟨.ref D,_,I.laid (t':=tk) l9 hD (show Ö X.prog X.w _ h2 _ (.lst (l'.map V.ref))from⟨by rw[Ï,pm.length_eq,lL];show hz,_,c,lF l',at2⟩),O,q D l' (fV H) (I.hok.fresh hD) ((pm.map _).trans kx) pw λa ha=>(hl a (pm.mem_iff.mp ha)).1⟩
end
end L2
namespace St
open PySem L2
def wV(acc h:Nat):Nat:=((((acc+h*14029467366897019727)%2^64)*2^31)%2^64+((acc+h*14029467366897019727)%2^64)/2^33)*11400714785074694791%2^64
def Ma(acc:Nat)(h:Int):Nat:=wV acc (h%((2^64:Nat):Int)).toNat
def nQ(acc:Nat):Int:=if acc==2^64-1 then 1546275796 else if acc<2^63 then acc else(acc:Int)-(2^64:Nat)
def hLen(n:Nat):Nat:=n^^^(2870177450012600261^^^3527539)
theorem Om(hs:VV):Builtin.Tuple.tupleHashOf hs=nQ ((hs.foldl Ma 2870177450012600261+hLen hs.length)%2^64):=rfl
theorem qu{acc k:Nat}(h:k<100):Ma acc (k:Int)=wV acc k:=by unfold Ma;rw[Int.emod_eq_of_lt À À,Ž]
def Gf(y n h:Nat):Nat:=(wV (wV (wV 2870177450012600261 y) n) h+hLen 3)%2^64
theorem Gg{y n h:Nat}(hy:y<100)(hn:n<100)(hh:h<100):Builtin.Tuple.tupleHashOf [(y:Int),(n:Int),(h:Int)]=nQ (Gf y n h):=by rw[Om,Zcf,Zcf,Zcf,List.foldl_nil,qu hy,qu hn,qu hh];rfl
theorem Gh:∀k:_root_.Fin 100,hashInt ((k.1:Nat):Int)=(k.1:Int):=`j
def hOf(ks:VV):Int:=reduceHash (Builtin.Tuple.tupleHashOf ks)
theorem yI(n:a≠2^64-1):nQ a=if a<2^63 then(a:Int)else(a:Int)-(2^64:Nat):=by unfold nQ;rw[Ç (by simpa using n)]
theorem Ba(h:a<2^64)(n:a≠2^64-1):reduceHash (nQ a)=nQ a:=by
 have b:-(2^63:Int)<=nQ a/\nQ a<2^63/\nQ a≠-1:=by rw[yI n];split<;>lia
 generalize nQ a=x at b;unfold reduceHash;rw[Ê (by rw[ŉ,Ĥ,Ĥ];show⟨b.1,b.2.1⟩),Ç (by simpa using b.2.2)]
theorem Jx(ha:a<2^64)(na:a≠2^64-1)(hb:b<2^64)(nb:b≠2^64-1)(e:nQ a=nQ b):a=b:=by rw[yI na,yI nb]at e;split at e<;>split at e<;>lia
def apart(acc:Nat):List Nat->Bool|[]=>true|a::l=>match acc.testBit a with|true=>false|false=>apart (acc|||2^a) l
theorem wW:∀{l:List Nat}{acc:Nat},apart acc l=true->l.Nodup/\∀a∈l,acc.testBit a=false
 |[],_,_=>⟨ϳ,λa h=>by cases h⟩|a::l,acc,h=>by
  unfold apart at h;split at h;.cases h
  .rename_i e;obtain⟨h1,h2⟩:=wW h;show⟨Za7.mpr ⟨λhm=>?_,h1⟩,λb hb=>?_⟩;.have:=h2 a hm;rw[Nat.testBit_or,Nat.testBit_two_pow_self,Bool.or_true]at this;cases this
   .rcases ļ.mp hb with z|z;.rw[z];show e
    .have:=h2 b z;rw[Nat.testBit_or,Bool.or_eq_false_iff]at this;show this.1
def hsh(j:Nat):Nat:=Gf (j/80) (j/8%10) (j%8)
theorem Mf:apart 0 ((List.range 1600).map λj=>hsh j%60127)=true:=`j
theorem Mj:((List.range 1600).all λj=>!(hsh j==2^64-1))=true:=`j
theorem uZ(y n h:Nat):Gf y n h<2^64:=Nat.mod_lt _ á
theorem wE(hn:n<10)(hh:h<8):(80*y+8*n+h)/80=y/\(80*y+8*n+h)/8%10=n/\(80*y+8*n+h)%8=h:=by rw[show 80*y+8*n+h=8*(10*y+n)+h by lia,show(8*(10*y+n)+h)/80=(8*(10*y+n)+h)/8/10 from(Nat.div_div_eq_div_mul _ 8 10).symm,Nat.mul_add_div á,Nat.div_eq_of_lt hh,Nat.add_zero,Nat.mul_add_div á,Nat.div_eq_of_lt hn,Nat.mul_add_mod,Nat.mod_eq_of_lt hn,Nat.mul_add_mod,Nat.mod_eq_of_lt hh];show⟨O,O,O⟩
theorem yJ(hn:n<10)(hh:h<8):hsh (80*y+8*n+h)=Gf y n h:=by unfold hsh;obtain⟨a,b,c⟩:=wE (y:=y) hn hh;rw[a,b,c]
theorem Jy{y n h y' n' h':Nat}(hy:y<20)(hn:n<10)(hh:h<8)(me:y'<20)(CD:n'<10)(D4:h'<8)(e:hOf [(y:Int),(n:Int),(h:Int)]=hOf [(y':Int),(n':Int),(h':Int)]):y=y'/\n=n'/\h=h':=by
 have top:=Ε.mp Mj;have nt:∀y n h,y<20->n<10->h<8->Gf y n h≠2^64-1:=λy n h hy hn hh=>by have:=top (80*y+8*n+h) (ı.mpr À);rw[yJ hn hh]at this;simpa using this
 unfold hOf at e;rw[Gg À À À,Gg À À À,Ba (uZ ..) (nt y n h hy hn hh),Ba (uZ ..) (nt y' n' h' me CD D4)]at e;have e:=Jx (uZ ..) (nt y n h hy hn hh) (uZ ..) (nt y' n' h' me CD D4) e;have nd:=ϲ.mp (wW Mf).1;have inj:∀i j,i<1600->j<1600->hsh i=hsh j->i=j:=λi j hi hj e=>by
  rcases Zb4 i j with z|z|z;.have:=nd i j (by simpa using hi) (by simpa using hj) z;simp only[List.getElem_map,List.getElem_range]at this;show absurd (by rw[e]) this
  .exact z
  .have:=nd j i (by simpa using hj) (by simpa using hi) z;simp only[List.getElem_map,List.getElem_range]at this;show absurd (by rw[e]) this
 have:=inj (80*y+8*n+h) (80*y'+8*n'+h') À À (by rw[yJ hn hh,yJ CD D4];show e);have a:=wE (y:=y) hn hh;rw[this]at a;have b:=wE (y:=y') CD D4;show⟨a.1.symm.trans b.1,a.2.1.symm.trans b.2.1,a.2.2.symm.trans b.2.2⟩
def UK(k:List Key):Prop:=∃y n h:Nat,y<20/\n<10/\h<8/\k=[.inl (y:Int),.inl (n:Int),.inl (h:Int)]
theorem uk_inj(x y:List Key)(hx:UK x)(hy:UK y)(e:tupleKeyHash (aZ P w) x=tupleKeyHash (aZ P w) y):x=y:=by
 obtain⟨a,b,c,ha,hb,hc,rfl⟩:=hx;obtain⟨a',b',c',RX,RY,aI,rfl⟩:=hy;have hk:∀{a b c:Nat},a<20->b<10->c<8->tupleKeyHash (aZ P w) [.inl (a:Int),.inl (b:Int),.inl (c:Int)]=hOf [(a:Int),(b:Int),(c:Int)]:=λ{a b c}ha hb hc=>by have el:tupleKeyHash (aZ P w) [.inl (a:Int),.inl (b:Int),.inl (c:Int)]=reduceHash (Builtin.Tuple.tupleHashOf [hashInt (a:Int),hashInt (b:Int),hashInt (c:Int)]):=O;have h1:=Gh ⟨a,À⟩;have h2:=Gh ⟨b,À⟩;have h3:=Gh ⟨c,À⟩;dsimp only at h1 h2 h3;rw[el,h1,h2,h3];rfl
 rw[hk ha hb hc,hk RX RY aI]at e;obtain⟨rfl,rfl,rfl⟩:=Jy ha hb hc RX RY aI e;rfl
end St
namespace L2
open PySem PyProof.Rows HT
section
inductive Z03(t:TS)(D:œ)(σ:St)(H:Hp):Prop|mk:∀d Ä,(H d=some (.dT Ä))->(∀o,t {D with nx:=λaf H'=>H' d=some (.frz o (.dT Ä))/\D.nx af (upd H' d (.dT Ä)),bk:=λ_ _=>False,ct:=λ_ _=>False,rt:=λ_ _=>False} σ (upd H d (.frz o (.dT Ä))))->Z03 t D σ H
def Oo(t:TS):TS:=λD σ H=>Z03 t D σ H
theorem Ml(h:PS X e t):PS X e (Oo t):=by
 intro Á s σ H D I hq;obtain⟨d,Ä,ed,hq⟩:=hq;obtain⟨hz,hs,xs,kt,o,es,ep,g1,g⟩:=(show Ö X.prog X.w H s.heap d (.dT Ä)from I.hok _ _ ed);have nt:∀{b:Addr}{u:HO},H b=some u->u≠.dT Ä->b≠d:=λ{b u}e n z=>by rw[z,ed]at e;show n (ģ e).symm
 have I1:É X Á σ (upd H d (.frz o (.dT Ä))) {s with heap:=s.heap,toks:=s.toks}:=by
  show I.un ⟨λb ob q _ _ _=>q,λb ob q _ _ _=>⟨ob.slots,q⟩,λb ob q n _=>?_,λb ob q _=>⟨ob,q⟩,λb xs q=>?_,λb ob u q=>?_,λb ps q=>⟨#[],?_⟩⟩ λb u e=>?_;.rw[au λz=>by rw[z,ed]at n;cases n];show n
  .rw[au (nt q λz=>by cases z)];show q
  .rw[au (nt q λz=>by cases z)];show q
  .rw[au (nt q λz=>by cases z),q];simp
  .have ba:∀c xs,H c=some (.tup xs)->upd H d (.frz o (.dT Ä)) c=some (.tup xs):=λc xs q=>by rw[au (nt q λz=>by cases z)];show q
   by_cases hb:b=d;.subst hb;rw[aa]at e;cases e;show⟨g1,(show Ö X.prog X.w H s.heap b (.dT Ä)from I.hok _ _ ed).stay (λ_ _ _ q=>q) (λc q=>by rw[au (nt q λz=>by cases z)];show q) ba⟩
   .rw[au hb]at e;show(I.hok b u e).stay (λ_ _ _ q=>q) (λc q=>by rw[au (nt q λz=>by cases z)];show q) ba
 refine Û (h Á s σ _ _ I1 (hq o)) λfl s1 GS=>?_;cases fl with|brk=>obtain⟨_,_,_,z⟩:=GS;exact z.elim;|cont=>obtain⟨_,_,_,z⟩:=GS;exact z.elim;|ret u=>obtain⟨_,_,_,_,_,z⟩:=GS;exact z.elim;|next=>
 obtain⟨JU,H1,J,e1,q1⟩:=GS;have si:∀{b:Addr}{u:HO},H1 b=some u->u≠.frz o (.dT Ä)->b≠d:=λ{b u}e n z=>by rw[z,e1]at e;show n (ģ e).symm
 have fr:∀b,H1 b=none->upd H1 d (.dT Ä) b=none:=λb n=>by rw[au λz=>by rw[z,e1]at n;cases n];show n
 show⟨JU,upd H1 d (.dT Ä),⟨J.ok,J.os,J.bare,⟨J.base.keep,J.base.slot,λb ob q n hx=>fr b (J.base.free b ob q n hx),J.base.there,λb xs q=>?_,λb ob u q=>?_,λb ps q=>?_⟩,J.loc,J.cell,fr _ J.free,λy c e=>fr _ (J.freeC y c e),λp hp=>?_,λb u e=>?_,J.len⟩,q1⟩;.have:=J.base.tups b xs q;rw[au (si this λz=>by cases z)];show this
 .have h0:=I.base.frzs b ob u q;have:=J.base.frzs b ob u q;rw[au (nt h0 λz=>by cases z)];show this
 .obtain⟨m,e⟩:=J.base.tbls b ps q;show⟨m,by rw[au (si e λz=>by cases z)];show e⟩
 .obtain⟨a,n,c⟩:=J.pin p hp;show⟨a,fr _ n,c⟩
 .have ba:∀c xs,H1 c=some (.tup xs)->upd H1 d (.dT Ä) c=some (.tup xs):=λc xs q=>by rw[au (si q λz=>by cases z)];show q
  have ij:∀a c,H1 c=some (.own a)->upd H1 d (.dT Ä) c=some (.own a):=λa c q=>by rw[au (si q λz=>by cases z)];show q
  by_cases hb:b=d;.subst hb;rw[aa]at e;cases e;show Ö.stay (show Ö X.prog X.w H1 s1.heap b (.dT Ä)from(show Ö X.prog X.w H1 s1.heap b (.frz o (.dT Ä))from J.hok _ _ e1).2) (λ_ _ _ q=>q) (ij b) ba
  .rw[au hb]at e;show(J.hok b u e).stay (λ_ _ _ q=>q) (ij b) ba
end
open PySem PySem.Spec PyProof.Rows
theorem qw(hg:X.A.guards=some [])(hS:¬S sysModules):cZ X (.builtin "repr") (λxs H Q=>∃a ds,xs=[.ref a]/\Ü S H (.ref a) (.list ds)/\ÿ (.list ds)=true/\sz (.list ds)<=80000/\X.A.units+((PyData.list ds).depth+1)<cLine/\Q (.str (PyData.list ds).shown) H):=by
 intro Á s σ H xs us Q I r h;obtain⟨a,ds,rfl,th,tm,hz,hu,q⟩:=h;obtain⟨u,rfl,ru⟩:=ô r;have hl:=mz _ tm;have hsz:(PyData.list ds).shown.length<=sizeLine:=by rw[sizeLine_eq];lia
 have fF:=j6 _ tm;obtain⟨as,rd,ha⟩:=th.reads I ru;cases(show u=Value.ref a from ru);show repr_of_reads' rd fF (λ_ hm=>hS (ha _ hm)) hg À (λb o e=>e) (λh' t tk k=>⟨.str (PyData.list ds).shown,H,I.kept k,⟨t,O⟩,q⟩) hsz
end L2
namespace L2.EZ
open PySem PySem.Spec PyProof.Rows
open ZT
theorem nn{a b:Nat}(h:a≠b):@Ne Addr a b:=h
structure Ap(l1 l2 i1 i2 TI TO z e:Nat):Prop where
 a1:l1<i1
 a2:l2<i1
 b1:i1<i2
 b2:i2<TI
 b3:TI<TO
 b4:TO<z
 b5:z<e
theorem Ap.za{l1 l2 i1 i2 TI TO z e:Nat}(D:Ap l1 l2 i1 i2 TI TO z e):ZipApart z TI TO i1 i2 l1 l2:=by obtain⟨a1,a2,b1,b2,b3,b4,_⟩:=D;constructor<;>show nn À
section
variable{l1 l2 i1 i2 TI TO z e:Nat}
theorem Bb(hz:ι s.heap z TI TO f0 f1)(h:wpAny `a A.in1 (Builtin.«zip.__next__» ⟨[.ref z],[]⟩) (λr s'=>∃v,r=.done (.ret v)/\Q v s') E s):wpAny `a A (Builtin.SmallTypes.nextOf (.ref z)) Q E s:=by have hT:s.TypeIs (.ref z) "zip":=⟨_,hz,O⟩;unfold Builtin.SmallTypes.nextOf;show Ã (wpAny_callSpecial?_slot (name:=Str.ofString "__next__") hT F.slot_zip_next (wpAny_call_entry F.slot_zip_next hT F.entry_zip_next (wpAny_mono h (λr s'=>?_) λ_ _ h=>h) (F.args_zip_next_1 _)));rintro⟨v,rfl,q⟩;show⟨v,O,Ì q⟩
end
section
variable{l1 l2 i1 i2 TI TO z e:Nat}
theorem Jz{i:Nat}{G:Value->Heap->Prop}(he:IsEnum s.heap e z i old)(Vs:∀{Q':Ry}{E':Ry},(∀x h1,h1.get? e=s.heap.get? e->G x h1->Q' x {s with heap:=h1})->wpAny `a A.in1 (Builtin.SmallTypes.nextOf (.ref z)) Q' E' s)(hQ:∀x h1 h',G x h1->IsEnumOut h' e z ((i:Int)+1) x h1.objs.size->h'.get? h1.objs.size=some {cls:=.type "tuple",data:=.seq #[.int i s.toks,x]}->h'.objs.size=h1.objs.size+1->(∀b o,b≠e->h1.get? b=some o->h'.get? b=some o)->Q (some (.ref h1.objs.size)) {s with heap:=h',toks:=s.toks+1}):wpAny `a A (pyNext (.ref e)) Q E s:=by
 have hT:s.TypeIs (.ref e) "enumerate":=⟨_,he,O⟩;unfold pyNext;show Ã (wpAny_attempt (wpAny_callSpecial?_slot (name:=Str.ofString "__next__") hT F.slot_enumerate_next (wpAny_call_entry F.slot_enumerate_next hT F.entry_enumerate_next ?_ (F.args_enumerate_next_1 _))));show wpAny _ _ (field (.ref e) 2>>=_) _ _ _;show Ã (wpAny_field he O (x:=.ref z) O ?_);show Ã (Vs λx h1 e1 g1=>?_);have L4:IsEnum h1 e z i old:=e1.trans he;show wpAny _ _ (field (.ref e) 3>>=_) _ _ {s with heap:=h1};show Ã (wpAny_field L4 O (x:=rawInt i) O ?_);show wpAny _ _ (field (.ref e) 4>>=_) _ _ {s with heap:=h1};show Ã (wpAny_field L4 O (x:=.none) O ?_);show wpAny _ _ (mkInt i>>=_) _ _ {s with heap:=h1};show Ã (wpAny_mkInt ?_);show wpAny _ _ (setField (.ref e) 3 (rawInt ((i:Int)+1))>>=_) _ _ {s with heap:=h1,toks:=s.toks+1};show Ã (wpAny_setField_rec L4 Õ λh2 L5 s2=>?_);replace L5:IsEnum h2 e z ((i:Int)+1) old:=L5;show Ã (wpAny_setField_rec L5 Õ λh3 GU s3=>?_);replace GU:IsEnum h3 e z ((i:Int)+1) old:=GU;replace s2:Heap.SameBut e h1 h2:=s2;replace s3:Heap.SameBut e h2 h3:=s3;show Ã (m:=newTuple [.int i s.toks,x]) (wpAny_newTuple ?_);have L6:IsEnum (h3.push {cls:=.type "tuple",data:=.seq #[.int i s.toks,x]}) e z ((i:Int)+1) old:=ò _ GU;have hsz:h3.objs.size=h1.objs.size:=by rw[s3.1,s2.1]
 have L7:e<h3.objs.size:=î GU;show wpAny _ _ (Builtin.SmallTypes.ownedTupleIsFree (.ref e)>>=_) _ _ _;apply Ã;unfold Builtin.SmallTypes.ownedTupleIsFree;show Ã (wpAny_field L6 O (x:=.none) O (Ì ?_));simp only[if_true];show Ã (wpAny_rule ?_);show Ã (wpAny_field L6 O (x:=old) O ?_);show Ã (wpAny_setField_rec L6 Õ λh5 L8 s5=>?_);replace L8:IsEnum h5 e z ((i:Int)+1) x:=L8;show wpAny _ _ (Builtin.SmallTypes.ownedTupleHandOut (.ref e) (.ref h3.objs.size)>>=_) _ _ _;apply Ã;unfold Builtin.SmallTypes.ownedTupleHandOut;show Ã (wpAny_setField_rec L8 Õ λh6 L9 s6=>?_);replace L9:IsEnumOut h6 e z ((i:Int)+1) x h3.objs.size:=L9;show wpAny_setField_rec L9 Õ λh7 GV s7=>?_;replace GV:IsEnumOut h7 e z ((i:Int)+1) x h3.objs.size:=GV;replace s5:Heap.SameBut e (h3.push {cls:=.type "tuple",data:=.seq #[.int i s.toks,x]}) h5:=s5;replace s6:Heap.SameBut e h5 h6:=s6;replace s7:Heap.SameBut e h6 h7:=s7;show Ã (wpAny_letGo (Ì ⟨_,O,?_⟩));have t7:h7.get? h3.objs.size=some {cls:=.type "tuple",data:=.seq #[.int i s.toks,x]}:=s7.extBut _ _ (Θ L7) (s6.extBut _ _ (Θ L7) (s5.extBut _ _ (Θ L7) (Ģ _ O)));have n7:h7.objs.size=h3.objs.size+1:=by rw[s7.1,s6.1,s5.1,Heap.size_push]
 rw[hsz]at GV t7 n7;apply Ì;show Q (some (.ref h3.objs.size)) _;rw[hsz];show hQ x h1 h7 g1 GV t7 n7 λb o hb q=>s7.extBut b o hb (s6.extBut b o hb (s5.extBut b o hb (ò _ (s3.extBut b o hb (s2.extBut b o hb q)))))
end
def Itq(K:Frag)(a b:Addr):It:=⟨λi H=>∃xs ys x y,Ë K H a xs/\Ë K H b ys/\xs[i]?=some x/\ys[i]?=some y,λi H v H'=>∃T U,H T=none/\H U=none/\T≠U/\v=.ref U/\∀xs ys,Ë K H a xs->Ë K H b ys->∃x y,xs[i]?=some x/\ys[i]?=some y/\H'=upd (upd H T (.tup [x,y])) U (.tup [.int i,.ref T]),λi H=>∃xs,Ë K H a xs/\xs.length<=i⟩
def tnE(l1 l2 i1 i2 TI TO z e:Nat)(i:Nat)(h:Heap):Prop:=(∃old,IsEnum h e z i old)/\(∃f0 f,Ow f0/\ι h z TI TO f0 (.bool f))/\IsPair h TI (.ref i1) (.ref i2)/\(∃u v,IsPair h TO u v)/\Io false h i1 l1 i/\Io false h i2 l2 i
theorem Mm{K:Frag}{l1 l2 i1 i2 TI TO z e:Nat}(D:Ap l1 l2 i1 i2 TI TO z e):į P w K (.Tuple es k pos) (Itq K l1 l2) [e,z,TI,TO,i1,i2] e (tnE l1 l2 i1 i2 TI TO z e)where
 mem:=by simp
 obj:=λi h st c hc=>by
  obtain⟨⟨old,s1⟩,⟨f0,f,_,s2⟩,s3,⟨u,v,s4⟩,⟨o5,s5,c5,d5⟩,⟨o6,s6,c6,d6⟩⟩:=st;simp only[List.mem_cons,List.not_mem_nil,or_false]at hc;rcases hc with e|e|e|e|e|e<;>subst e;.exact⟨_,s1,λv q=>by cases q⟩
  .exact⟨_,s2,λv q=>by cases q⟩
  .exact⟨_,s3,λv q=>by cases q⟩
  .exact⟨_,s4,λv q=>by cases q⟩
  .exact⟨_,s5,λv q=>by rw[d5]at q;cases q⟩
  .exact⟨_,s6,λv q=>by rw[d6]at q;cases q⟩
 keep:=λi h h' st kp=>by obtain⟨⟨old,s1⟩,⟨f0,f,ow,s2⟩,s3,⟨u,v,s4⟩,s5,s6⟩:=st;show⟨⟨old,kp e Õ _ s1⟩,⟨f0,f,ow,kp z Õ _ s2⟩,kp TI Õ _ s3,⟨u,v,kp TO Õ _ s4⟩,s5.at λo q=>kp i1 Õ o q,s6.at λo q=>kp i2 Õ o q⟩
 item:=by
  show`k;obtain⟨⟨old,s1⟩,⟨f0,f,ow,s2⟩,s3,s4,s5,s6⟩:=st;obtain⟨xs,ys,x,y,ku,rL,hx,hy⟩:=hg;obtain⟨È,rv,p,_⟩:=I.list ku;obtain⟨LA,dS,q,_⟩:=I.list rL;obtain⟨ux,A4,rx⟩:=rv.get hx;obtain⟨uy,LB,ry⟩:=dS.get hy;have D':=D;obtain⟨a1,a2,b1,b2,b3,b4,b5⟩:=D;show Jz (G:=λv h1=>v=`g/\(∃f0 f,Ow f0/\ι h1 z TI TO f0 (.bool f))/\(∃u v,IsPair h1 TO u v)/\Io false h1 i1 l1 (i+1)/\Io false h1 i2 l2 (i+1)/\IsPair h1 s.heap.objs.size ux uy/\h1.objs.size=s.heap.objs.size+1/\∀c o,c≠z->c≠TO->c≠i1->c≠i2->s.heap.get? c=some o->h1.get? c=some o) s1 (λ{Q' E'}k=>Bb s2<|Aa (t1:=false) (t2:=false) D'.za ow s2 s3 s4 s5 s6 p.isList q.isList (x:=ux) (y:=uy) (by simpa using A4) (by simpa using LB) λh1 g0 g A5 _ z1 o1 p1 p2 t1 n1 kp=>k _ h1 ((kp _ _ (nn À) (nn À) (nn À) (nn À) s1).trans s1.symm) ⟨O,⟨_,_,A5,z1⟩,o1,p1,p2,t1,n1,kp⟩) λv h1 h2 g e2 t2 n2 k2=>?_;obtain⟨rfl,⟨g0,g,Vt,z1⟩,⟨u,v,o1⟩,p1,p2,t1,n1,k1⟩:=g;show⟨_,O,?_⟩;show wpAny_letOwnedTupleGo_enum e2 λh3 e3 sb=>?_;have live:∀c,c∈[e,z,TI,TO,i1,i2]->c<s.heap.objs.size:=λc aI=>by have:=î s1;simp only[List.mem_cons,List.not_mem_nil,or_false]at aI;rcases aI with q|q|q|q|q|q<;>(rw[q];show Nat.lt_of_le_of_lt À this)
  rw[n1]at t2 n2;have hT:H s.heap.objs.size=none:=I.hok.fresh (Ø _);have hU:H (s.heap.objs.size+1)=none:=I.hok.fresh (Nat.le_succ _);have el:e<s.heap.objs.size:=î s1;have kept:∀c o,c∉[e,z,TO,i1,i2]->s.heap.get? c=some o->h3.get? c=some o:=λc o aI q=>by simp only[List.mem_cons,List.not_mem_nil,or_false,not_or]at aI;obtain⟨c1,c2,c3,c4,c5⟩:=aI;show sb.extBut _ _ c1 (k2 c o c1 (k1 c o c2 c3 c4 c5 q))
  have LD:∀c,c∈[e,z,TO,i1,i2]->c∈[e,z,TI,TO,i1,i2]:=λc aI=>by simp only[List.mem_cons,List.not_mem_nil,or_false]at aI⊢;rcases aI with q|q|q|q|q<;>simp[q]
  have mT:h3.get? s.heap.objs.size=some {cls:=.type "tuple",data:=.seq #[ux,uy]}:=sb.extBut _ _ (Θ el) (k2 _ _ (Θ el) t1);have Mb:h3.get? (s.heap.objs.size+1)=some {cls:=.type "tuple",data:=.seq #[.int i s.toks,`g]}:=sb.extBut _ _ (nn À) t2;have tu:s.heap.objs.size≠s.heap.objs.size+1:=ĵ (ϰ _);obtain⟨H2,GW⟩:∃H2,H2=upd (upd H s.heap.objs.size (.tup [x,y])) (s.heap.objs.size+1) (.tup [.int i,`g]):=`i;have Mc:∀{c o},H c=some o->H2 c=some o:=λ{c o}q=>by rw[GW,au (az q hU),au (az q hT)];show q
  have I2:É X Á σ H2 {s with heap:=h3,toks:=s.toks+1}:=by
   show ů [e,z,TO,i1,i2] I hf LD kept Mc λc o q n=>?_;rw[GW]at q;by_cases hb:c=s.heap.objs.size+1;.subst hb;rw[aa]at q;cases q;show⟨Nat.le_succ _,by show 2<=sizeLine;decide,[.int i s.toks,`g],.cons ⟨s.toks,rfl⟩ (.cons rfl .nil),_,Mb,rfl,_,rfl⟩
   .rw[au hb]at q;by_cases hb:c=s.heap.objs.size;.subst hb;rw[aa]at q;cases q;show⟨Ø _,by show 2<=sizeLine;decide,[ux,uy],.cons rx (.cons ry .nil),_,mT,rfl,_,rfl⟩
    .rw[au hb,n]at q;cases q
  have DZ:h1.objs.size=s.heap.objs.size+1:=n1;show⟨.ref h1.objs.size,H2,I2,O,⟨s.heap.objs.size,s.heap.objs.size+1,hT,hU,tu,by rw[DZ],λRA gv vc xS=>⟨x,y,?_,?_,GW⟩⟩,⟨⟨`g,?_⟩,⟨g0,g,Vt,?_⟩,?_,⟨u,v,?_⟩,?_,?_⟩,λc aI=>?_⟩;.rw[I.list_inj vc ku];show hx
  .rw[I.list_inj xS rL];show hy
  .rw[show(((i+1:Nat):Int))=(i:Int)+1 by lia];show e3
  .exact sb.extBut _ _ (nn À) (k2 _ _ (nn À) z1)
  .exact sb.extBut _ _ (nn À) (k2 _ _ (nn À) (k1 _ _ (nn À) (nn À) (nn À) (nn À) s3))
  .exact sb.extBut _ _ (nn À) (k2 _ _ (nn À) o1)
  .exact p1.at λo q=>sb.extBut _ _ (nn À) (k2 _ _ (nn À) q)
  .exact p2.at λo q=>sb.extBut _ _ (nn À) (k2 _ _ (nn À) q)
  .have:=live c aI;rw[GW,au (nn À),au (nn À)];show(hf c aI).1
 done:=by
  show`k;obtain⟨⟨old,s1⟩,⟨f0,f,ow,s2⟩,s3,s4,s5,s6⟩:=st;obtain⟨xs,ku,hlen⟩:=hg;obtain⟨È,rv,p,_⟩:=I.list ku;have hl:=rv.length;have hT:s.TypeIs (.ref e) "enumerate":=⟨_,s1,O⟩;unfold pyNext;show Ã (wpAny_attempt (wpAny_callSpecial?_slot (name:=Str.ofString "__next__") hT F.slot_enumerate_next (wpAny_call_entry F.slot_enumerate_next hT F.entry_enumerate_next ?_ (F.args_enumerate_next_1 _))));show wpAny _ _ (field (.ref e) 2>>=_) _ _ _;show Ã (wpAny_field s1 O (x:=.ref z) O ?_);show Ã (Bb s2<|Ex (t1:=false) (I.ok.hd hc) D.za ow s2 s3 s5 p.isList (by simp;lia) λh' x kp fR=>?_);obtain⟨o,ho,Lu⟩:=fR;show Ã (wpAny_isInstance (T:="StopIteration") (b:=true) ⟨o,ho,Lu⟩ isSubtype_stop (Ì ⟨O,?_⟩));show ů (t':=s.toks) [z,i1] I hf (λc aI=>?_) (λc o hn q=>kp c o (λr=>hn (by simp[r])) (λr=>hn (by simp[r])) q) (λq=>q) λc o q n=>?_;.simp only[List.mem_cons,List.not_mem_nil,or_false]at aI⊢;rcases aI with q|q<;>simp[q]
  .rw[n]at q;cases q
 self:=λ_ _ _ _ _ st h=>wpAny_pyIter_enum st.1.choose_spec h
theorem v7(z TI TO:Addr):Meets (Builtin.«enumerate.__new__» ⟨[.type "enumerate",.ref z],[]⟩) (λ_ R s=>IsZip s.heap z TI TO .none/\R (.ok (.ret (`g))) {s with heap:=s.heap.push {cls:=.type "enumerate",data:=.fields #[.none,.bool false,.ref z,rawInt 0,.none,.none]}}):=.of_wp λprog w A R s h=>by
  obtain⟨hp,g,d,tk,os⟩:=s;obtain⟨hz,h⟩:=h;have rq:=sub_enumerate;have dE:IsZip (Shared.heap ⟨hp,g,d,tk,os⟩) z TI TO .none:=hz;wp_walk;show wpAny_stack_any λst=>Ì ?_;split
  .rename_i c _ _ _ _ _;cases(c==Value.type "enumerate");.wp_walk using wpAny_pyIter_zip dE;show⟨_,O,h⟩
   .wp_walk using wpAny_pyIter_zip dE;show⟨_,O,h⟩
  .wp_walk using wpAny_pyIter_zip dE;show⟨_,O,h⟩
theorem wX{z TI TO:Addr}(hz:IsZip s.heap z TI TO .none)(h:∀h',IsEnum h' s.heap.objs.size z 0 .none->(∀c o,s.heap.get? c=some o->h'.get? c=some o)->Q (`g) `l):wpAny `a A (call (.type "enumerate") [.ref z]) Q E s:=by show callType_new F.called_enumerate á (F.typeCall_enumerate_1 _) (F.newCall_enumerate_1 _) (λobj=>F.args_object_init_2 obj _) F.entry_enumerate_new (v7 z TI TO) ⟨hz,?_⟩;have g:=Ģ s.heap (o:={cls:=.type "enumerate",data:=.fields #[.none,.bool false,.ref z,rawInt 0,.none,.none]}) O;show⟨⟨_,g,O⟩,h _ g λc o x=>ò _ x⟩
section
def iQ(K:Frag)(t:TA):TI:=λσ H R=>t σ H λvs H1=>∃a b xs ys,vs=[.ref a,.ref b]/\Ë K H1 a xs/\Ë K H1 b ys/\R (Itq K a b) H1
theorem pi_q{es:Qa4}{k:Nat}{tp:Pos}{p p2 pos nS:Pos}(hg:Gl X "enumerate")(hm:X.mg "enumerate"=none)(y7:Gl X "zip")(Vu:X.mg "zip"=none)(ha:PA X [a,b] ta)(h1:starEach [.Call (.Name "zip" p2) [a,b] [] nS] X.env=[(false,eval (.Call (.Name "zip" p2) [a,b] [] nS) X.env)]:=by rfl)(hs:starEach [a,b] X.env=[(false,eval a X.env),(false,eval b X.env)]:=by rfl)(tS:starEach [b] X.env=[(false,eval b X.env)]:=by rfl):PI X (.Tuple es k tp) (.Call (.Name "enumerate" p) [.Call (.Name "zip" p2) [a,b] [] nS] [] pos) (iQ X.K ta):=by
 intro Á s σ H R I h;show Call_ (iw I hg hm boot_enumerate (PyProof.Rows.callWith_type1 ?_ h1 O));rw[h1];show wpAny _ _ (spliced ((false,eval (.Call (.Name "zip" p2) [a,b] [] nS) X.env)::[])) _ _ s;apply Calls.spliced_cons;show Call_ (iw I y7 Vu boot_zip (PyProof.Rows.callWith_type1 (Û (ha nS Á s σ H _ I h) λus s1=>?_) (by rw[hs,tS]) (by rw[tS];rfl)));rintro⟨vs,H1,I1,r1,q1⟩;obtain⟨x,y,xs,ys,e,hx,hy,q⟩:=q1;subst e;obtain⟨u,v,rfl,ru,rv⟩:=Ŝ r1;cases ru;cases rv;obtain⟨È,_,p1,_⟩:=I1.list hx;obtain⟨LA,_,p3,_⟩:=I1.list hy;show ZT.call_zip_tt (t1:=false) (t2:=false) p1.isList p3.isList λh' z1 z2 z3 z4 z5 kp=>?_;apply Calls.spliced_nil;show wX (s:={s1 with heap:=h'}) z1 λh2 e1 l9=>?_;apply wpAny_pyIter_enum e1;have lx:x<s1.heap.objs.size:=by obtain⟨_,_,e,_⟩:=p1;show î e
 have ly:y<s1.heap.objs.size:=by obtain⟨_,_,e,_⟩:=p3;show î e
 have D:Ap x y s1.heap.objs.size (s1.heap.objs.size+1) (s1.heap.objs.size+2) (s1.heap.objs.size+3) (s1.heap.objs.size+4) h'.objs.size:=⟨lx,ly,ϰ _,ϰ _,ϰ _,ϰ _,î z1⟩;show⟨_,_,_,_,H1,O,I1.kept (t':=s1.toks) λb o q=>l9 _ _ (kp b o q),Mm D,⟨⟨_,e1⟩,⟨_,_,.inl O,l9 _ _ z1⟩,l9 _ _ z2,⟨_,_,l9 _ _ z3⟩,z4.at λo q=>l9 _ o q,z5.at λo q=>l9 _ o q⟩,λc hc=>?_,q⟩;have hle:s1.heap.objs.size<=c:=by have:=î z1;simp only[List.mem_cons,List.not_mem_nil,or_false]at hc;rcases hc with q|q|q|q|q|q<;>(rw[q];first|lia|show Zby (Nat.lt_of_le_of_lt (Nat.le_add_right _ 4) this))
 show I1.fpOk hle (I1.hok.fresh hle)
end
theorem for_q{K:Frag}{g:TG}{tb:TS}{D:œ}{σ:St}{H:Hp}(Pv:Nat->St->Hp->Prop)(he:xs.length=ys.length)(h0:Pv 0 σ H)(hl:∀i σ H,i<=xs.length->Pv i σ H->Ë K H a xs/\Ë K H b ys)(hs:∀i x y σ H T U,xs[i]?=some x->ys[i]?=some y->Pv i σ H->H T=none->H U=none->T≠U->g (.ref U) σ (upd (upd H T (.tup [x,y])) U (.tup [.int i,.ref T])) λay H2=>tb {D with nx:=Pv (i+1),ct:=Pv (i+1),bk:=D.nx} ay H2)(hd:∀σ H,Pv xs.length σ H->D.nx σ H):∃W:Nat->Nat->St->Hp->Prop,(∃m,W 0 m σ H)/\∀i m σ H,W i m σ H->((Itq K a b).stop i H/\D.nx σ H)\/((Itq K a b).go i H/\∃N,(∀af H',N af H'->∃m',m'<m/\W (i+1) m' af H')/\∀x H',(Itq K a b).yld i H x H'->g x σ H' λay H2=>tb {D with nx:=N,ct:=N,bk:=D.nx} ay H2):=by
 show⟨λi m σ H=>m=xs.length-i/\i<=xs.length/\Pv i σ H,⟨xs.length,by simp,Ė _,h0⟩,?_⟩;rintro i m σ H⟨rfl,hi,p⟩;obtain⟨q1,q2⟩:=hl i σ H hi p;by_cases ax:i<xs.length;.have nr:i<ys.length:=À;show .inr ⟨⟨xs,ys,xs[i],ys[i],q1,q2,by simp[ax],by simp[nr]⟩,Pv (i+1),λaf H' p'=>⟨xs.length-(i+1),À,O,ax,p'⟩,λv H' y=>?_⟩;obtain⟨T,U,nT,nU,tu,rfl,y⟩:=y;obtain⟨x,z,ex,ez,rfl⟩:=y xs ys q1 q2;show hs i x z σ H T U ex ez p nT nU tu
 .have e:i=xs.length:=À;subst e;show .inl ⟨⟨xs,q1,Ø _⟩,hd σ H p⟩
end L2.EZ
namespace L2.DI
open PySem PySem.Spec PyProof.Rows PySem.Calls PySem.W
section
theorem Df:typeLookup (.type "list") "keys"=pure none:=by rw[typeLookup_type,builtinLookup_eq_fast];kernel_rfl
theorem JB(hx:s.heap.get? a=some {cls:=.type "list",dict:=none,data:=.seq xs k,slots:=#[]})(hA:A.handled=none)(q:∀h' tk,(∀b o,s.heap.get? b=some o->h'.get? b=some o)->Q none {s with heap:=h',toks:=tk}):wpAny `a A (getAttr? (.ref a) "keys") Q E s:=by
 obtain⟨hp,g,d,tk,os⟩:=s;have hT:∀GY,(⟨hp,g,d,GY,os⟩:Shared).TypeIs (.ref a) "list":=λ_=>⟨_,hx,O⟩;have f3:=F.slot_list_getattribute.lookup;have f4:=F.slot_list_getattribute.bind (.ref a);have f5:=am_list_getattr_none;have f1:=sub_AttributeError;unfold getAttr? getAttrBy? getAttrBy;repeat(any_goals(first|assumption|exact hT _|((with_reducible show wpAny _ _ (call (Value.builtin "list.__getattribute__") _ _) _ _ _);refine call_meets F.slot_list_getattribute (hT _) am_entry_list_getattribute (F.args_list_getattribute_2 _ _) (meets_getattribute_miss_list a xs k #[] "keys" _ Df ž (by size_fits)) ⟨hx,hA,λh' GY e fR=>?_⟩)|wp_step))
 obtain⟨t',u',he⟩:=fR.there;show wpAny _ _ (getattributeRaised _ _ _ _ _ _ _) _ _ _;unfold getattributeRaised;repeat(any_goals(first|assumption|wp_step))
 show q _ _ fR.of.keeps
end
theorem tU:entryFor table "dict.update.loop"=some Builtin.«dict.update.loop»:=entryFor_of_tree (by kernel_rfl)
theorem jq:plainId "dict.update.loop"=true:=`j
section
variable{KK:Type}[DecidableEq KK]
end
section
variable{KK:Type}[DecidableEq KK]
end
section
theorem Mp(r:KT H Ä xs):∀x∈xs,H x.2.1=some (.tup (x.1.map kV)):=by induction r with|nil=>intro x hx;cases hx;|cons h _ ih=>
  intro x hx;rcases ļ.mp hx with z|z;.rw[z];rw[<-h.1];show h.2.1
  .exact ih x z
theorem wY{σ:L2.St}(I:`c):∀Ä(l:ø),(∀(j:Nat)kv,Ä[j]?=some kv->∃a b,l[j]?=some a/\H a=some (.tup [.ref b,kv.2])/\H b=some (.tup (kv.1.map kV)))->∃xs,KT H Ä xs/\∀(j:Nat)(a:Addr)(x:List Key×Addr×Value),l[j]?=some a->xs[j]?=some x->∃o n,s.heap.get? a=some o/\o.cls=.type "tuple"/\o.data=.seq #[.ref x.2.1,x.2.2] n
 |[],l,_=>⟨[],.nil,λj a x _ h=>by simp at h⟩|(k,v)::Ä,l,h=>by
  obtain⟨a,b,h1,h2,h3⟩:=h 0 (k,v) O;obtain⟨_,È,rv,o,ho,hc,c,hd⟩:=(I.hok a _ h2);obtain⟨u1,u2,rfl,r1,r2⟩:=Ŝ rv;cases r1;obtain⟨a',l,rfl⟩:∃b l',l=b::l':=by cases l with|nil=>simp at h1;|cons b l=>show⟨b,l,O⟩
  have e:a'=a:=by simpa using h1
  subst e;obtain⟨xs,kt,hr⟩:=wY I Ä l λj kv hj=>h (j+1) kv (by simpa using hj);refine⟨(k,b,u2)::xs,.cons ⟨O,h3,r2⟩ kt,λj a x ha hx=>?_⟩;cases j with|zero=>cases(show a'=a by simpa using ha);cases(show(k,b,u2)=x by simpa using hx);exact⟨o,c,ho,hc,hd⟩;|succ j=>show hr j a x (by simpa using ha) (by simpa using hx)
end
open PySem PySem.Spec PyProof.Rows PySem.Calls PySem.W L2
section
theorem call_listDT(hc:X.calm=true):cZ X (.type "list") (λxs H Q=>∃d Ä,xs=[.ref d]/\H d=some (.dT Ä)/\∀q(l:ø),H q=none->l.length=Ä.length->(∀(j:Nat)p,Ä[j]?=some p->∃b,l[j]?=some b/\H b=some (.tup (p.1.map kV)))->Q (.ref q) (upd H q (.lst (l.map V.ref)))):=by
 intro Á s σ H xs us Q I r h;obtain⟨d,Ä,rfl,hd,q⟩:=h;obtain⟨u,rfl,ru⟩:=ô r;cases ru;obtain⟨hz,lo,xs,kt,o,es,ep,g1,g2,g3,g4,g5⟩:=(show Ö X.prog X.w H s.heap d (.dT Ä)from I.hok _ _ hd);have kt:KT H Ä xs:=kt;have hsz:es.size=Ä.length:=jo kt g4;have lx:=kt.len;show PySem.W.kdl_call (Az lo g2 g3) (I.ok.hd hc) g1 (by rw[hsz];show hz) λh' tk y8 c' kp at' it=>?_;have hl:∀(j:Nat)(p:List Key×V),Ä[j]?=some p->∃b,(xs.map (·.2.1))[j]?=some b/\H b=some (.tup (p.1.map kV)):=λj p e=>by obtain⟨b,u,ex,eb⟩:=kt.get (k:=p.1) (v:=p.2) e;show⟨b,by rw[ì,ex];rfl,eb⟩
 have ev:y8.toList=(xs.map (·.2.1)).map Value.ref:=by
  show Zbw λj=>?_;by_cases hj:j<Ä.length
  .have iO:j<y8.toList.length:=by rw[Ğ,it.1,hsz];show hj
   obtain⟨e,he,hv⟩:=it.2 j _ (by rw[<-ϱ];show Ô iO);obtain⟨b,u,ex,eb⟩:=kt.get (k:=Ä[j].1) (v:=Ä[j].2) (Ô hj);rw[entry_at g4,ex]at he;cases he;rw[Ô iO,hv,ì,ì,ex];rfl
  .rw[η (by rw[Ğ,it.1,hsz];lia),η (by rw[Ï,Ï];lia)]
 have hn:H s.heap.objs.size=none:=I.hok.fresh (Ø _);show⟨`g,_,I.laid (t':=tk) kp (Ø _) (show Ö X.prog X.w _ h' _ (.lst ((xs.map (·.2.1)).map V.ref))from⟨by rw[Ï,Ï,lx];show hz,y8.toList,c',?_,at'⟩),O,q _ (xs.map (·.2.1)) hn (by rw[Ï,lx]) hl⟩;rw[ev];show lF _
end
section
variable{KK:Type}[DecidableEq KK]
def gq(xs:List (KK×Addr×Value)):List (KK×Addr×Value):=xs.foldl (λl x=>storedH l x.1 x.2.1 x.2.2) []
theorem jN(xs:List (KK×Addr×Value))(x:KK×Addr×Value):gq (xs++[x])=storedH (gq xs) x.1 x.2.1 x.2.2:=by unfold gq;rw[Zbj];rfl
theorem yK{y:KK×Addr×Value}(h:y∈storedH l k b u):(y.1=k/\y.2.1=b)\/∃x∈l,x.1=y.1/\x.2.1=y.2.1:=by
 unfold storedH at h;split at h;.obtain⟨x,hx,rfl⟩:=Ù.mp h;show .inr ⟨x,hx,?_⟩;unfold putAt;split<;>show⟨O,O⟩
 .rcases è.mp h with z|z;.exact .inr ⟨y,z,O,O⟩
  .rw[ĸ.mp z];show .inl ⟨O,O⟩
theorem wZ:∀{n:Nat}{xs:List (KK×Addr×Value)},xs.length=n->∀y∈gq xs,∃x∈xs,x.1=y.1/\x.2.1=y.2.1
 |0,xs,e,y,h=>by rw[List.eq_nil_of_length_eq_zero e]at h;cases h;|n+1,xs,e,y,h=>by
  have ne:xs≠[]:=λz=>by rw[z]at e;cases e
  rw[<-List.dropLast_concat_getLast ne]at h⊢;rw[jN]at h;rcases yK h with⟨a,b⟩|⟨x,hx,a,b⟩;.exact⟨xs.getLast ne,by simp,a.symm,b.symm⟩
  .obtain⟨z,hz,c,d⟩:=wZ (n:=n) (by rw[List.length_dropLast,e];rfl) x hx;show⟨z,by simp[hz],c.trans a,d.trans b⟩
theorem qx:∀{n:Nat}{xs:List (KK×Addr×Value)},xs.length=n->(gq xs).length<=n
 |0,xs,e=>by rw[List.eq_nil_of_length_eq_zero e];exact Ø _;|n+1,xs,e=>by
  have ne:xs≠[]:=λz=>by rw[z]at e;cases e
  rw[<-List.dropLast_concat_getLast ne,jN];have:=qx (n:=n) (xs:=xs.dropLast) (by rw[List.length_dropLast,e];rfl);unfold storedH;split;.rw[Ï];lia
  .rw[à];show _+1<=_;lia
variable{prog:Program}{w:World}{knd:HeapKind prog w KK}{s:Shared}{R:Result->Shared->Prop}{n I l:Addr}{xs:List (KK×Addr×Value)}{as:ø}{h₀:Heap}
theorem Mq(hh:A.handled=none)(hu:knd.room A.in1)(hz:xs.length<sizeLine)(mono:∀x∈xs,∀h,(∀c o,h₀.get? c=some o->h.get? c=some o)->knd.is h x.1 x.2.1)(eL:h₀.IsList l (as.map Value.ref).toArray)(la:as.length=xs.length)(eP:∀(j:Nat)a x,as[j]?=some a->xs[j]?=some x->∃o n,h₀.get? a=some o/\o.cls=.type "tuple"/\o.data=.seq #[.ref x.2.1,x.2.2] n)(nn:h₀.get? n=none)(nI:h₀.get? I=none)(Md:n≠I)(hR:∀h' tk,(∀c o,h₀.get? c=some o->h'.get? c=some o)->h'.DictOfH knd n (gq xs)->R (.ok (.ret .none)) {s with heap:=h',toks:=tk}):∀m i h tk,xs.length-i=m->i<=xs.length->h.IsListIter I l i->(∀c o,h₀.get? c=some o->h.get? c=some o)->h.DictOfH knd n (gq (xs.take i))->codeAny `a A (.builtin "dict.update.loop" ⟨[.ref n,.ref I,rawInt i,.none],[]⟩) R {s with heap:=h,toks:=tk}:=by
 have sI:∀{h h':Heap},Heap.ExtBut I h h'->(∀c o,h₀.get? c=some o->h.get? c=some o)->∀c o,h₀.get? c=some o->h'.get? c=some o:=λx k c o e=>x c o (λz=>by rw[z,nI]at e;cases e) (k c o e);have D5:∀(i:Nat),∀y∈gq (xs.take i),∀h:Heap,(∀c o,h₀.get? c=some o->h.get? c=some o)->knd.is h y.1 y.2.1:=λi y hy h k=>by obtain⟨x,hx,a,b⟩:=wZ O y hy;rw[<-a,<-b];show mono x (Zaz hx) h k
 intro m;induction m with|zero=>
  intro i h tk hm hi it kp dd;apply codeAny_builtin tU;rw[Around.under_plainId jq _];show wpAny `a A.in1 (pyNext (.ref I)>>=_) _ _ _;show Ã (wpAny_pyNext_list_end (s:={s with heap:=h,toks:=tk}) (A:=A.in1) hh it (eL.at λo e=>kp _ o e) (by rw[ŵ,η (by rw[Ï];lia)]) λh' x=>?_);have vb:h'.DictOfH knd n (gq xs):=by have mn:=D5 i;rw[θ À]at dd mn;obtain⟨o,es,ep,g1,g2,g3,g4,g5,g6⟩:=dd;show⟨o,es,ep,x _ _ Md g1,g2,g3,g4,λy hy=>mn y hy h' (sI x kp),g6⟩
  exact Ã (Ì (Ì (hR h' tk (sI x kp) vb)));|succ m ih=>
  intro i h tk hm hi it kp dd;have ax:i<xs.length:=À;have y9:i<as.length:=À;apply codeAny_builtin tU;rw[Around.under_plainId jq _];show wpAny `a A.in1 (pyNext (.ref I)>>=_) _ _ _;show Ã (wpAny_pyNext_list_item (s:={s with heap:=h,toks:=tk}) (A:=A.in1) (x:=.ref as[i]) it (eL.at λo e=>kp _ o e) (by rw[ŵ,ì,Ô y9];rfl) λaS it₁ sb=>?_);have kB:=sI sb.extBut kp;obtain⟨oT,_,eT,cT,dT⟩:=eP i as[i] xs[i] (Ô y9) (Ô ax);have eT:=kB _ _ eT;have ty:Shared.TypeIs {s with heap:=aS,toks:=tk} (.ref as[i]) "tuple":=⟨_,eT,cT⟩;have D6:aS.DictOfH knd n (gq (xs.take i)):=by obtain⟨o,es,ep,g1,g2,g3,g4,g5,g6⟩:=dd;show⟨o,es,ep,sb.extBut _ _ Md g1,g2,g3,g4,λy hy=>D5 i y hy aS kB,g6⟩
  show Ã (wpAny_holding (Ã (wpAny_tryCatch ?_)));unfold Builtin.Dict.pairItems;show Ã (wpAny_typeOf ty ?_);rw[Ê á];show Ã (wpAny_seqItems eT dT (Ì ?_));show wpAny `a A.in1 (holding [Value.ref xs[i].2.1,xs[i].2.2] (dictSet n (.ref xs[i].2.1) xs[i].2.2)) _ _ _;show wpAny_holding (wpAny_dictSet_heap (hsz:=by have:=qx (xs:=xs.take i) O;rw[ė]at this;lia) hu (mono _ (ĕ ax) aS kB) D6 λiN vi vj=>?_);have e2:storedH (gq (xs.take i)) xs[i].1 xs[i].2.1 xs[i].2.2=gq (xs.take (i+1)):=by rw[<-jN,ġ,Ô ax];rfl
  rw[e2]at vi;show Ì ⟨plainId_quiet jq _,?_⟩;have:=ih (i+1) iN (tk+knd.draws xs[i].1) À ax (it₁.at λo e=>vj.extBut _ _ (Ne.symm Md) e) (λc o e=>vj.extBut c o (λz=>by rw[z,nn]at e;cases e) (kB c o e)) vi;rw[show rawInt ((i+1:Nat):Int)=rawInt ((i:Int)+1)from O]at this;show this
end
section
variable{KK:Type}[DecidableEq KK]{knd:HeapKind prog w KK}{l:Addr}{xs:List (KK×Addr×Value)}{as:ø}
theorem Mr(hh:A.handled=none)(hu:knd.room A.in1.in1)(hz:xs.length<sizeLine)(mono:∀x∈xs,∀h,(∀c o,s.heap.get? c=some o->h.get? c=some o)->knd.is h x.1 x.2.1)(eL:s.heap.get? l=some {cls:=.type "list",dict:=none,data:=.seq (as.map Value.ref).toArray c,slots:=#[]})(la:as.length=xs.length)(eP:∀(j:Nat)a x,as[j]?=some a->xs[j]?=some x->∃o n,s.heap.get? a=some o/\o.cls=.type "tuple"/\o.data=.seq #[.ref x.2.1,x.2.2] n)(hQ:∀h' tk,(∀c o,s.heap.get? c=some o->h'.get? c=some o)->h'.DictOfH knd s.heap.objs.size (gq xs)->Q (`g) {s with heap:=h',toks:=tk}):wpAny `a A (call (.type "dict") [.ref l]) Q E s:=by apply callType_codes (Q₁:=λobj s₁=>obj=`g/\s₁={s with heap:=s.heap.push {cls:=.type "dict",data:=.dict #[]}}) F.kt_called_dict (F.kt_typeCall_dict_1 _) F.entry_dict_init (kt_code_dict_new _ ⟨O,O⟩);rintro obj s₁⟨rfl,rfl⟩;have dn:(s.heap.push {cls:=.type "dict",data:=.dict #[]}).DictOfH knd s.heap.objs.size []:=Heap.DictOfH.new s.heap;have nn:s.heap.get? s.heap.objs.size=none:=Heap.get?_none_of_le (Ø _);show⟨dn.typeIs,F.args_dict_init_2 _ _,?_⟩;have up:∀b o,s.heap.get? b=some o->(s.heap.push {cls:=.type "dict",data:=.dict #[]}).get? b=some o:=λb o e=>ò _ e;have zz:(s.heap.push {cls:=.type "dict",data:=.dict #[]}).objs.size=s.heap.objs.size+1:=Heap.size_push ..;generalize s.heap.push {cls:=.type "dict",data:=.dict #[]}=g at dn up zz⊢;unfold Builtin.«dict.__init__»;apply Ã;unfold Builtin.Dict.selfAndRest;show Ã (wpAny_notOrdered_dict dn.typeIs ?_);show wpAny `a A.in1.in1 (pure (s.heap.objs.size,[Value.ref l])) _ _ _;apply Ì;show wpAny `a A.in1.in1 (Builtin.Dict.updateFrom "dict.__init__" s.heap.objs.size (.ref l) [] .none) _ _ _;unfold Builtin.Dict.updateFrom;show Ã (wpAny_typeOf (s:={s with heap:=g}) (T:="list") ⟨_,up _ _ eL,O⟩ ?_);rw[Ê á];show Ã (JB (s:={s with heap:=g}) (A:=A.in1.in1) (up _ _ eL) hh λaS tk kp=>?_);simp only[Option.isNone_none,if_true];obtain⟨o,es,ep,d1,d2,d3,d4,d5,d6⟩:=dn;have RZ:=kp _ _ d1;have ln:s.heap.objs.size<aS.objs.size:=î RZ;have hl:aS.IsList l (as.map Value.ref).toArray:=⟨_,kp _ _ (up _ _ eL),O,_,O⟩;show Ã (wpAny_rule (Ã (wpAny_pyIter_list (s:={s with heap:=aS,toks:=tk}) hl (Ì ⟨plainId_quiet jq _,?_⟩))));show Mq (A:=A.in1) (s:=s) (h₀:=s.heap) hh hu hz mono ⟨_,eL,O,_,O⟩ la eP nn (Heap.get?_none_of_le (Zby ln)) (ĵ ln) (λh' GY k' dd=>⟨O,hQ h' GY k' dd⟩) xs.length 0 _ tk (Nat.sub_zero _) (Ė _) ⟨_,Ģ _ O,O,O⟩ (λc o e=>ò _ (kp _ _ (up _ _ e))) ⟨o,es,ep,ò _ RZ,d2,d3,d4,(λ_ hx=>nomatch hx),d6⟩
end
def putAll(ps:List (List Key×V)):List (List Key×V):=ps.foldl (λÄ p=>â Ä p.1 p.2) []
theorem putAll_snoc(ps:List (List Key×V))(p:List Key×V):putAll (ps++[p])=â (putAll ps) p.1 p.2:=by unfold putAll;rw[Zbj];rfl
section
variable{X:Cx}
theorem Gi(r:KT H ps xs):∀{a:List (List Key×V)}{x:List (List Key×Addr×Value)},KT H a x->KT H (ps.foldl (λÄ p=>â Ä p.1 p.2) a) (xs.foldl (λl x=>storedH l x.1 x.2.1 x.2.2) x):=by induction r with|nil=>exact λh=>h;|cons h _ ih=>show λg=>ih (by dsimp only;rw[<-h.1];show KT.put g _ h.2.1 h.2.2)
theorem call_dictD(hc:X.calm=true)(hu:X.A.units+64<cLine):cZ X (.type "dict") (λxs H Q=>∃(p:Addr)(l:ø)(Ä:List (List Key×V)),xs=[.ref p]/\H p=some (.lst (l.map V.ref))/\l.length=Ä.length/\Ä.length<sizeLine/\(∀(j:Nat)kv,Ä[j]?=some kv->∃a b,l[j]?=some a/\H a=some (.tup [.ref b,kv.2])/\H b=some (.tup (kv.1.map kV)))/\∀q,H q=none->q≠sysModules->Q (.ref q) (upd H q (.dT (putAll Ä)))):=by
 intro Á s σ H xs us Q I r h;obtain⟨p,l,Ä,rfl,hp,hl,hz,rows,q⟩:=h;obtain⟨u,rfl,ru⟩:=ô r;cases ru;obtain⟨z,È,n,rv,hlen,e⟩:=I.lstM hp;have ei:=mO rv;subst ei;obtain⟨xs,kt,hx⟩:=wY I Ä l rows;have zk:=kt.len;show Mr (knd:=tupleKind (aZ X.prog X.w)) (xs:=xs) (as:=l) (I.ok.hd hc) (show X.A.units+1+1<cLine by lia) À (λx LH g kg=>?_) e À hx λh' tk kp dd=>?_;.obtain⟨o,È,n,a1,a2,a3,a4⟩:=iB I.hok (Mp kt x LH);show⟨o,È,n,kg _ _ a1,a2,a3,a4⟩
 .have hn:H s.heap.objs.size=none:=I.hok.fresh (Ø _);have ns:s.heap.objs.size≠sysModules:=Ne.symm (ĵ I.big);have kf:KT H (putAll Ä) (gq xs):=Gi kt .nil;have fl:=qx (xs:=xs) O;obtain⟨o2,D0,D3,b1,b2,b3,b4,_,b6⟩:=dd;show⟨`g,_,I.laid (a:=s.heap.objs.size) (o:=.dT (putAll Ä)) (t':=tk) kp (Ø _) ⟨by rw[<-kf.len];lia,beq_eq_false_iff_ne.mpr ns,gq xs,kf.keeps λb ys e=>?_,o2,D0,D3,b1,b2,b3,b4,b6⟩,O,q _ hn ns⟩;rw[au (az e hn)];show e
end
end L2.DI
namespace K60
open PySem L2
def top(i:Nat):Stmt:=PySem.Challenge.pw_woolyears_k60_what_a_promise_moves.main.body.getD i (.Pass ⟨0,0,0,0⟩)
def dD(d:PyData):Bool:=uI d&&!uJ d
def items:PyData->Ż|.tuple ds=>ds|_=>[]
def ð:PyData->Int|.int i=>i|_=>0
def bH(d:PyData)(f m:Int):Bool:=uL d&&(decide (f<=(items d).length)&&decide (((items d).length:Int)<=m))
def bC(d:PyData)(n:Int):Bool:=bH d n n&&(items d).all dD
def tV(d:PyData):Bool:=bC d 3&&(items d).all λx=>decide (0<=ð x)&&decide (ð x<=999)
def jd(d:PyData):Bool:=bH d 1 20&&(items d).all tV
def at_(d:PyData)(i:Nat):Int:=ð ((items d).getD i .none)
def mR(a b c d e f:Int):Bool:=(decide (0<=a)&&decide (a<8))&&((decide (0<=b)&&decide (b<3))&&((decide (0<=c)&&(decide (c<=d)&&decide (d<=19)))&&((decide (1<=e)&&decide (e<=99))&&(decide (0<=f)&&decide (f<=1000000)))))
def je(d:PyData):Bool:=bC d 6&&mR (at_ d 0) (at_ d 1) (at_ d 2) (at_ d 3) (at_ d 4) (at_ d 5)
def fO(d:PyData):Bool:=bH d 0 10&&(items d).all je
theorem nd1(x:Str):([x]:Đ).Nodup:=by simp
theorem Gj(d:PyData):1<=sz d:=by cases d<;>simp[sz]
theorem v8:∀ds,ds.length<=ņ ds|[]=>Ė _|d::ds=>by have:=v8 ds;have:=Gj d;simp only[List.length_cons,ņ];lia
theorem v9:∀{ds:Ż}{d:PyData},d∈ds->sz d<=ņ ds
 |x::ds,d,h=>by
  simp only[ņ];rcases ļ.mp h with e|e;.rw[e];lia
  .have:=v9 e;lia
theorem lG(h:d∈ds)(hz:sz (.tuple ds)<=4000):sz d<=4000:=by have:=v9 h;simp only[sz]at hz;lia
theorem gr(r:Ð S H xs ds)(hz:sz (.tuple ds)<=4000):xs.length<sizeLine:=by have:=v8 ds;have:=r.length;simp only[sz]at hz;rw[sizeLine_eq];lia
def Ŗ(f:PyData->Bool):Sp:=λvs H Q _=>∃S v d,vs=[v]/\Ü S H v d/\sz d<=4000/\∀H',Â H H'->Q (.bl (f d)) H'
inductive Z0m(f:PyData->Int->Bool)(vs:List V)(H:Hp)(Q:VK):Prop|mk:∀S v d n,(vs=[v,.int n])->(Ü S H v d)->(sz d<=4000)->(∀H',Â H H'->Q (.bl (f d n)) H')->Z0m f vs H Q
def JC(f:PyData->Int->Bool):Sp:=λvs H Q _=>Z0m f vs H Q
def qy(f:PyData->Int->Int->Bool):Sp:=λvs H Q _=>∃S v d n m,vs=[v,.int n,.int m]/\Ü S H v d/\sz d<=4000/\∀H',Â H H'->Q (.bl (f d n m)) H'
structure Mg(mg:UW):Prop where
 isinstance:mg "isinstance"=none
 int:mg "int"=none
 bool:mg "bool"=none
 tuple:mg "tuple"=none
 len:mg "len"=none
 all:mg "all"=none
theorem Δ:bootBuiltins "int"=some (.type "int"):=`j
theorem Ϫ:bootBuiltins "bool"=some (.type "bool"):=`j
theorem å:bootBuiltins "tuple"=some (.type "tuple"):=`j
theorem Ą:bootBuiltins "isinstance"=some (.builtin "isinstance"):=`j
theorem ā:bootBuiltins "all"=some (.builtin "all"):=`j
theorem dM(f:PyData->Bool)(iA:σ[i]?=some (some (.ref a)))(ea:H a=some (.tup xs))(r:Ð S H xs ds)(hl:xs.length<sizeLine)(mS:∀v d H1 Q1,d∈ds->Â H H1->Ü S H1 v d->(∀H',Â H1 H'->Q1 (.bl (f d)) H')->te ((ħ σ src).set j (some v)) H1 Q1)(q:∀H',Â H H'->Q (.bl (ds.all f)) H'):tCB (λxs H Q=>∃(p:Addr)(bs:List Bool),xs=[.ref p]/\Ë K H p (bs.map V.bl)/\Q (.bl (bs.all id)) H) (sy (zP (KZ K (Ea i)) src (bu j) qZ te) Iz) σ H Q:=by
 show⟨_,iA,a,O,⟨xs,Ñ.of ea⟩,nG (j:=j) f ea r hl mS λH2 s2 D hD=>⟨D,ds.map f,O,?_,?_⟩⟩;.rw[<-wj];show Ë.of aa
 .rw[Eo];show q _ (s2.updR hD)
structure Nums(mg:UW):Prop where sorts:∃t,mg "SORTS"=some (.int 3 t)holders:∃t,mg "HOLDERS"=some (.int 8 t)year:∃t,mg "LAST_YEAR"=some (.int 19 t)clips:∃t,mg "MOST_CLIPS"=some (.int 20 t)proms:∃t,mg "MOST_PROMISES"=some (.int 10 t)wool:∃t,mg "MOST_WOOL"=some (.int 999 t)sacks:∃t,mg "MOST_SACKS"=some (.int 99 t)price:∃t,mg "MOST_PRICE"=some (.int 1000000 t)
theorem mU(h:bC d n=true):bH d n n=true/\∀x∈items d,dD x=true:=by unfold bC at h;rw[ŉ]at h;show⟨h.1,Ε.mp h.2⟩
theorem mV(h:Ü S H v d)(e:dD d=true):∃i,v=.int i/\d=.int i:=by cases h with|int i=>exact⟨i,O,O⟩;|_=>cases e
theorem lH{α:Type}{l:List α}(h:l.length=n+1):∃a t,l=a::t/\t.length=n:=by cases l with|nil=>cases h;|cons a t=>show⟨a,t,O,Nat.succ.inj h⟩
theorem Oq{α:Type}{l:List α}(h:l.length=5):∃a b c d e,l=[a,b,c,d,e]:=by obtain⟨a,l1,e1,h1⟩:=lH h;obtain⟨b,l2,e2,h2⟩:=lH h1;obtain⟨c,l3,e3,h3⟩:=lH h2;obtain⟨d,l4,e4,h4⟩:=lH h3;obtain⟨e,l5,e5,h5⟩:=lH h4;show⟨a,b,c,d,e,by rw[e1,e2,e3,e4,e5,Zb0.mp h5]⟩
theorem Ot{α:Type}{l:List α}(h:l.length=6):∃a b c d e f,l=[a,b,c,d,e,f]:=by obtain⟨a,l1,e1,h1⟩:=lH h;obtain⟨b,c,d,e,f,e2⟩:=Oq h1;show⟨a,b,c,d,e,f,by rw[e1,e2]⟩
theorem gZ(r:Ð S H xs (d::ds))(e:dD d=true):∃i t,xs=.int i::t/\d=.int i/\Ð S H t ds:=by cases r with|cons h1 r=>obtain⟨i,rfl,rfl⟩:=mV h1 e;show⟨i,_,O,O,r⟩
theorem qz(r:Ð S H xs (d::ds)):∃v t,xs=v::t/\Ü S H v d/\Ð S H t ds:=by cases r with|cons h1 r=>show⟨_,_,O,h1,r⟩
theorem Dg(r:Ð S H xs ds)(hl:ds.length=3):∃v0 v1 v2 d0 d1 d2,xs=[v0,v1,v2]/\ds=[d0,d1,d2]/\Ü S H v0 d0/\Ü S H v1 d1/\Ü S H v2 d2:=by
 obtain⟨d0,l1,e1,h1⟩:=lH hl;obtain⟨d1,l2,e2,h2⟩:=lH h1;obtain⟨d2,l3,e3,h3⟩:=lH h2;have e:ds=[d0,d1,d2]:=by rw[e1,e2,e3,Zb0.mp h3]
 subst e;obtain⟨v0,t0,f0,i0,r0⟩:=qz r;obtain⟨v1,t1,f1,i1,r1⟩:=qz r0;obtain⟨v2,t2,f2,i2,r2⟩:=qz r1;cases r2;show⟨v0,v1,v2,d0,d1,d2,by rw[f0,f1,f2],rfl,i0,i1,i2⟩
theorem Gk(r:Ð S H xs ds)(hl:ds.length=6)(hw:∀x∈ds,dD x=true):∃i1 i2 i3 i4 i5 i6,xs=[.int i1,.int i2,.int i3,.int i4,.int i5,.int i6]/\ds=[.int i1,.int i2,.int i3,.int i4,.int i5,.int i6]:=by obtain⟨d1,d2,d3,d4,d5,d6,rfl⟩:=Ot hl;obtain⟨i1,t1,e1,rfl,r1⟩:=gZ r (hw _ Õ);obtain⟨i2,t2,e2,rfl,r2⟩:=gZ r1 (hw _ Õ);obtain⟨i3,t3,e3,rfl,r3⟩:=gZ r2 (hw _ Õ);obtain⟨i4,t4,e4,rfl,r4⟩:=gZ r3 (hw _ Õ);obtain⟨i5,t5,e5,rfl,r5⟩:=gZ r4 (hw _ Õ);obtain⟨i6,t6,e6,rfl,r6⟩:=gZ r5 (hw _ Õ);cases r6;show⟨i1,i2,i3,i4,i5,i6,by rw[e1,e2,e3,e4,e5,e6],rfl⟩
theorem Dh(h:bH (.tuple ds) n m=true):n<=(ds.length:Int)/\(ds.length:Int)<=m:=by have h:(true&&(decide (n<=(ds.length:Int))&&decide ((ds.length:Int)<=m)))=true:=h;rw[Zcd,ŉ]at h;show⟨ŕ h.1,ŕ h.2⟩
def í(P:Program)(w:World)(K:Frag)(mg:UW)(base:Heap)(k:Nat)(x:Str)(ps:Đ)(sp:Sp):Prop:=∃f fd,Ú P w K mg base ù k f fd ps sp/\mg x=some (.ref f)/\PySem.W.keepIn K (.ref f)=true/\Ŕ K fd ps []
theorem aJ{p pos:Pos}(c:í X.prog X.w X.K X.mg X.base j x ps sp)(hr:ą k X.A)(ha:PA X (e::es) t)(Lm:j<=k:=by decide)(hg:Gl X x:=by show O)(xh:Qab x:=by decide)(he:Qa9 X e es:=by rfl)(ub:Qaa X pos es:=by rfl):PE X (.Call (.Name x p) (e::es) [] pos) (Kc sp [] E0 t):=by obtain⟨f,fd,F,hm,hk,hb⟩:=c;show IV F (hr.mono Lm) hg hm hk hb .nil Nx ha xh he ub
theorem sc1:Å ["thing"] ["thing"] (aG (top 10)):=ċ
theorem xf(F:ü K "is_whole" "is_whole" (top 10) f fd)(T:Mg mg):Ú P w K mg base ù 1 f fd ["thing"] (Ŗ dD):=by refine F.oq sc1 λav A outer s H vs Q E hr h=>?_;obtain⟨S,v,d,rfl,th,hz,q⟩:=h;refine⟨_,aC (aV (cO (aM j5 O T.isinstance Ą (aO (pv 0) (aO (uq O T.int Δ (v:=.ty "int") O) aj))) (fJ (KQ (aM j5 O T.isinstance Ą (aO (pv 0) (aO (uq O T.bool Ϫ (v:=.ty "bool") O) aj))))))),?_⟩;refine⟨_,O,v,_,"int",uI d,O,th.ty,Jb d,_,O,?_⟩;have fin:=q H (Â.refl H);unfold dD at fin;cases e:uI d with|false=>rw[e]at fin;exact bG fin;|true=>rw[e]at fin;show bM ⟨_,O,v,_,"bool",uJ d,O,th.ty,En d,_,O,fin⟩
theorem sc2:Å ["thing","fewest","most"] ["thing","fewest","most"] (aG (top 12)):=ċ
theorem qC(F:ü K "is_tuple_of" "is_tuple_of" (top 12) f fd)(T:Mg mg):Ú P w K mg base ù 1 f fd ["thing","fewest","most"] (qy bH):=by refine F.oq sc2 λav A outer s H vs Q E hr h=>?_;obtain⟨S,v,d,n,m,rfl,th,hz,q⟩:=h;refine⟨_,aC (aV (cO (aM j5 O T.isinstance Ą (aO (pv 0) (aO (uq O T.tuple å (v:=.ty "tuple") O) aj))) (fJ (d9 cN cN (pv 1) (aM cj O T.len PySem.boot_len (aO (pv 0) aj)) (pv 2))))),?_⟩;refine⟨_,O,v,_,"tuple",uL d,O,th.ty,Jc d,_,O,?_⟩;have fin:=q H (Â.refl H);unfold bH at fin;cases e:uL d with|false=>rw[e]at fin;exact bG fin;|true=>rw[e]at fin;apply bM;cases th with
 |@tup a xs ds ea r=>have hl:=r.length;refine⟨_,O,_,O,a,xs,O,.inr (Ñ.of ea),_,_,O,O,_,O,?_⟩;rw[hl];have fin:Q (.bl (true&&(decide (n<=(ds.length:Int))&&decide ((ds.length:Int)<=m)))) H:=fin;cases e1:decide (n<=(ds.length:Int))with|false=>rw[e1]at fin;exact bG fin;|true=>rw[e1]at fin;show bM ⟨_,O,_,_,O,O,fin⟩
  |_=>cases e
theorem sc3:Å ["thing","many"] ["thing","many"] (aG (top 13)):=ċ
theorem rN(F:ü K "are_wholes" "are_wholes" (top 13) f fd)(T:Mg mg)(c1:í P w K mg base 1 "is_whole" ["thing"] (Ŗ dD))(c2:í P w K mg base 1 "is_tuple_of" ["thing","fewest","most"] (qy bH)):Ú P w K mg base ù 2 f fd ["thing","many"] (JC bC):=by
 show F.oq sc3 `b;obtain⟨S,v,d,n,rfl,th,hz,q⟩:=h;show⟨_,aC (aV (cO (aJ c2 hr (aO (pv 0) (aO (pv 1) (aO (pv 1) aj)))) (fJ (aM (gh rfl) rfl T.all ā (aO (bI ["part"] [none] rfl (iz (pv 0)) (λC fp Á s₂ Í=>⟨bw (i:=0) (nd1 _) rfl (Or.inl rfl),bD,aJ c1 hr (aO (pv 0) aj)⟩) (λC=>trivial) ⟨rfl,rfl,rfl,rfl⟩) aj))))),?_⟩;show⟨_,rfl,_,rfl,_,rfl,S,v,d,n,n,rfl,th,hz,λH1 s1=>⟨_,rfl,?_⟩⟩;have f7:=th.same s1
 cases e:bH d n n with|false=>apply bG;have fin:=q H1 s1;unfold bC at fin;rw[e]at fin;exact fin;|true=>apply bM;cases f7 with|@tup a xs ds ea r=>
   have ew:bC (.tuple ds) n=ds.all dD:=by unfold bC;rw[e];rfl
   refine dM dD rfl ea r (gr r hz) (λv d H2 Q2 hm s2 t2 q2=>⟨_,rfl,S,v,d,rfl,t2,lG hm hz,q2⟩) λH2 s2=>?_;rw[<-ew];exact q _ (s1.trans s2);|_=>cases e
theorem Z0c:Å ["thing"] ["thing"] (aG (top 24)):=ċ
theorem yL(F:ü K "is_clip" "is_clip" (top 24) f fd)(T:Mg mg)(N:Nums mg)(c1:í P w K mg base 2 "are_wholes" ["thing","many"] (JC bC)):Ú P w K mg base ù 3 f fd ["thing"] (Ŗ tV):=by refine F.oq Z0c λav A outer s H vs Q E hr h=>?_;obtain⟨S,v,d,rfl,th,hz,q⟩:=h;obtain⟨t3,e3⟩:=N.sorts;obtain⟨t9,e9⟩:=N.wool;refine⟨_,aC (aV (cO (aJ c1 hr (aO (pv 0) (aO (cC (v:=.int 3) O e3 ⟨_,O⟩) aj))) (fJ (aM (gh O) O T.all ā (aO (bI ["sacks"] [none] O (iz (pv 0)) (λC fp Á s₂ Í=>⟨bw (i:=0) (nd1 _) O (Or.inl O),bD,d9 cN cN aA (pv 0) (cC (v:=.int 999) O e9 ⟨_,O⟩)⟩) (λC=>trivial) ⟨O,O,O,O⟩) aj))))),?_⟩;refine⟨_,O,S,v,d,3,O,th,hz,λH1 s1=>⟨_,O,?_⟩⟩;have f7:=th.same s1;have fin:=λH'(s:Â H H')=>q H' s;unfold tV at fin;cases e:bC d 3 with|false=>rw[e]at fin;exact bG (fin _ s1);|true=>rw[e]at fin;apply bM;obtain⟨e1,e2⟩:=mU e;cases f7 with
 |@tup a xs ds ea r=>refine dM (λx=>decide (0<=ð x)&&decide (ð x<=999)) O ea r (gr r hz) (λv d H2 Q2 hm s2 t2 q2=>?_) λH2 s2=>fin _ (s1.trans s2);obtain⟨i,rfl,rfl⟩:=mV t2 (e2 d hm);refine⟨_,O,_,_,O,O,_,O,?_⟩;have q3:=q2 H2 (Â.refl _);show if decide ((0:Int)<=i)=true then _ else _;cases e5:decide ((0:Int)<=i)with|false=>apply bG;have q3:Q2 (.bl (decide ((0:Int)<=i)&&decide (i<=999))) H2:=q3;rw[e5]at q3;exact q3;|true=>show bM ⟨_,_,O,O,?_⟩;have q3:Q2 (.bl (decide ((0:Int)<=i)&&decide (i<=999))) H2:=q3;rw[e5]at q3;show q3
  |_=>cases e1
theorem ſ:Å ["thing"] ["thing"] (aG (top 25)):=ċ
theorem vd(F:ü K "are_clips" "are_clips" (top 25) f fd)(T:Mg mg)(N:Nums mg)(c1:í P w K mg base 3 "is_clip" ["thing"] (Ŗ tV))(c2:í P w K mg base 1 "is_tuple_of" ["thing","fewest","most"] (qy bH)):Ú P w K mg base ù 4 f fd ["thing"] (Ŗ jd):=by refine F.oq ſ λav A outer s H vs Q E hr h=>?_;obtain⟨S,v,d,rfl,th,hz,q⟩:=h;obtain⟨t3,e3⟩:=N.clips;refine⟨_,aC (aV (cO (aJ c2 hr (aO (pv 0) (aO aA (aO (cC (v:=.int 20) O e3 ⟨_,O⟩) aj)))) (fJ (aM (gh O) O T.all ā (aO (bI ["part"] [none] O (iz (pv 0)) (λC fp Á s₂ Í=>⟨bw (i:=0) (nd1 _) O (Or.inl O),bD,aJ c1 hr (aO (pv 0) aj)⟩) (λC=>trivial) ⟨O,O,O,O⟩) aj))))),?_⟩;refine⟨_,O,S,v,d,1,20,O,th,hz,λH1 s1=>⟨_,O,?_⟩⟩;have f7:=th.same s1;have fin:=λH'(s:Â H H')=>q H' s;unfold jd at fin;cases e:bH d 1 20 with|false=>rw[e]at fin;exact bG (fin _ s1);|true=>rw[e]at fin;apply bM;cases f7 with|@tup a xs ds ea r=>exact dM tV O ea r (gr r hz) (λv d H2 Q2 hm s2 t2 q2=>⟨_,O,S,v,d,O,t2,lG hm hz,q2⟩) λH2 s2=>fin _ (s1.trans s2);|_=>cases e
theorem Ų:Å ["thing","holder","sort","first","last","sacks","price"] ["thing"] (aG (top 26)):=ċ
theorem rO(F:ü K "is_promise" "is_promise" (top 26) f fd)(T:Mg mg)(N:Nums mg)(c1:í P w K mg base 2 "are_wholes" ["thing","many"] (JC bC)):Ú P w K mg base ù 3 f fd ["thing"] (Ŗ je):=by
 show F.oq Ų `b;obtain⟨S,v,d,rfl,th,hz,q⟩:=h;obtain⟨t1,e1⟩:=N.holders;obtain⟨t2,e2⟩:=N.sorts;obtain⟨t3,e3⟩:=N.year;obtain⟨t4,e4⟩:=N.sacks;obtain⟨t5,e5⟩:=N.price;show⟨_,aB (cM (dY (fZ (aJ c1 hr (aO (pv 0) (aO aA aj))))) (aC (aV oU)) bz) (aB (cP (pv 0) (bF O (ao (Ó 1 Ų.nd) (ao (Ó 2 Ų.nd) (ao (Ó 3 Ų.nd) (ao (Ó 4 Ų.nd) (ao (Ó 5 Ų.nd) (ao (Ó 6 Ų.nd) aR)))))))) (aC (aV (cO (d9 cN jA aA (pv 1) (cC (v:=.int 8) O e1 `i)) (cO (d9 cN jA aA (pv 2) (cC (v:=.int 3) O e2 `i)) (cO (CK cN cN cN aA (pv 3) (pv 4) (cC (v:=.int 19) O e3 `i)) (cO (d9 cN cN aA (pv 5) (cC (v:=.int 99) O e4 `i)) (fJ (d9 cN cN aA (pv 6) (cC (v:=.int 1000000) O e5 `i)))))))))),?_⟩
 refine⟨_,O,S,v,d,6,O,th,hz,λH1 s1=>⟨_,O,?_⟩⟩;have f7:=th.same s1;have fin:=λH'(s:Â H H')=>q H' s;unfold je at fin;cases e:bC d 6 with|false=>rw[e]at fin;exact bM (fin _ s1);|true=>rw[e]at fin;apply bG;obtain⟨z1,z2⟩:=mU e;cases f7 with|@tup a xs ds ea r=>
   have hl:ds.length=6:=by have:=Dh z1;lia
   obtain⟨i1,i2,i3,i4,i5,i6,rfl,rfl⟩:=Gk r hl z2;refine⟨_,O,a,_,O,Ñ.of ea,O,_,_,O,_,_,O,_,_,O,_,_,O,_,_,O,_,_,O,O,?_⟩;apply j7 (cW iH (gC O) iH) (λ_=>j7 (cW iH (gC O) iH) λ_=>j7 (CN iH (gC O) (gC O) iH) λ_=>j7 (cW iH (gC O) iH) λ_=>cW iH (gC O) iH);exact fin H1 s1;|_=>cases z1
theorem Qm:Å ["thing"] ["thing"] (aG (top 27)):=ċ
theorem nR(F:ü K "are_promises" "are_promises" (top 27) f fd)(T:Mg mg)(N:Nums mg)(c1:í P w K mg base 3 "is_promise" ["thing"] (Ŗ je))(c2:í P w K mg base 1 "is_tuple_of" ["thing","fewest","most"] (qy bH)):Ú P w K mg base ù 4 f fd ["thing"] (Ŗ fO):=by refine F.oq Qm λav A outer s H vs Q E hr h=>?_;obtain⟨S,v,d,rfl,th,hz,q⟩:=h;obtain⟨t3,e3⟩:=N.proms;refine⟨_,aC (aV (cO (aJ c2 hr (aO (pv 0) (aO aA (aO (cC (v:=.int 10) O e3 ⟨_,O⟩) aj)))) (fJ (aM (gh O) O T.all ā (aO (bI ["part"] [none] O (iz (pv 0)) (λC fp Á s₂ Í=>⟨bw (i:=0) (nd1 _) O (Or.inl O),bD,aJ c1 hr (aO (pv 0) aj)⟩) (λC=>trivial) ⟨O,O,O,O⟩) aj))))),?_⟩;refine⟨_,O,S,v,d,0,10,O,th,hz,λH1 s1=>⟨_,O,?_⟩⟩;have f7:=th.same s1;have fin:=λH'(s:Â H H')=>q H' s;unfold fO at fin;cases e:bH d 0 10 with|false=>rw[e]at fin;exact bG (fin _ s1);|true=>rw[e]at fin;apply bM;cases f7 with|@tup a xs ds ea r=>exact dM je O ea r (gr r hz) (λv d H2 Q2 hm s2 t2 q2=>⟨_,O,S,v,d,O,t2,lG hm hz,q2⟩) λH2 s2=>fin _ (s1.trans s2);|_=>cases e
def xj(d:PyData)(lo hi:Int):Bool:=dD d&&(decide (lo<=ð d)&&decide (ð d<=hi))
theorem qD:bootBuiltins "repr"=some (.builtin "repr"):=`j
theorem Qn:Å [AAm,AAt] [AAm,AAt] (aG (top 61)):=ċ
theorem lJ(hK:X.K=K):IxR X (Nt K):=by subst hK;show cD
theorem Z02:bootBuiltins "min"=some (.builtin "min"):=`j
theorem room_un(hr:ą k A):A.units<cLine:=by have:=hr.un;lia
theorem yM:bootBuiltins "list"=some (.type "list"):=`j
def rowD(r:VV):PyData:=.tuple (r.map .int)
def bU(rs:UV):PyData:=.tuple (rs.map rowD)
def fl(r:VV)(i:Nat):Int:=r.getD i 0
def okP(r:VV):Prop:=r.length=6/\(0<=fl r 0/\fl r 0<8)/\(0<=fl r 1/\fl r 1<3)/\(0<=fl r 2/\fl r 2<=fl r 3/\fl r 3<=19)/\(1<=fl r 4/\fl r 4<=99)/\(0<=fl r 5/\fl r 5<=1000000)
def fP(d:PyData):Bool:=bH d 0 12&&(items d).all λx=>bC x 5
def ä(d:PyData):UV:=(items d).map λx=>(items x).map ð
theorem Gm:∀{ds:Ż},(∀x∈ds,dD x=true)->ds=(ds.map ð).map PyData.int|[],_=>rfl|d::ds,h=>by rw[Ľ,Ľ,<-Gm λx hx=>h x (ώ _ hx)];have:=h d Ζ;cases d with|int i=>rfl;|_=>cases this
theorem jO{n:Nat}(h:bC x n=true):x=rowD ((items x).map ð)/\((items x).map ð).length=n:=by obtain⟨h1,h2⟩:=mU h;unfold bH at h1;rw[ŉ,ŉ,Ĥ,Ĥ]at h1;obtain⟨ht,fI,gu⟩:=h1;cases x with|tuple ds=>have fI:(n:Int)<=ds.length:=fI;have gu:(ds.length:Int)<=n:=gu;refine⟨?_,by show(ds.map ð).length=n;rw[Ï];lia⟩;exact congrArg PyData.tuple (Gm h2);|_=>cases ht
theorem Be{ds:Ż}{n:Nat}(h:∀x∈ds,bC x n=true):ds=(ds.map λx=>(items x).map ð).map rowD:=by induction ds with|nil=>rfl;|cons d ds ih=>rw[Ľ,Ľ,<-ih λx hx=>h x (ώ _ hx),<-(jO (h d Ζ)).1]
theorem mW{f m:Int}(h:bH d f m=true):∃ds,d=.tuple ds/\f<=ds.length/\(ds.length:Int)<=m:=by unfold bH at h;rw[ŉ,ŉ,Ĥ,Ĥ]at h;cases d with|tuple ds=>exact⟨ds,O,h.2⟩;|_=>cases h.1
theorem tW(r:VV)(i:Nat)(h:i<r.length):at_ (rowD r) i=fl r i:=by show ð ((r.map PyData.int).getD i .none)=r.getD i 0;rw[ě,ě,ì,Ô h];rfl
theorem yN(h:fO d=true):d=bU (ä d)/\(ä d).length<=10/\∀r∈ä d,okP r:=by
 unfold fO at h;rw[ŉ]at h;obtain⟨ds,rfl,_,hl⟩:=mW h.1;have h2:∀x∈ds,je x=true:=Ε.mp h.2;have h3:∀x∈ds,bC x 6=true:=λx hx=>by have:=h2 x hx;unfold je at this;rw[ŉ]at this;show this.1
 show⟨congrArg PyData.tuple (Be (n:=6) h3),by show(ds.map _).length<=10;rw[Ï];lia,λr hr=>?_⟩;obtain⟨x,hx,rfl⟩:=Ù.mp hr;have hx:x∈ds:=hx;obtain⟨e,Vv⟩:=jO (n:=6) (h3 x hx);have:=h2 x hx;unfold je at this;rw[ŉ]at this;have p:=this.2;rw[e]at p;rw[tW _ 0 À,tW _ 1 À,tW _ 2 À,tW _ 3 À,tW _ 4 À,tW _ 5 À]at p;unfold mR at p;simp only[Bool.and_eq_true,Ĥ]at p;obtain⟨⟨a1,a2⟩,⟨b1,b2⟩,⟨c1,c2,c3⟩,⟨d1,d2⟩,e1,e2⟩:=p;show⟨Vv,⟨a1,a2⟩,⟨b1,b2⟩,⟨c1,c2,c3⟩,⟨d1,d2⟩,e1,e2⟩
theorem yO(h:fP d=true):d=bU (ä d)/\(ä d).length<=12/\∀r∈ä d,r.length=5:=by unfold fP at h;rw[ŉ]at h;obtain⟨ds,rfl,_,hl⟩:=mW h.1;have h3:∀x∈ds,bC x 5=true:=Ε.mp h.2;show⟨congrArg PyData.tuple (Be (n:=5) h3),by show(ds.map _).length<=12;rw[Ï];lia,λr hr=>?_⟩;obtain⟨x,hx,rfl⟩:=Ù.mp hr;show(jO (n:=5) (h3 x hx)).2
structure RowsAt(H:Hp)(a:Addr)(xs:List V)(rs:UV):Prop where
 e:H a=some (.tup xs)l:xs.length=rs.length
 g:∀(i:Nat)(r:VV),rs[i]?=some r->∃t,xs[i]?=some (V.ref t)/\H t=some (.tup (r.map V.int))
theorem RowsAt.keep(h:RowsAt H a xs rs)(k:∀b l,H b=some (.tup l)->H' b=some (.tup l)):RowsAt H' a xs rs:=⟨k _ _ h.e,h.l,λi r e=>by obtain⟨t,e1,e2⟩:=h.g i r e;show⟨t,e1,k _ _ e2⟩⟩
theorem RowsAt.same(h:RowsAt H a xs rs)(s:Â H H'):RowsAt H' a xs rs:=h.keep λ_ _ e=>s _ _ e
theorem xm:∀{r:VV}{xs:List V},Ð S H xs (r.map .int)->xs=r.map V.int|[],_,.nil=>rfl|i::r,_,.cons h t=>by cases h;rw[xm (r:=r) t];rfl
theorem Ms(h:Ü S H v (rowD r)):∃t,v=V.ref t/\H t=some (.tup (r.map V.int)):=by generalize hd:rowD r=d at h;cases h with|@tup a xs ds e t=>injection hd with hd;subst hd;rw[xm t]at e;exact⟨a,O,e⟩;|_=>cases hd
theorem th_rows(h:Ü S H v (bU rs)):∃a xs,v=.ref a/\RowsAt H a xs rs:=by generalize hd:bU rs=d at h;cases h with|@tup a xs ds e t=>injection hd with hd;subst hd;refine⟨a,xs,O,e,by rw[t.length,Ï],λi r hr=>?_⟩;have hi:i<rs.length:=(ĉ.mp hr).1;have hx:xs[i]?=some (xs[i]'(by rw[t.length,Ï];exact hi)):=Ô _;obtain⟨d,h1,h2⟩:=t.get hx;rw[ì,hr]at h1;injection h1 with h1;subst h1;obtain⟨t',e1,e2⟩:=Ms h2;exact⟨t',by rw[hx,e1],e2⟩;|_=>cases hd
theorem RowsAt.th:∀{rs:UV}{xs:List V},RowsAt H a xs rs->Ü (λ_=>False) H (.ref a) (bU rs):=by
 intro rs xs h;refine .tup h.e ?_;have gen:∀(rs:UV)(xs:List V),xs.length=rs.length->(∀(i:Nat)(r:VV),rs[i]?=some r->∃t,xs[i]?=some (V.ref t)/\H t=some (.tup (r.map V.int)))->Ð (λ_=>False) H xs (rs.map rowD):=by intro rs;induction rs with|nil=>intro xs hl _;have:xs=[]:=Zb0.mp hl;subst this;exact .nil;|cons r rs ih=>intro xs hl hg;cases xs with|nil=>simp at hl;|cons x xs=>
    obtain⟨t,e1,e2⟩:=hg 0 r O;have e1:x=.ref t:=by simpa using e1
    subst e1;show .cons (.tup e2 (Ð.ints r)) (ih xs (by simpa using hl) λi r' e=>hg (i+1) r' (by simpa using e))
 show gen rs xs h.l h.g
def ie(L:VV)(i:Int)(v:Int):VV:=L.set i.toNat (L.getD i.toNat 0+v)
def ñ(n y:Int)(L:VV)(s:VV):VV:=if fl s 0=n/\fl s 4<=y then ie (ie L (fl s 1) (-(fl s 3))) (fl s 2) (fl s 3)else L
def Ĩ(p:VV):VV:=(List.replicate 8 0).set (fl p 0).toNat (fl p 4)
def bV(p:VV)(ss:UV)(n y:Int):VV:=if fl p 2<=y/\y<=fl p 3 then ss.foldl (ñ n y) (Ĩ p)else List.replicate 8 0
def nW(ps:UV)(s:VV):VV:=ps.getD (fl s 0).toNat []
def rP(ps:UV)(s:VV):Bool:=(decide (0<=fl s 0)&&decide (fl s 0<ps.length))&&((decide (0<=fl s 1)&&decide (fl s 1<8))&&((decide (0<=fl s 2)&&decide (fl s 2<8))&&((!decide (fl s 1=fl s 2))&&((decide (1<=fl s 3)&&decide (fl s 3<=99))&&(decide (fl (nW ps s) 2<=fl s 4)&&decide (fl s 4<=fl (nW ps s) 3))))))
def years(a b:Int):VV:=(List.range (b+1-a).toNat).map λ(i:Nat)=>a+i
def cG(ps ss:UV)(s:VV):Bool:=rP ps s&&(years (fl s 4) (fl (nW ps s) 3)).all λy=>decide (fl s 3<=(bV (nW ps s) ss (fl s 0) y).getD (fl s 1).toNat 0)
def un(ps ss:UV):Option Nat:=(List.range ss.length).find? λi=>!cG ps (ss.take i) (ss.getD i [])
theorem jf(L:VV)(i v:Int):(ie L i v).length=L.length:=by unfold ie;rw[Zbt]
theorem Di(n y:Int)(L s:VV):(ñ n y L s).length=L.length:=by
 unfold ñ;split;.rw[jf,jf]
 .rfl
theorem eZ(p:VV)(ss:UV)(n y:Int):(bV p ss n y).length=8:=by
 unfold bV;split
 .have:∀(ss:UV)(L:VV),L.length=8->(ss.foldl (ñ n y) L).length=8:=by intro ss;induction ss with|nil=>exact λL h=>h;|cons s ss ih=>show λL h=>ih _ (by rw[Di];show h)
  show this ss _ (by unfold Ĩ;rw[Zbt,List.length_replicate])
 .rw[List.length_replicate]
theorem jr:KY X (λx y H Q=>Xe4 λp xs i v=>Xa6 (x=.ref p) (y=.int i) (Ë X.K H p xs) (0<=i) (xs[i.toNat]?=some v) (Q v H)):=by intro Á s σ H x y v u Q I rx ry h;obtain⟨p,xs,i,z,rfl,rfl,hq,h0,he,q⟩:=h;cases rx;obtain⟨t,rfl⟩:=ry;obtain⟨È,r,pl,hz⟩:=I.list hq;obtain⟨w,ew,dS⟩:=r.get he;have hn:=mq;have hl:=r.length;have hi:=(ĉ.mp he).1;show PySem.wpAny_getItem_list pl.isList h0 À (by simpa using ew) ⟨z,H,I,dS,q⟩
theorem six_row(h:p.length=6):p=[fl p 0,fl p 1,fl p 2,fl p 3,fl p 4,fl p 5]:=by obtain⟨a,b,c,d,e,f,rfl⟩:=Ot h;rfl
theorem lK(h:p.length=5):p=[fl p 0,fl p 1,fl p 2,fl p 3,fl p 4]:=by obtain⟨a,b,c,d,e,rfl⟩:=Oq h;rfl
theorem vf(L:VV)(i:Nat)(v:Int):(L.map V.int).set i (.int v)=(L.set i v).map V.int:=by rw[List.map_set]
theorem vg{L:VV}(h:i<L.length):(L.map V.int)[i]?=some (.int (L.getD i 0)):=by rw[ì,Ô h,ě,Ô h];rfl
theorem Bf{n:Nat}{i:Int}(h0:0<=i)(h1:i<n):ϧ n i=some i.toNat:=by unfold ϧ;rw[Ê h0,Ê h1]
def okS(s:VV):Prop:=s.length=5/\(0<=fl s 1/\fl s 1<8)/\(0<=fl s 2/\fl s 2<8)
inductive Ϙ(vs:List V)(H:Hp)(Q:VK):Prop|mk:∀ap xp ps ah xs ss n y,(vs=[.ref ap,.ref ah,.int n,.int y])->(RowsAt H ap xp ps)->(RowsAt H ah xs ss)->(0<=n)->(n<ps.length)->(okP (ps.getD n.toNat []))->(ss.length<=12)->((∀s∈ss,okS s))->(∀l H',Â H H'->H' l=some (.lst ((bV (ps.getD n.toNat []) ss n y).map V.int))->Q (.ref l) H')->Ϙ  vs H Q
def yP:Sp:=λvs H Q _=>Ϙ  vs H Q
structure MS(mg:UW):Prop where sales:∃t,mg "MOST_SALES"=some (.int 12 t)
theorem Ou:Å ["thing"] ["thing"] (aG (top 28)):=ċ
theorem vh(F:ü K "are_sales" "are_sales" (top 28) f fd)(T:Mg mg)(N:MS mg)(c1:í P w K mg base 2 "are_wholes" ["thing","many"] (JC bC))(c2:í P w K mg base 1 "is_tuple_of" ["thing","fewest","most"] (qy bH)):Ú P w K mg base ù 3 f fd ["thing"] (Ŗ fP):=by refine F.oq Ou λav A outer s H vs Q E hr h=>?_;obtain⟨S,v,d,rfl,th,hz,q⟩:=h;obtain⟨t3,e3⟩:=N.sales;refine⟨_,aC (aV (cO (aJ c2 hr (aq (pv 0) (aq aA (aq (cC (v:=.int 12) O e3 ⟨_,O⟩) aj)))) (fJ (aM (gh O) O T.all ā (aq (bI ["part"] [none] O (iz (pv 0)) (λC fp Á s₂ Í=>⟨bw (i:=0) (nd1 _) O (Or.inl O),bD,aJ c1 hr (aq (pv 0) (aq aA aj))⟩) (λC=>trivial) ⟨O,O,O,O⟩) aj))))),?_⟩;refine⟨_,O,S,v,d,0,12,O,th,hz,λH1 s1=>⟨_,O,?_⟩⟩;have f7:=th.same s1;have fin:=λH'(s:Â H H')=>q H' s;unfold fP at fin;cases e:bH d 0 12 with|false=>rw[e]at fin;exact bG (fin _ s1);|true=>rw[e]at fin;apply bM;cases f7 with|@tup a xs ds ea r=>exact dM (λx=>bC x 5) O ea r (gr r hz) (λv d H2 Q2 hm s2 t2 q2=>⟨_,O,S,v,d,5,O,t2,lG hm hz,q2⟩) λH2 s2=>fin _ (s1.trans s2);|_=>cases e
theorem ę:Å ["promises","sales","number","year","holder","sort","first","last","sacks","price","held","promise","seller","buyer","sold","since"] ["promises","sales","number","year"] (aG (top 30)):=ċ
theorem JD(F:ü K "held_in" "held_in" (top 30) f fd)(N:Nums mg):Ú P w K mg base ù 1 f fd ["promises","sales","number","year"] yP:=by
 show F.oq ę `b;obtain⟨ap,xp,ps,ah,xs,ss,n,y,rfl,rp,rs,n0,n1,okp,hl,fN,q⟩:=h;obtain⟨t1,e1⟩:=N.holders;show⟨_,aB (cP (pX bT (pv 0) (pv 2)) (bF O (ao (Ó 4 ę.nd) (ao (Ó 5 ę.nd) (ao (Ó 6 ę.nd) (ao (Ó 7 ę.nd) (ao (Ó 8 ę.nd) (ao (Ó 9 ę.nd) aR)))))))) (aB (Ĝ 10 ę.nd (aU Lj (dC (aq aA aj)) (cC (v:=.int 8) O e1 `i))) (aB (cM (dY (oW cN cN (pv 6) (pv 3) (pv 7))) (aC (aV (pv 10))) bz) (aB (cP (pv 8) (iy (pv 10) (pv 4) ê)) (aB (bR Ń O (iz (pv 1)) (bF O (ao (Ó 11 ę.nd) (ao (Ó 12 ę.nd) (ao (Ó 13 ę.nd) (ao (Ó 14 ę.nd) (ao (Ó 15 ę.nd) aR)))))) (aC (cM (PW.pt (ur (bj jV (pv 11) (pv 2) (bx _)) (nY (bj cN (pv 15) (pv 3) (bx _))))) (aB (ut (pv 10) (pv 12) jr (pv 14) Ef ê) (aC (ut (pv 10) (pv 13) jr (pv 14) Ed ê))) bz))) (aC (aV (pv 10))))))),?_⟩;obtain⟨p,hp⟩:∃p,ps[n.toNat]?=some p:=⟨_,Ô À⟩;have ep:ps.getD n.toNat []=p:=by rw[ě,hp];rfl
 rw[ep]at okp q;obtain⟨t,ex,et⟩:=rp.g _ _ hp;have p6:=six_row okp.1;obtain⟨l6,⟨a1,a2⟩,b,⟨c1,c2,c3⟩,⟨d1,d2⟩,ee⟩:=id okp;have nV:ς xp n=some (.ref t):=by have:=dZ ex;rw[show((n.toNat:Nat):Int)=n by lia]at this;show this
 rw[p6]at et;apply aW;show⟨_,O,_,O,ap,xp,n,.ref t,O,O,Ñ.of rp.e,nV,?_⟩;show⟨t,_,O,Ñ.of et,O,_,_,O,_,_,O,_,_,O,_,_,O,_,_,O,_,_,O,O,?_⟩;dsimp only;show aW (aQ ?_);show⟨zL,λl0 G0=>⟨l0,8,_,O,O,aa,by decide,by decide,zL,λl1 fI=>?_⟩⟩;have s1:Â H (upd (upd H l0 (.lst [V.int 0])) l1 (.lst (List.replicate (8:Int).toNat [V.int 0]).flatten)):=(Â.upd G0).updR fI;have ĝ:upd (upd H l0 (.lst [V.int 0])) l1 (.lst (List.replicate (8:Int).toNat [V.int 0]).flatten) l1=some (.lst ((List.replicate 8 (0:Int)).map V.int)):=aa;have Bn:H l1=none:=(Â.upd G0).free fI;generalize upd (upd H l0 (.lst [V.int 0])) l1 (.lst (List.replicate (8:Int).toNat [V.int 0]).flatten)=H1 at s1 ĝ⊢;apply aD;dsimp only;apply aW;show cW (p:=λi j=>decide (i<=j)) (q:=λi j=>decide (i<=j)) (i:=fl p 2) (j:=y) (k:=fl p 3) (gC O) (gC O) (gC O) _ ⟨_,O,?_⟩;by_cases kM:fl p 2<=y/\y<=fl p 3
 .rw[ç kM.1,ç kM.2];show bG (eF ?_);dsimp only;apply aW;show⟨_,O,_,O,_,O,l1,_,fl p 0,(fl p 0).toNat,O,O,ĝ,Bf a1 (by show fl p 0<8;show a2),?_⟩;rw[vf];dsimp only;apply aW;have Vw:ah≠l1:=az rs.e Bn;show⟨_,O,ah,O,⟨xs,Ñ.of (by rw[au Vw];show s1 _ _ rs.e)⟩,?_⟩;have Me:∀{Hc:Hp}{o:HO},Â H Hc->Â H (upd Hc l1 o):=λ{Hc o}sm b u e=>by rw[au (az e Bn)];show sm _ _ e
  show Iu (xs:=xs) (λi σ Hc=>Xe5 λcb eC eI cK cS=>Xa3 (σ=[some (.ref ap),some (.ref ah),some (.int n),some (.int y),some (.int (fl p 0)),some (.int (fl p 1)),some (.int (fl p 2)),some (.int (fl p 3)),some (.int (fl p 4)),some (.int (fl p 5)),some (.ref l1),cb,eC,eI,cK,cS]) (Â H Hc) (Hc l1=some (.lst (((ss.take i).foldl (ñ n y) (Ĩ p)).map V.int)))) ?_ ?_ ?_ ?_;.exact⟨none,none,none,none,none,O,Me s1,aa⟩
  .rintro i σ Hc hi⟨cb,eC,eI,cK,cS,rfl,sm,el⟩;show Ñ.of (sm _ _ rs.e)
  .rintro i x σ Hc hx⟨cb,eC,eI,cK,cS,rfl,sm,el⟩;have hi:i<ss.length:=by have:=(ĉ.mp hx).1;rw[rs.l]at this;show this
   obtain⟨tr,fk,fe⟩:=rs.g i ss[i] (Ô hi);have:x=.ref tr:=by rw[hx]at fk;show ģ fk
   subst this;obtain⟨o1,⟨o2,o3⟩,o4,o5⟩:=fN ss[i] (ĕ hi);have s5:=lK o1;have bq:ss.take (i+1)=ss.take i++[ss[i]]:=by rw[ġ,Ô hi];rfl
   have D7:(ss.take (i+1)).foldl (ñ n y) (Ĩ p)=ñ n y ((ss.take i).foldl (ñ n y) (Ĩ p)) ss[i]:=by rw[bq,Zbj];rfl
   rw[D7];generalize hL:(ss.take i).foldl (ñ n y) (Ĩ p)=L at el⊢;have lL:L.length=8:=by have:=eZ p (ss.take i) n y;unfold bV at this;rw[Ê kM,hL]at this;show this
   generalize ss[i]=r at fe s5 o2 o3 o4 o5⊢;rw[s5]at fe;show⟨tr,_,O,Ñ.of (sm _ _ fe),O,_,_,O,_,_,O,_,_,O,_,_,O,_,_,O,O,?_⟩;show⟨_,O,_,O,O,_,O,?_⟩;by_cases hn:fl r 0=n
   .rw[ç (show V.int (fl r 0)=V.int n by rw[hn])];apply bM;show⟨_,O,_,O,_,_,O,O,_,O,?_⟩;by_cases hy:fl r 4<=y
    .rw[ç hy];apply bM;have e1:ñ n y L r=ie (ie L (fl r 1) (-(fl r 3))) (fl r 2) (fl r 3):=Ê ⟨hn,hy⟩;rw[e1];apply aW;show⟨_,O,_,O,l1,_,fl r 1,_,O,O,Ë.of el,o2,vg À,_,O,_,_,O,O,l1,_,fl r 1,(fl r 1).toNat,O,O,el,Bf o2 (by rw[Ï];lia),?_⟩;rw[vf];have e2:L.set (fl r 1).toNat (L.getD (fl r 1).toNat 0-fl r 3)=ie L (fl r 1) (-(fl r 3)):=by unfold ie;rw[Int.sub_eq_add_neg]
     rw[e2];generalize LY:ie L (fl r 1) (-(fl r 3))=L1;have lL1:L1.length=8:=by rw[<-LY,jf];show lL
     show⟨_,O,_,O,l1,_,fl r 2,_,O,O,Ë.of aa,o4,vg À,_,O,_,_,O,O,l1,_,fl r 2,(fl r 2).toNat,O,O,aa,Bf o4 (by rw[Ï];lia),?_⟩;rw[vf];show⟨_,_,_,_,_,O,Me (Me sm),aa⟩
    .rw[č hy];apply bG;have e1:ñ n y L r=L:=Ç λz=>hy z.2;rw[e1];show⟨_,_,_,_,_,O,sm,el⟩
   .rw[č (λz:V.int (fl r 0)=V.int n=>hn (by injection z))];show bG (bG ?_);have e1:ñ n y L r=L:=Ç λz=>hn z.1;rw[e1];show⟨_,_,_,_,_,O,sm,el⟩
  .rintro σ Hc⟨cb,eC,eI,cK,cS,rfl,sm,el⟩;rw[rs.l,Ņ]at el;show⟨_,O,q _ _ sm ?_⟩;unfold bV;rw[Ê kM];show el
 .have hb:(decide (fl p 2<=y)&&decide (y<=fl p 3))=false:=by cases e:(decide (fl p 2<=y)&&decide (y<=fl p 3))with|false=>rfl;|true=>rw[ŉ,Ĥ,Ĥ]at e;show absurd e kM
  rw[hb];show bM ⟨_,O,q _ _ s1 ?_⟩;unfold bV;rw[Ç kM];show ĝ
theorem Gn{Fin:List V->Hp->Prop}(Pv:List V->Hp->Prop)(h0:Pv [] H0)(hz:n<sizeLine)(step:∀i ys H Q,i<n->ys.length=i->Pv ys H->(∀y H',Pv (ys++[y]) H'->Q y H')->te (cy.set j (some (.int (lo+i)))) H Q)(fin:∀ys H,ys.length=n->Pv ys H->Fin ys H):km (Itr lo n) (bu j) qZ te Fin cy H0:=by
 show⟨λi m ys σ H=>m=n-i/\i<=n/\ys.length=i/\(∀o,σ.set j o=cy.set j o)/\Pv ys H,⟨_,O,Ė _,O,λ_=>rfl,h0⟩,?_⟩;rintro i m ys σ H⟨rfl,hi,hy,iA,p⟩;show⟨À,?_⟩;by_cases ax:i<n;.refine .inr ⟨ax,λx H' y=>?_⟩;obtain⟨e,e2⟩:=y;subst e;subst e2;show te (σ.set j (some (.int (lo+i)))) H' _;rw[iA];show step i ys H' _ ax hy p λy H2 p2=>⟨n-(i+1),À,O,ax,by rw[à,hy];rfl,λo=>by rw[List.set_set],p2⟩
 .have e:i=n:=À;subst e;show .inl ⟨Ø _,fin ys H hy p⟩
theorem Ov(a:Ev σ H ta (.int i))(b:Ev σ H tb (.int j)):Ev σ H (tOp rNe ta tb) (.bl (!decide (i=j))):=λQ q=>a _ (b _ ⟨O,by have ed:decide (V.int i=V.int j)=decide (i=j):=decide_eq_decide.mpr ⟨λz=>by injection z,λz=>by rw[z]⟩;rw[ed];show q⟩)
theorem Dj(a b:Int):(years a b).length=(b+1-a).toNat:=by unfold years;rw[Ï,Zay]
theorem Dk{i:Nat}(h:i<(b+1-a).toNat):(years a b)[i]?=some (a+i):=by unfold years;rw[ì,List.getElem?_range h];rfl
theorem Dl{α β:Type}{l:List α}{f:α->β}{ys:List β}{x:α}(ey:ys=(l.take ys.length).map f)(hx:l[ys.length]?=some x):ys++[f x]=(l.take (ys++[f x]).length).map f:=by rw[à,List.length_singleton,ġ,hx,é,<-ey];rfl
inductive ϛ(vs:List V)(H:Hp)(Q:VK):Prop|mk:∀ap xp ps t s,(vs=[.ref ap,.ref t])->(RowsAt H ap xp ps)->((∀r∈ps,okP r))->(H t=some (.tup (s.map V.int)))->(s.length=5)->(Q (.bl (rP ps s)) H)->ϛ  vs H Q
def Gp:Sp:=λvs H Q _=>ϛ  vs H Q
inductive Ο(vs:List V)(H:Hp)(Q:VK):Prop|mk:∀ap xp ps ah xs ss t s,(vs=[.ref ap,.ref ah,.ref t])->(RowsAt H ap xp ps)->((∀r∈ps,okP r))->(RowsAt H ah xs ss)->(ss.length<=12)->((∀s∈ss,okS s))->(H t=some (.tup (s.map V.int)))->(s.length=5)->(∀H',Â H H'->Q (.bl (cG ps ss s)) H')->Ο  vs H Q
def Bg:Sp:=λvs H Q _=>Ο  vs H Q
def unV:Option Nat->V|none=>.non|some i=>.int i
inductive Τ(vs:List V)(H:Hp)(Q:VK):Prop|mk:∀S v d S' u e,(vs=[v,u])->(Ü S H v d)->(Ü S' H u e)->(fO d=true)->(fP e=true)->(sz d<=4000)->(sz e<=4000)->(∀H',Â H H'->Q (unV (un (ä d) (ä e))) H')->Τ  vs H Q
def Bh:Sp:=λvs H Q _=>Τ  vs H Q
theorem prom_ok{ps:UV}{n:Int}(h:∀r∈ps,okP r)(h0:0<=n)(h1:n<ps.length):∃p,ps[n.toNat]?=some p/\ps.getD n.toNat []=p/\okP p:=by have hn:n.toNat<ps.length:=À;show⟨ps[n.toNat],Ô hn,?_,h _ (ĕ hn)⟩;rw[ě,Ô hn];rfl
theorem rows_at{n:Int}{r:VV}(h:RowsAt H a xs rs)(h0:0<=n)(e:rs[n.toNat]?=some r):∃t,ς xs n=some (.ref t)/\H t=some (.tup (r.map V.int)):=by obtain⟨t,e1,e2⟩:=h.g _ _ e;show⟨t,?_,e2⟩;have:=dZ e1;rw[show((n.toNat:Nat):Int)=n by lia]at this;show this
theorem ğ:Å ["promises","sale","number","seller","buyer","sacks","year","holder","sort","first","last","due","price"] ["promises","sale"] (aG (top 31)):=ċ
theorem JF(F:ü K "is_sale_between" "is_sale_between" (top 31) f fd)(T:Mg mg)(N:Nums mg):Ú P w K mg base ù 1 f fd ["promises","sale"] Gp:=by
 show F.oq ğ `b;obtain⟨ap,xp,ps,t,r,rfl,rp,okp,et,h5,q⟩:=h;obtain⟨t1,e1⟩:=N.holders;obtain⟨t4,e4⟩:=N.sacks;show⟨_,aB (cP (pv 1) (bF O (ao (Ó 2 ğ.nd) (ao (Ó 3 ğ.nd) (ao (Ó 4 ğ.nd) (ao (Ó 5 ğ.nd) (ao (Ó 6 ğ.nd) aR))))))) (aB (cM (dY (oW cN jA aA (pv 2) (aM cj O T.len PySem.boot_len (aq (pv 0) aj)))) (aC (aV oU)) bz) (aB (cP (pX bT (pv 0) (pv 2)) (bF O (ao (Ó 7 ğ.nd) (ao (Ó 8 ğ.nd) (ao (Ó 9 ğ.nd) (ao (Ó 10 ğ.nd) (ao (Ó 11 ğ.nd) (ao (Ó 12 ğ.nd) aR)))))))) (aC (aV (cO (d9 cN jA aA (pv 3) (cC (v:=.int 8) O e1 `i)) (cO (d9 cN jA aA (pv 4) (cC (v:=.int 8) O e1 `i)) (cO (jX zH (pv 3) (pv 4) (bx _)) (cO (d9 cN cN aA (pv 5) (cC (v:=.int 99) O e4 `i)) (fJ (d9 cN cN (pv 9) (pv 6) (pv 10))))))))))),?_⟩;rw[lK h5]at et;show`e;show⟨_,O,t,_,O,Ñ.of et,O,_,_,O,_,_,O,_,_,O,_,_,O,_,_,O,O,?_⟩;apply ab
 apply aW;refine cW (p:=λi j=>decide (i<=j)) (q:=λi j=>decide (i<j)) (i:=0) (j:=fl r 0) (k:=(xp.length:Int)) iH (gC O) (λQ h=>⟨_,O,ap,xp,O,.inr (Ñ.of rp.e),h⟩) _ ⟨_,O,?_⟩;have fin:=q;unfold rP at fin;rw[rp.l];cases e:(decide (0<=fl r 0)&&decide (fl r 0<ps.length))with|false=>rw[e]at fin;exact bM fin;|true=>rw[e]at fin;rw[ŉ,Ĥ,Ĥ]at e;obtain⟨p,hp,ep,op⟩:=prom_ok okp e.1 e.2;obtain⟨tp,nV,iS⟩:=rows_at rp e.1 hp;rw[six_row op.1]at iS;show bG (eF ?_);dsimp only;apply aW;show⟨_,O,_,O,ap,xp,_,.ref tp,O,O,Ñ.of rp.e,nV,?_⟩;show⟨tp,_,O,Ñ.of iS,O,_,_,O,_,_,O,_,_,O,_,_,O,_,_,O,_,_,O,O,?_⟩;have MA:nW ps r=p:=ep;rw[MA]at fin;show j7 (cW iH (gC O) iH) (λ_=>j7 (cW iH (gC O) iH) λ_=>j7 (Ov (gC O) (gC O)) λ_=>j7 (cW iH (gC O) iH) λ_=>cW (gC O) (gC O) (gC O)) _ fin
theorem ō:Å ["promises","ahead","sale","number","seller","buyer","sacks","year","last"] ["promises","ahead","sale"] (aG (top 32)):=ċ
theorem Qo:(["at","promises","ahead","number","seller","sacks"]:Đ).Nodup:=`j
theorem Gq(F:ü K "sale_holds" "sale_holds" (top 32) f fd)(T:Mg mg)(Tr:mg "range"=none)(c1:í P w K mg base 1 "is_sale_between" ["promises","sale"] Gp)(c2:í P w K mg base 1 "held_in" ["promises","sales","number","year"] yP):Ú P w K mg base ù 2 f fd ["promises","ahead","sale"] Bg:=by refine F.oq ō λav A outer s H vs Q E hr h=>?_;obtain⟨ap,xp,ps,ah,xs,ss,t,r,rfl,rp,okp,rs,hl,fN,et,h5,q⟩:=h;refine⟨_,aB (cM (dY (fZ (aJ c1 hr (aq (pv 0) (aq (pv 2) aj))))) (aC (aV oU)) bz) (aB (cP (pv 2) (bF O (ao (bw (i:=3) ō.nd O (Or.inr O)) (ao (bw (i:=4) ō.nd O (Or.inr O)) (ao (Ó 5 ō.nd) (ao (bw (i:=6) ō.nd O (Or.inr O)) (ao (Ó 7 ō.nd) aR))))))) (aB (Ĝ 8 ō.nd (pX bT (pX bT (pv 0) (pv 3)) aA)) (aC (aV (aM (gh O) O T.all ā (aq (bI ["at","promises","ahead","number","seller","sacks"] [none,some 0,some 1,some 3,some 4,some 6] O (rZ O Tr (aq (pv 7) (aq (aU cA (pv 8) aA) aj))) (λC fp Á s₂ Í=>⟨Ó 0 Qo,bD,jX zJ (pX (lJ (K:=K) O) (aJ c2 hr (aq (pv 1) (aq (pv 2) (aq (pv 3) (aq (pv 0) aj))))) (pv 4)) (pv 5) (bx _)⟩) (λC=>cI (cI (cI (cI (cI trivial))))) ⟨O,O,O,O⟩) aj)))))),?_⟩;have fin:=q;unfold cG at fin;apply aW;refine⟨_,O,_,O,ap,xp,ps,t,r,O,rp,okp,et,h5,_,O,?_⟩;cases e:rP ps r with|false=>rw[e]at fin;exact bM (fin _ (Â.refl _));|true=>
  rw[e]at fin;show bG (eF ?_);dsimp only;show`e;unfold rP at e;simp only[Bool.and_eq_true,Ĥ]at e;obtain⟨⟨n0,n1⟩,⟨b0,b1⟩,_,_,⟨k0,k1⟩,y0,y1⟩:=e;obtain⟨p,hp,ep,op⟩:=prom_ok okp n0 n1;have MA:nW ps r=p:=ep;rw[MA]at fin y0 y1;obtain⟨tp,nV,iS⟩:=rows_at rp n0 hp;rw[lK h5]at et;rw[six_row op.1]at iS;obtain⟨_,_,_,⟨g1,g2,g3⟩,_⟩:=id op;show⟨_,O,t,_,O,Ñ.of et,O,_,_,O,_,_,O,_,_,O,_,_,O,_,_,O,O,?_⟩;apply ab
  show`e;apply aQ;show⟨_,O,_,O,ap,xp,_,.ref tp,O,O,Ñ.of rp.e,nV,tp,_,3,.int (fl p 3),O,O,Ñ.of iS,O,?_⟩;apply aD;apply ab
  show⟨_,O,_,O,_,_,O,O,fl r 4,fl p 3+1,O,⟨À,À,À,À⟩,?_⟩;show Gn (λys Hc=>Â H Hc/\ys=((years (fl r 4) (fl p 3)).take ys.length).map λy=>V.bl (decide (fl r 3<=(bV p ss (fl r 0) y).getD (fl r 1).toNat 0))) ⟨Â.refl _,O⟩ ϟ ?_ ?_
  .rintro i ys Hc Qc hi hy⟨sc,ey⟩qc;show⟨_,O,_,O,_,O,_,O,ap,xp,ps,ah,xs,ss,fl r 0,fl r 4+i,O,rp.same sc,rs.same sc,n0,n1,by rw[ep];show op,hl,fN,λl H' s' el=>?_⟩;rw[ep]at el;show⟨_,O,l,_,fl r 1,.int ((bV p ss (fl r 0) (fl r 4+i)).getD (fl r 1).toNat 0),O,O,Ë.of el,?_,_,O,_,_,O,O,qc _ _ ⟨sc.trans s',?_⟩⟩;.unfold ς;rw[Bf b0 (by rw[Ï,eZ];lia)];show vg (by rw[eZ];lia)
   .have hx:(years (fl r 4) (fl p 3))[ys.length]?=some (fl r 4+(i:Int)):=by rw[hy];show Dk hi
    show Dl ey hx
  .rintro ys Hc hy⟨sc,ey⟩D hD;rw[θ (by rw[Dj,hy];show Ø _)]at ey;show⟨D,(years (fl r 4) (fl p 3)).map λy=>decide (fl r 3<=(bV p ss (fl r 0) y).getD (fl r 1).toNat 0),O,Ë.of (by rw[Ě];rw[ey];show aa),?_⟩;rw[List.all_map];show fin _ (sc.updR hD)
theorem qF{i:Nat}(h:i<=xs.length):nJ xs none (some (i:Int))=xs.take i:=by unfold nJ;rw[HT.sIx_none,HT.sIx_nat,List.drop_zero,Nat.min_eq_left h,Nat.sub_zero]
theorem RowsAt.cut(h:RowsAt H a xs rs)(i:Nat)(hp:H p=none):RowsAt (upd H p (.tup (xs.take i))) p (xs.take i) (rs.take i):=by
 show⟨aa,by rw[ė,ė,h.l],λj r e=>?_⟩;have hj:j<i:=by
  rw[List.getElem?_take]at e;split at e;.assumption
  .cases e
 rw[Zbi hj]at e;obtain⟨t,e1,e2⟩:=h.g j r e;show⟨t,by rw[Zbi hj];show e1,Â.upd hp _ _ e2⟩
theorem Bj(h:∀j,j<i->cG ps (ss.take j) (ss.getD j [])=true)(hi:i<ss.length)(hn:cG ps (ss.take i) (ss.getD i [])=false):un ps ss=some i:=by unfold un;rw[List.find?_range_eq_some];show⟨by rw[hn];rfl,ı.mpr hi,λj hj=>by rw[h j hj];rfl⟩
theorem vm(h:∀j,j<ss.length->cG ps (ss.take j) (ss.getD j [])=true):un ps ss=none:=by unfold un;rw[List.find?_range_eq_none];show λj hj=>by rw[h j hj];rfl
theorem qG(h5:s.length=5)(h:cG ps ss s=true):okS s:=by unfold cG rP at h;simp only[Bool.and_eq_true,Ĥ]at h;show⟨h5,h.1.2.1,h.1.2.2.1⟩
theorem æ{ss:UV}(h:i<ss.length):ss.getD i []=ss[i]:=by rw[ě,Ô h];rfl
def part(d:PyData)(i:Nat):PyData:=(items d).getD i .none
def tX(d:PyData):Bool:=bH d 3 3&&(jd (part d 0)&&(fO (part d 1)&&(fP (part d 2)&&(un (ä (part d 1)) (ä (part d 2))).isNone)))
theorem Z01:Å ["promises","sales","at","sale"] ["promises","sales"] (aG (top 33)):=ċ
theorem Gr(F:ü K "first_unheld" "first_unheld" (top 33) f fd)(Te:mg "enumerate"=none)(c1:í P w K mg base 4 "are_promises" ["thing"] (Ŗ fO))(c2:í P w K mg base 3 "are_sales" ["thing"] (Ŗ fP))(c3:í P w K mg base 2 "sale_holds" ["promises","ahead","sale"] Bg):Ú P w K mg base ù 5 f fd ["promises","sales"] Bh:=by
 show F.oq Z01 `b;obtain⟨S,v,d,S',u,e,rfl,R0,ths,hp,hs,zp,zs,q⟩:=h;show⟨_,aB (cM (dY (fZ (aJ c1 hr (aq (pv 0) aj)))) rY bz) (aB (cM (dY (fZ (aJ c2 hr (aq (pv 1) aj)))) rY bz) (aB (bR Ń O (ZT.pi_enum true O Te (aq (pv 1) aj)) (bF O (ao (Ó 2 Z01.nd) (ao (Ó 3 Z01.nd) aR))) (aC (cM (dY (fZ (aJ c3 hr (aq (pv 0) (aq (jY zZ (pv 1) o9 (oh (pv 2))) (aq (pv 3) aj)))))) (aC (aV (pv 2))) bz))) (aC (aV oV)))),?_⟩;show`e;show⟨_,O,S,v,d,O,R0,zp,λH1 s1=>⟨_,O,?_⟩⟩;rw[hp];show bG (eF ?_);apply ab
 show`e;show⟨_,O,S',u,e,O,ths.same s1,zs,λH2 s2=>⟨_,O,?_⟩⟩;rw[hs];show bG (eF ?_);apply ab
 have mf:=s1.trans s2;obtain⟨ep,lp,okp⟩:=yN hp;obtain⟨es,ls,fN⟩:=yO hs;have f7:=R0.same mf;have MB:=ths.same mf;rw[ep]at f7;rw[es]at MB;generalize ä d=ps at q lp okp f7;generalize ä e=ss at q ls fN MB;obtain⟨ap,xp,rfl,rp⟩:=th_rows f7;obtain⟨ah,xs,rfl,rs⟩:=th_rows MB;apply aW;show⟨_,O,ah,xs,O,Ñ.of rs.e,?_⟩;show ZT.for_enum true (xs:=xs) (λi σ Hc=>∃x2 x3,σ=[some (.ref ap),some (.ref ah),x2,x3]/\Â H2 Hc/\∀j,j<i->cG ps (ss.take j) (ss.getD j [])=true) ?_ ?_ ?_ ?_;.exact⟨none,none,O,Â.refl _,λj hj=>absurd hj (Zbs _)⟩
 .rintro i σ Hc hi⟨x2,x3,rfl,sm,hh⟩;show Ñ.of (sm _ _ rs.e)
 .rintro i x σ Hc T0 hx⟨x2,x3,rfl,sm,hh⟩nT;have hi:i<ss.length:=by have:=(ĉ.mp hx).1;rw[rs.l]at this;show this
  have Bz:i<xs.length:=by rw[rs.l];show hi
  obtain⟨tr,fk,fe⟩:=rs.g i ss[i] (Ô hi);have:x=.ref tr:=by rw[hx]at fk;show ģ fk
  subst this;have h5:=fN ss[i] (ĕ hi);have sT:=sm.updR (o:=.tup [V.int i,V.ref tr]) nT;show⟨T0,_,O,Ñ.of aa,O,_,_,O,_,_,O,O,?_⟩;show⟨_,O,_,O,_,O,i,O,ah,xs,O,Ñ.of (sT _ _ rs.e),λhw=>?_,λ_ p R3=>?_⟩;.have:=hw.2;rw[HT.sIx_nat]at this;show absurd this À
  rw[qF (Zby Bz)];have sp:=sT.updR (o:=.tup (xs.take i)) R3;show⟨_,O,ap,xp,ps,p,xs.take i,ss.take i,tr,ss[i],O,rp.same sp,okp,(rs.same sT).cut i R3,?_,?_,sp _ _ fe,h5,λH' s'=>⟨_,O,?_⟩⟩;.rw[ė];lia
  .intro s dv;obtain⟨j,hj,e'⟩:=Zaw dv;rw[ė]at hj;have MC:j<i:=À;have R4:j<ss.length:=À;have e2:ss[j]=s:=by rw[<-e',Zbe]
   rw[<-e2];have:=hh j MC;rw[æ R4]at this;show qG (fN _ (ĕ R4)) this
  .cases eh:cG ps (ss.take i) ss[i]with|false=>refine bM ⟨_,O,?_⟩;have:=q H' (mf.trans (sp.trans s'));rw[Bj hh hi (by rw[æ hi];exact eh)]at this;exact this;|true=>
    show bG ⟨_,_,O,sp.trans s',λj hj=>?_⟩;rcases Nat.lt_succ_iff_lt_or_eq.mp hj with z|z;.exact hh j z
    .rw[z,æ hi];show eh
 .rintro σ Hc⟨x2,x3,rfl,sm,hh⟩;have:=q Hc (mf.trans sm);rw[vm λj hj=>hh j (by rw[rs.l];show hj)]at this;show this
theorem ψ:Å ["thing","clips","promises","sales"] ["thing"] (aG (top 34)):=ċ
theorem ok_book(F:ü K "is_book" "is_book" (top 34) f fd)(c0:í P w K mg base 1 "is_tuple_of" ["thing","fewest","most"] (qy bH))(c1:í P w K mg base 4 "are_clips" ["thing"] (Ŗ jd))(c2:í P w K mg base 4 "are_promises" ["thing"] (Ŗ fO))(c3:í P w K mg base 3 "are_sales" ["thing"] (Ŗ fP))(c4:í P w K mg base 5 "first_unheld" ["promises","sales"] Bh):Ú P w K mg base ù 6 f fd ["thing"] (Ŗ tX):=by refine F.oq ψ λav A outer s H vs Q E hr h=>?_;obtain⟨S,v,d,rfl,th,hz,q⟩:=h;refine⟨_,aB (cM (dY (fZ (aJ c0 hr (aq (pv 0) (aq aA (aq aA aj)))))) (aC (aV oU)) bz) (aB (cP (pv 0) (bF O (ao (Ó 1 ψ.nd) (ao (Ó 2 ψ.nd) (ao (Ó 3 ψ.nd) aR))))) (aC (aV (cO (aJ c1 hr (aq (pv 1) aj)) (cO (aJ c2 hr (aq (pv 2) aj)) (cO (aJ c3 hr (aq (pv 3) aj)) (fJ (jX Ei (aJ c4 hr (aq (pv 2) (aq (pv 3) aj))) oV (bx _))))))))),?_⟩;have fin:=q;unfold tX at fin;apply aW;refine⟨_,O,S,v,d,3,3,O,th,hz,λH1 s1=>⟨_,O,?_⟩⟩;cases e:bH d 3 3 with|false=>rw[e]at fin;exact bM (fin _ s1);|true=>rw[e]at fin;show bG (eF ?_);dsimp only;obtain⟨ds,rfl,l1,l2⟩:=mW e;have f7:=th.same s1;cases f7 with|@tup a xs _ ea r=>
   obtain⟨v0,v1,v2,d0,d1,d2,rfl,rfl,h0,h1,h2⟩:=Dg r (show ds.length=3 by lia);have z0:=lG (d:=d0) Õ hz;have z1:=lG (d:=d1) Õ hz;have z2:=lG (d:=d2) Õ hz;show`e;show⟨_,O,a,_,O,Ñ.of ea,O,_,_,O,_,_,O,_,_,O,O,?_⟩;apply ab
   have fin:∀H',Â H H'->Q (.bl (true&&(jd d0&&(fO d1&&(fP d2&&(un (ä d1) (ä d2)).isNone))))) H':=fin;refine⟨_,O,S,_,d0,O,h0,z0,λH2 s2=>⟨_,O,?_⟩⟩;cases e0:jd d0 with|false=>rw[e0]at fin;exact bG (fin _ (s1.trans s2));|true=>rw[e0]at fin;apply bM;refine⟨_,O,S,_,d1,O,h1.same s2,z1,λH3 s3=>⟨_,O,?_⟩⟩;cases e1:fO d1 with|false=>rw[e1]at fin;exact bG (fin _ ((s1.trans s2).trans s3));|true=>rw[e1]at fin;apply bM;refine⟨_,O,S,_,d2,O,h2.same (s2.trans s3),z2,λH4 s4=>⟨_,O,?_⟩⟩;cases e2:fP d2 with|false=>rw[e2]at fin;exact bG (fin _ (((s1.trans s2).trans s3).trans s4));|true=>rw[e2]at fin;apply bM;have MD:=(s2.trans s3).trans s4;refine⟨_,O,_,O,S,_,d1,S,_,d2,O,h1.same MD,h2.same MD,e1,e2,z1,z2,λH5 s5=>⟨O,?_⟩⟩;have:=fin H5 (s1.trans (MD.trans s5));cases eu:un (ä d1) (ä d2)with|none=>rw[eu]at this;exact this;|some i=>rw[eu]at this;show this
def ß(H:Hp)(xs:List V)(rs:UV):Prop:=xs.length=rs.length/\∀(i:Nat)(r:VV),rs[i]?=some r->∃t,xs[i]?=some (V.ref t)/\H t=some (.tup (r.map V.int))
theorem ß.keep(h:ß H xs rs)(k:∀b l,H b=some (.tup l)->H' b=some (.tup l)):ß H' xs rs:=⟨h.1,λi r e=>by obtain⟨t,e1,e2⟩:=h.2 i r e;show⟨t,e1,k _ _ e2⟩⟩
theorem ß.same(h:ß H xs rs)(s:Â H H'):ß H' xs rs:=h.keep λ_ _ e=>s _ _ e
theorem ß.nil:ß H [] []:=⟨O,λi r e=>by simp at e⟩
theorem ß.app(h:ß H xs rs)(g:ß H ys qs):ß H (xs++ys) (rs++qs):=by
 show⟨by rw[à,à,h.1,g.1],λi r e=>?_⟩;by_cases hi:i<rs.length;.rw[ŭ hi]at e;obtain⟨t,e1,e2⟩:=h.2 i r e;show⟨t,by rw[ŭ (by rw[h.1];show hi)];show e1,e2⟩
 .rw[Ů À]at e;obtain⟨t,e1,e2⟩:=g.2 _ r e;show⟨t,by rw[Ů (by rw[h.1];lia),h.1];show e1,e2⟩
theorem ß.one{r:VV}(e:H t=some (.tup (r.map V.int))):ß H [.ref t] [r]:=⟨O,λi q e'=>by cases i with|zero=>rw[List.getElem?_cons_zero]at e';cases e';exact⟨t,O,e⟩;|succ i=>simp at e'⟩
theorem bW(h:r.length=4):r=[fl r 0,fl r 1,fl r 2,fl r 3]:=by match r,h with|[a,b,c,d],_=>rfl
theorem rQ{t:TS}{D:œ}(h:∀D',(∀σ H,N σ H->D'.nx σ H)->t D' σ H):t {D with nx:=N,ct:=N,bk:=D.nx} σ H:=h _ λ_ _ z=>z
theorem comp_gen{Fin:List V->Hp->Prop}(n:Nat)(Pv:Nat->List V->St->Hp->Prop)(h0:Pv 0 [] cy H0)(hz:n<sizeLine)(step:∀i ys σ H,i<n->ys.length=i->Pv i ys σ H->J.go i H/\∀x H',J.yld i H x H'->∀R:V->St->Hp->Prop,(∀y ay H4,Pv (i+1) (ys++[y]) ay H4->R y ay H4)->g x σ H' λay H2=>te ay H2 λy H4=>R y ay H4)(fin:∀ys σ H,ys.length=n->Pv n ys σ H->J.stop n H/\Fin ys H):km J g qZ te Fin cy H0:=by
 show⟨λi m ys σ H=>m=n-i/\i<=n/\ys.length=i/\Pv i ys σ H,⟨_,O,Ė _,O,h0⟩,?_⟩;rintro i m ys σ H⟨rfl,hi,hy,p⟩;show⟨À,?_⟩;by_cases ax:i<n;.obtain⟨go,st⟩:=step i ys σ H ax hy p;show .inr ⟨go,λx H' y=>st x H' y _ λy ay H4 p2=>⟨n-(i+1),À,O,ax,by rw[à,hy];rfl,p2⟩⟩
 .have e:i=n:=À;subst e;show .inl (fin ys σ H hy p)
def ú(rs:UV):VV:=rs.map λr=>fl r 3
def fj(rs:UV):Int:=(ú rs).sum
inductive Ν(vs:List V)(H:Hp)(Q:VK):Prop|mk:∀l xs rs,(vs=[.ref l])->(H l=some (.lst xs))->(ß H xs rs)->((∀r∈rs,r.length=4))->(rs.length<=100000)->(∀H',Â H H'->Q (.int (fj rs)) H')->Ν  vs H Q
def Bl:Sp:=λvs H Q _=>Ν  vs H Q
theorem ö:bootBuiltins "sum"=some (.builtin "sum"):=`j
theorem nd4:(["due","number","holder","sacks"]:Đ).Nodup:=`j
theorem Qp:Å ["rows"] ["rows"] (aG (top 45)):=ċ
theorem Gs(F:ü K "sacks_of" "sacks_of" (top 45) f fd)(Ts:mg "sum"=none):Ú P w K mg base ù 1 f fd ["rows"] Bl:=by
 show F.oq Qp `b;obtain⟨l,xs,rs,rfl,el,bg,h4,hz,q⟩:=h;show⟨_,aC (aV (aM (cY O) O Ts ö (aq (bI (g:=jE K 4 (bL (bu 0) (bL (bu 1) (bL (bu 2) (bL (bu 3) jU))))) ["due","number","holder","sacks"] [none,none,none,none] O (bO (pv 0)) (λC fp Á s₂ Í=>⟨du O O (ao (Ó 0 nd4) (ao (Ó 1 nd4) (ao (Ó 2 nd4) (ao (Ó 3 nd4) aR)))),bD,pv 3⟩) (λC=>trivial) ⟨O,O,O,O⟩) aj))),?_⟩;show⟨_,O,l,O,⟨_,Ë.of el⟩,comp_gen rs.length (λi ys σ Hc=>Â H Hc/\(∃o1 o2 o3 o4,σ=[o1,o2,o3,o4])/\ys=(ú (rs.take i)).map V.int) ⟨Â.refl H,⟨_,_,_,_,O⟩,O⟩ ϟ ?_ ?_⟩;.rintro i ys σ Hc hi hy⟨s1,⟨o1,o2,o3,o4,rfl⟩,rfl⟩;obtain⟨t,ex,et⟩:=bg.2 i rs[i] (Ô hi);rw[bW (h4 _ (ĕ hi))]at et;show⟨⟨_,_,Ë.of (s1 _ _ el),ex⟩,λv H' y R hR=>?_⟩;obtain⟨rfl,y⟩:=y;have hv:=y _ (Ë.of (s1 _ _ el));rw[ex]at hv;cases hv;show⟨t,_,O,Ñ.of (s1 _ _ et),O,_,_,O,_,_,O,_,_,O,_,_,O,O,_,O,hR _ _ _ ⟨s1,⟨_,_,_,_,O⟩,?_⟩⟩;unfold ú;rw[ġ,Ô hi,é,é];rfl
 .rintro ys σ Hc hy⟨s1,_,rfl⟩;show⟨⟨_,Ë.of (s1 _ _ el),by rw[bg.1];show Ø _⟩,λD hD=>?_⟩;rw[Ņ];show⟨D,ú rs,O,.inl (Ë.of aa),q _ (s1.updR hD)⟩
end K60
open K60 (top dD items ð bH nd1 Gj v8 v9 lG gr Ŗ qy Mg å ā í aJ xj ö comp_gen sc1)
namespace K60P
open PySem L2
theorem dM(f:PyData->Bool)(iA:σ[i]?=some (some (.ref a)))(ea:H a=some (.tup xs))(r:Ð S H xs ds)(hl:xs.length<sizeLine)(mS:∀v d H1 Q1,d∈ds->Â H H1->Ü S H1 v d->(∀H',Â H1 H'->Q1 (.bl (f d)) H')->te ((ħ σ src).set j (some v)) H1 Q1)(q:∀H',Â H H'->Q (.bl (ds.all f)) H'):tCB (λxs H Q=>∃(p:Addr)(bs:List Bool),xs=[.ref p]/\Ë K H p (bs.map V.bl)/\Q (.bl (bs.all id)) H) (sy (zP (KZ K (Ea i)) src (bu j) qZ te) Iz) σ H Q:=by
 show⟨_,iA,a,O,⟨xs,Ñ.of ea⟩,nG (j:=j) f ea r hl mS λH2 s2 D hD=>⟨D,ds.map f,O,?_,?_⟩⟩;.rw[<-wj];show Ë.of aa
 .rw[Eo];show q _ (s2.updR hD)
structure Nums(mg:UW):Prop where many:∃t,mg "MOST_WEIGHTS"=some (.int 80 t)most:∃t,mg "MOST_WEIGHT"=some (.int 99 t)
def jg(d:PyData):Bool:=bH d 1 80&&(items d).all λx=>xj x 1 99
theorem Ā:bootBuiltins "sorted"=some (.builtin "sorted"):=`j
theorem nd2(x y:Str)(h:x≠y):([x,y]:Đ).Nodup:=by simp[h]
section
theorem Qq:Å ["thing"] ["thing"] (aG (top 39)):=ċ
theorem ok_are_weights(F:ü K "are_weights" "are_weights" (top 39) f fd)(T:Mg mg)(N:Nums mg)(c1:í P w K mg base 2 "is_whole_from" ["thing","least","most"] (qy xj))(c2:í P w K mg base 1 "is_tuple_of" ["thing","fewest","most"] (qy bH)):Ú P w K mg base ù 4 f fd ["thing"] (Ŗ jg):=by refine F.oq Qq λav A outer s H vs Q E hr h=>?_;obtain⟨S,v,d,rfl,th,hz,q⟩:=h;obtain⟨t3,e3⟩:=N.many;obtain⟨t4,e4⟩:=N.most;refine⟨_,aC (aV (cO (aJ c2 hr (aO (pv 0) (aO aA (aO (cC (v:=.int 80) O e3 ⟨_,O⟩) aj)))) (fJ (aM (gh O) O T.all ā (aO (bI ["part"] [none] O (iz (pv 0)) (λC fp Á s₂ Í=>⟨bw (i:=0) (nd1 _) O (Or.inl O),bD,aJ c1 hr (aO (pv 0) (aO aA (aO (cC (v:=.int 99) O e4 ⟨_,O⟩) aj)))⟩) (λC=>trivial) ⟨O,O,O,O⟩) aj))))),?_⟩;refine⟨_,O,S,v,d,1,80,O,th,hz,λH1 s1=>⟨_,O,?_⟩⟩;have f7:=th.same s1;have fin:=λH'(s:Â H H')=>q H' s;unfold jg at fin;cases e:bH d 1 80 with|false=>rw[e]at fin;exact bG (fin _ s1);|true=>rw[e]at fin;apply bM;cases f7 with|@tup a xs ds ea r=>exact dM (λx=>xj x 1 99) O ea r (gr r hz) (λv d H2 Q2 hm s2 t2 q2=>⟨_,O,S,v,d,1,99,O,t2,lG hm hz,q2⟩) λH2 s2=>fin _ (s1.trans s2);|_=>cases e
end
theorem jr:KY X (λx y H Q=>Xe4 λp xs i v=>Xa6 (x=.ref p) (y=.int i) (Ë X.K H p xs) (0<=i) (xs[i.toNat]?=some v) (Q v H)):=by intro Á s σ H x y v u Q I rx ry h;obtain⟨p,xs,i,z,rfl,rfl,hq,h0,he,q⟩:=h;cases rx;obtain⟨t,rfl⟩:=ry;obtain⟨È,r,pl,hz⟩:=I.list hq;obtain⟨w,ew,dS⟩:=r.get he;have hn:=mq;have hl:=r.length;have hi:=(ĉ.mp he).1;show PySem.wpAny_getItem_list pl.isList h0 À (by simpa using ew) ⟨z,H,I,dS,q⟩
section
theorem Gu(hK:X.K=K)(hl:PE X l tl):PI X tg l (K8 K tl):=by subst hK;show bO hl
theorem ix_tupK(hK:X.K=K):IxR X (Nu K):=by subst hK;show bT
theorem qH(hK:X.K=K):cZ X (.type "tuple") (λxs H Q=>∃p ys,xs=[.ref p]/\((Ë K H p ys/\∀l,H l=none->Q (.ref l) (upd H l (.tup ys)))\/(Ñ K H p ys/\Q (.ref p) H))):=by subst hK;show cz
end
def StAt(H:Hp)(st:Addr):Prop:=∃a b c,H st=some (.lst [.int a,.int b,.int c])/\0<=a/\0<=b/\b<4294967296
structure Dr(st:Addr)(H H':Hp):Prop where
 bt:∀b o,H b=some o->b≠st->H' b=some o
 sa:StAt H' st
theorem Dr.same(g:Dr st H H1)(s:Â H1 H2):Dr st H H2:=by obtain⟨a,b,c,e,h⟩:=g.sa;show⟨λb' o' e' ne=>s _ _ (g.bt b' o' e' ne),a,b,c,s _ _ e,h⟩
theorem Dr.trans(g:Dr st H H1)(g':Dr st H1 H2):Dr st H H2:=⟨λb' o' e' ne=>g'.bt _ _ (g.bt b' o' e' ne) ne,g'.sa⟩
theorem Dr.refl(h:StAt H st):Dr st H H:=⟨λ_ _ e _=>e,h⟩
theorem Dr.draw(g:Dr st H H1)(h1:0<=a)(h2:0<=b)(h3:b<4294967296):Dr st H (upd H1 st (.lst [.int a,.int b,.int c])):=⟨λb' o' e' ne=>by rw[au ne];show g.bt _ _ e' ne,a,b,c,aa,h1,h2,h3⟩
theorem Dr.ne(g:Dr st H H1)(hp:H1 p=none):p≠st:=λz=>by obtain⟨a,b,c,e,_⟩:=g.sa;rw[z,e]at hp;cases hp
theorem Dr.tups(g:Dr st H H1)(h0:StAt H st):∀b xs,H b=some (.tup xs)->H1 b=some (.tup xs):=λb xs e=>g.bt _ _ e λz=>by obtain⟨_,_,_,e',_⟩:=h0;rw[z,e']at e;cases e
theorem Dr.ths(g:Dr st H H1)(h0:StAt H st)(t:Ð (λ_=>False) H vs ds):Ð (λ_=>False) H1 vs ds:=t.keep (g.tups h0) (λ_ _ z _=>z.elim) λ_ _ z _=>z.elim
inductive ϙ(K:Frag)(vs:List V)(H:Hp)(Q:VK):Prop|mk:∀a(ns:VV)k,(vs=[.ref a,.int k])->(Ë K H a (ns.map V.int))->(0<=k)->(∀i,Q (.int i) H)->ϙ K vs H Q
def Gv(K:Frag):Sp:=λvs H Q _=>ϙ K vs H Q
inductive Λ(K:Frag)(vs:List V)(H:Hp)(Q:VK):Prop|mk:∀a(ns:VV)k,(vs=[.ref a,.int k])->(Ë K H a (ns.map V.int))->(0<=k)->(∀p x y z,H p=none->0<=x->0<=y->y<4294967296->Q (.ref p) (upd H p (.lst [.int x,.int y,.int z])))->Λ K vs H Q
def spState(K:Frag):Sp:=λvs H Q _=>Λ K vs H Q
inductive ũ(vs:List V)(H:Hp)(Q:VK):Prop|mk:∀st n,(vs=[.ref st,.int n])->(StAt H st)->(1<=n)->(n<1073741824)->(∀r a b c,0<=r->r<n->0<=a->0<=b->b<4294967296->Q (.int r) (upd H st (.lst [.int a,.int b,.int c])))->ũ  vs H Q
def jh:Sp:=λvs H Q _=>ũ  vs H Q
theorem mX:bootBuiltins "max"=some (.builtin "max"):=`j
theorem tY:bootBuiltins "min"=some (.builtin "min"):=`j
theorem room_sz(hr:ą k A)(hk:60<=k)(h:sz d<=1000):A.units+(sz d+1)<cLine:=by have:=hr.un;lia
section
theorem Qs:Å [ż,AAs] [ż,AAs] (aG (top 58)):=ċ
theorem ok_cell(F:ü K "_law_cell_at" "_law_cell_at" (top 58) f fd)(T:Mg mg):Ú P w K mg base ù 1 f fd [ż,AAs] (Gv K):=by
 show F.oq Qs `b;obtain⟨a,ns,k,rfl,hS,h0,q⟩:=h;show⟨_,aB (cM (bj jA (pv 1) (aM cj O T.len PySem.boot_len (aO (pv 0) aj)) (bx _)) (aC (aV (pX cD (pv 0) (pv 1)))) bz) (aC (aV aA)),?_⟩;show⟨_,O,_,O,a,_,O,.inl hS,_,_,O,O,_,O,?_⟩;show J3 (λc=>?_) (λ_=>q 0);have c:=ŕ c;rw[Ï]at c;have hk:k.toNat<ns.length:=À;show⟨_,O,_,O,a,_,k,.int ns[k.toNat],O,O,hS,?_,q _⟩;have e:(ns.map V.int)[k.toNat]?=some (.int ns[k.toNat]):=by rw[ì,Ô hk];rfl
 have:=dZ e;rw[show((k.toNat:Nat):Int)=k by lia]at this;show this
theorem sc26:Å [ż,AAs,"_law_cell"] [ż,AAs] (aG (top 59)):=ċ
theorem ok_state(F:ü K "_law_state" "_law_state" (top 59) f fd)(Tm:mg "max"=none)(c1:í P w K mg base 1 "_law_cell_at" [ż,AAs] (Gv K)):Ú P w K mg base ù 2 f fd [ż,AAs] (spState K):=by
 show F.oq sc26 `b;obtain⟨a,ns,k,rfl,hS,h0,q⟩:=h;show⟨_,aB (Ĝ 2 sc26.nd (aJ c1 hr (aO (pv 0) (aO (pv 1) aj)))) (aC (aV (dC (aq (aM (jl O) O Tm mX (aq aA (aq (aU eQ (pv 2) (aU Ld aA aA)) aj))) (aq (aU cA (aU iZ (pv 2) aA) aA) (aq aA aj)))))),?_⟩;show⟨_,O,_,O,a,ns,k,O,hS,h0,λc=>?_⟩;show⟨_,O,_,_,O,O,⟨by decide,by decide,by decide⟩,_,_,O,O,_,_,O,_,O,_,_,O,O,(by show(0:Int)<2147483629;decide),_,_,O,O,zL,λp hp=>?_⟩;show q p _ _ _ hp ?_ ?_ ?_;.split<;>lia
 .show 0<=c%2147483629+1;lia
 .show c%2147483629+1<4294967296;lia
theorem Z0b:Å [ī,AAp,AAm,"_law_mixed"] [ī,AAp] (aG (top 60)):=ċ
theorem ok_choice(F:ü K AAr AAr (top 60) f fd):Ú P w K mg base ù 1 f fd [ī,AAp] jh:=by
 show F.oq Z0b `b;obtain⟨st,n,rfl,⟨a,b,c,es,ha,hb,qA⟩,h1,h2,q⟩:=h;show⟨_,aB (cM (bj jW (pX cD (pv 0) aA) aA (bx _)) (aB (Ĝ 2 Z0b.nd (aU iZ (pX cD (pv 0) aA) (pv 1))) (aB (cP (aU nZ (pX cD (pv 0) aA) (pv 1)) (iy (pv 0) aA ê)) (aC (aV (pv 2))))) bz) (aB (cP (aU cA (pX cD (pv 0) aA) aA) (iy (pv 0) aA ê)) (aB (cP (aU iZ (aU cA (aU cA (aU gM (pX cD (pv 0) aA) aA) aA) (pX cD (pv 0) aA)) aA) (iy (pv 0) aA ê)) (aB (Ĝ 3 Z0b.nd (aU iZ (aU cA (aU cA (aU gM (pX cD (pv 0) aA) (pX cD (pv 0) aA)) (aU gM aA (pX cD (pv 0) aA))) aA) aA)) (aB (Ĝ 3 Z0b.nd (aU iZ (aU cA (aU gM (pv 3) (pv 3)) (aU gM aA (pv 3))) aA)) (aC (aV (aU iZ (aU nZ (pv 3) aA) (pv 1)))))))),?_⟩;show⟨_,O,st,_,0,.int a,O,O,Ë.of es,O,_,_,O,O,_,O,?_⟩;show J3 (λhc=>?_) (λ_=>?_);.refine⟨_,O,st,_,0,.int a,O,O,Ë.of es,O,_,O,_,_,O,O,(by show 0<n;lia),?_⟩;show⟨_,O,st,_,0,.int a,O,O,Ë.of es,O,_,O,_,_,O,O,⟨À,h2⟩,_,O,st,_,0,0,O,O,es,O,_,O,?_⟩;show q (a%n) (a/n) b c (Zcg a À) (Zb3 a À) (Int.ediv_nonneg ha À) hb qA
 .refine⟨_,O,st,_,2,.int c,O,O,Ë.of es,O,_,_,O,O,_,O,st,_,2,2,O,O,es,O,?_⟩;have eL:([V.int a,V.int b,V.int c].set 2 ((λi j:Int=>V.int (i+j)) c 1))=[V.int a,V.int b,V.int (c+1)]:=O;rw[eL];have kS:upd H st (.lst [.int a,.int b,.int (c+1)]) st=some (.lst [.int a,.int b,.int (c+1)]):=aa;show⟨_,O,st,_,1,.int b,O,O,Ë.of kS,O,_,_,O,O,.inl ⟨À,À⟩,_,_,O,O,_,O,st,_,2,.int (c+1),O,O,Ë.of kS,O,_,_,O,O,_,_,O,O,(by show(0:Int)<2147483647;decide),_,O,st,_,1,1,O,O,kS,O,?_⟩;have ME:0<=(b*48271+29+(c+1))%2147483647:=Zcg _ á;have Vx:(b*48271+29+(c+1))%2147483647<2147483647:=Zb3 _ á;obtain⟨m,hm⟩:∃m,m=(b*48271+29+(c+1))%2147483647:=`i;rw[<-hm]at ME Vx;have eL:([V.int a,V.int b,V.int (c+1)].set 1 ((λi j:Int=>V.int (i%j)) (b*48271+29+(c+1)) 2147483647))=[V.int a,V.int m,V.int (c+1)]:=by rw[hm];rfl
  rw[eL];have eu:upd (upd H st (.lst [.int a,.int b,.int (c+1)])) st (.lst [.int a,.int m,.int (c+1)])=upd H st (.lst [.int a,.int m,.int (c+1)]):=by
   funext z;by_cases hz:z=st;.rw[hz,aa,aa]
   .rw[au hz,au hz,au hz]
  rw[eu];have ko:upd H st (.lst [.int a,.int m,.int (c+1)]) st=some (.lst [.int a,.int m,.int (c+1)]):=aa;show⟨_,O,st,_,1,.int m,O,O,Ë.of ko,O,_,O,st,_,1,.int m,O,O,Ë.of ko,O,_,_,O,O,.inl ⟨À,À⟩,_,O,st,_,1,.int m,O,O,Ë.of ko,O,_,_,O,O,.inl ⟨by decide,by decide⟩,_,_,O,O,_,_,O,O,_,_,O,O,(by show(0:Int)<2147483629;decide),?_⟩;have MG:0<=(m*m+39373*m+7)%2147483629:=Zcg _ á;have ze:(m*m+39373*m+7)%2147483629<2147483629:=Zb3 _ á;show⟨_,O,_,O,_,_,O,O,.inl ⟨Int.lt_of_lt_of_le á MG,Int.lt_trans ze á⟩,_,O,_,_,O,O,.inl ⟨by decide,by decide⟩,_,_,O,O,_,_,O,O,(by show(0:Int)<2147483587;decide),?_⟩;show⟨_,O,_,_,O,O,⟨by decide,by decide⟩,_,O,_,_,O,O,(by show 0<n;lia),?_⟩;show q _ a m (c+1) (Zcg _ À) (Zb3 _ À) ha ME À
end
theorem ok_b{R:TS->Prop}(h:BSs X body t)(q:R t):∃t,Ψ X body t/\R t:=⟨t,h.run,q⟩
def rr(rs:VV)(i:Nat):Int:=rs.getD i 0
def bef(rs:VV)(i j:Nat):Bool:=decide (rr rs j<rr rs i)||(decide (rr rs i=rr rs j)&&decide (i<=j))
theorem ď:bef rs i j=true↔rr rs j<rr rs i\/(rr rs i=rr rs j/\i<=j):=by unfold bef;rw[Bool.or_eq_true,ŉ,decide_eq_true_iff,decide_eq_true_iff,decide_eq_true_iff]
structure ϵ(rs:VV)(pl:List Nat):Prop where pm:pl.Perm (List.range rs.length)so:pl.Pairwise λi j=>bef rs i j=true
theorem iK(rs:VV):∃pl,ϵ rs pl:=by
 show⟨(List.range rs.length).mergeSort (bef rs),Zbg _ _,Zcj (λa b c h1 h2=>?_) (λa b=>?_) _⟩;.rw[ď]at h1 h2⊢;lia
 .rw[Bool.or_eq_true,ď,ď];lia
theorem Mt(h:ϵ rs p)(h':ϵ rs q):p=q:=by show List.Perm.eq_of_pairwise (λa b _ _ h1 h2=>?_) h.so h'.so (h.pm.trans h'.pm.symm);rw[ď]at h1 h2;lia
def cQ(fs:VV)(pl:List Nat):VV:=pl.foldl (λl i=>l.set i (l.getD i 0+1)) fs
def fQ(rs:VV)(pl:List Nat):VV:=pl.foldl (λl i=>l.set i (-1)) rs
theorem qI(fs:VV)(pl:List Nat)(i:Nat):cQ fs (pl++[i])=(cQ fs pl).set i ((cQ fs pl).getD i 0+1):=by unfold cQ;rw[Zbj];rfl
theorem yQ(rs:VV)(pl:List Nat)(i:Nat):fQ rs (pl++[i])=(fQ rs pl).set i (-1):=by unfold fQ;rw[Zbj];rfl
theorem jt:∀pl fs,(cQ fs pl).length=fs.length|[],_=>rfl|i::pl,fs=>by show(cQ (fs.set i _) pl).length=_;rw[jt pl,Zbt]
theorem ju:∀pl rs,(fQ rs pl).length=rs.length|[],_=>rfl|i::pl,rs=>by show(fQ (rs.set i _) pl).length=_;rw[ju pl,Zbt]
theorem tZ:∀pl rs i,i<rs.length->(fQ rs pl).getD i 0=if i∈pl then-1 else rs.getD i 0
 |[],rs,i,_=>by simp[fQ];|j::pl,rs,i,h=>by
  show(fQ (rs.set j (-1)) pl).getD i 0=_;rw[tZ pl (rs.set j (-1)) i (by rw[Zbt];show h)];by_cases e:i∈pl;.rw[Ê e,Ê (ώ _ e)]
  .rw[Ç e];by_cases e2:i=j;.subst e2;rw[Ê Ζ,ě,Zcl h];rfl
   .rw[Ç (by simp[e,e2]),ě,List.getElem?_set_ne (Ne.symm e2),<-ě]
theorem pick(h:ϵ rs pl)(h0:∀r∈rs,0<=r)(ht:t<pl.length)(hM:M∈fQ rs (pl.take t))(gi:∀a∈fQ rs (pl.take t),a<=M):(fQ rs (pl.take t))[pl[t]]?=some M/\∀i,i<pl[t]->(fQ rs (pl.take t))[i]?≠some M:=by
 have hlen:=ju (pl.take t) rs;have nd:pl.Nodup:=h.pm.nodup_iff.mpr Zb7;have inr:∀i∈pl,i<rs.length:=λi hi=>ı.mp (h.pm.mem_iff.mp hi);have G1:pl[t]∈pl:=ĕ ht;have nt:pl[t]∉pl.take t:=λhm=>by obtain⟨j,hj,e⟩:=Zaw hm;rw[ė]at hj;rw[Zbe]at e;have:=(List.getElem_inj nd).mp e;lia
 have val:∀i,i<rs.length->(fQ rs (pl.take t))[i]?=some (if i∈pl.take t then-1 else rr rs i):=λi hi=>by have g:=tZ (pl.take t) rs i hi;rw[ě,Ô (by rw[hlen];show hi),Option.getD_some]at g;rw[Ô (by rw[hlen];show hi),g];rfl
 have HC:∀i,i<rs.length->0<=rr rs i:=λi hi=>by unfold rr;rw[ě,Ô hi];show h0 _ (ĕ hi)
 have rest:∀i,i<rs.length->i∉pl.take t->bef rs pl[t] i=true:=λi hi hn=>by
  have Vy:i∈pl:=h.pm.mem_iff.mpr (ı.mpr hi);obtain⟨j,hj,e⟩:=Zaw Vy;have kX:t<=j:=by show Nat.le_of_not_lt λc=>hn ?_;rw[<-e];have:(pl.take t)[j]'(by rw[ė];lia)=pl[j]:=Zbe;rw[<-this];show ĕ _
  by_cases c:t=j;.subst c;rw[e,ď];show .inr ⟨O,Ø _⟩
  .have:=ϲ.mp h.so t j ht hj À;rw[e]at this;show this
 have vt:=val pl[t] (inr _ G1);rw[Ç nt]at vt;have eM:M=rr rs pl[t]:=by
  have h1:rr rs pl[t]<=M:=gi _ (ń vt);obtain⟨i,hi,e⟩:=Zaw hM;rw[hlen]at hi;have v:=val i hi;rw[Ô (by rw[hlen];show hi),e]at v;injection v with v;by_cases c:i∈pl.take t;.rw[Ê c]at v;have:=HC pl[t] (inr _ G1);lia
  .rw[Ç c]at v;have:=ď.mp (rest i hi c);lia
 show⟨by rw[vt,eM],λi hi e=>?_⟩;have eW:i<rs.length:=Nat.lt_trans hi (inr _ G1);rw[val i eW]at e;injection e with e;by_cases c:i∈pl.take t;.rw[Ê c]at e;have:=HC pl[t] (inr _ G1);lia
 .rw[Ç c]at e;have:=ď.mp (rest i eW c);lia
def fs(n:Int)(ws:VV):VV:=ws.map λw=>n*w/ws.sum
def rs(n:Int)(ws:VV):VV:=ws.map λw=>n*w%ws.sum
def lf(n:Int)(ws:VV):Int:=n-(fs n ws).sum
def OkW(ws:VV):Prop:=1<=ws.length/\ws.length<=80/\∀w∈ws,1<=w/\w<=99
theorem vo:∀{l:VV},(∀a∈l,a<=B)->l.sum<=B*l.length|[],_=>by simp;|a::l,h=>by have h1:=vo (B:=B) (l:=l) λb hb=>h b (.tail _ hb);have h2:=h a (.head _);rw[š,İ,show B*((l.length+1:Nat):Int)=B*l.length+B by rw[Int.natCast_add,Int.mul_add];simp];lia
theorem jP:∀{l:VV},(∀a∈l,0<=a)->0<=l.sum|[],_=>by simp;|a::l,h=>by have h1:=jP (l:=l) λb hb=>h b (.tail _ hb);have h2:=h a (.head _);rw[š];lia
theorem OkW.pos(h:OkW ws):1<=ws.sum:=by obtain⟨h1,_,h3⟩:=h;match ws,h1,h3 with
 |w::ws,_,h3=>
  have:=jP (l:=ws) λa ha=>by have:=h3 a (.tail _ ha);lia
  have:=h3 w (.head _);rw[š];lia
theorem OkW.top(h:OkW ws):ws.sum<=7920:=by have h1:=vo (B:=99) λa ha=>(h.2.2 a ha).2;have:=h.2.1;lia
theorem divs(n T:Int):∀ws:VV,T*(ws.map λw=>n*w/T).sum+(ws.map λw=>n*w%T).sum=n*ws.sum|[]=>by simp;|w::ws=>by have h1:=divs n T ws;have h2:=Int.mul_ediv_add_emod (n*w) T;simp only[List.map_cons,List.sum_cons,Int.mul_add];lia
theorem Mu(n:Int)(ws:VV):ws.sum*lf n ws=(rs n ws).sum:=by have h:=divs n ws.sum ws;unfold lf fs rs;rw[Int.mul_sub,Int.mul_comm ws.sum n];lia
theorem Km(h:OkW ws):∀r∈rs n ws,0<=r:=λr hr=>by obtain⟨w,_,rfl⟩:=Ù.mp hr;have:=h.pos;show Zcg _ À
theorem Ox(h:OkW ws):∀r∈rs n ws,r<=ws.sum:=λr hr=>by obtain⟨w,_,rfl⟩:=Ù.mp hr;have:=h.pos;show Int.le_of_lt (Zb3 _ À)
theorem qJ(n:Int)(ws:VV):(fs n ws).length=ws.length:=Ï _
theorem gO(n:Int)(ws:VV):(rs n ws).length=ws.length:=Ï _
theorem Bm(h:OkW ws):0<=lf n ws:=by have h1:=Mu n ws;have h2:=jP (Km (n:=n) h);have h3:=h.pos;show Int.le_of_not_gt λc=>?_;have:=Int.mul_le_mul_of_nonneg_left (c:=ws.sum) (show lf n ws<=-1 by lia) À;lia
theorem Gw(h:OkW ws):lf n ws<=ws.length:=by have h1:=Mu n ws;have h2:=vo (Ox (n:=n) h);rw[gO]at h2;have h3:=h.pos;show Int.le_of_not_gt λc=>?_;have:=Int.mul_le_mul_of_nonneg_left (c:=ws.sum) (show(ws.length:Int)+1<=lf n ws by lia) À;rw[Int.mul_add]at this;lia
theorem Mv(h:OkW ws):lf ws.sum ws=0:=by
 have h1:=Mu ws.sum ws;have h2:(rs ws.sum ws).sum<=0:=by
  have:=vo (B:=0) (l:=rs ws.sum ws) λr hr=>by obtain⟨w,_,rfl⟩:=Ù.mp hr;rw[Int.mul_emod_right];show Ϯ _
  lia
 have h3:=h.pos;have h4:=Bm (n:=ws.sum) h;show Int.le_antisymm (Int.le_of_not_gt λc=>?_) h4;have:=Int.mul_le_mul_of_nonneg_left (c:=ws.sum) (show 1<=lf ws.sum ws by lia) À;lia
theorem u0:∀pl l i,i<l.length->(cQ l pl).getD i 0=l.getD i 0+pl.count i
 |[],l,i,_=>by simp[cQ];|j::pl,l,i,h=>by
  show(cQ (l.set j (l.getD j 0+1)) pl).getD i 0=_;rw[u0 pl _ i (by rw[Zbt];show h),List.count_cons];by_cases e:j=i;.subst e;rw[ě,Zcl h,Option.getD_some,beq_self_eq_true,Ê O];lia
  .rw[ě,List.getElem?_set_ne e,<-ě,Ç (by simp[e])];lia
theorem ϵ.nd(h:ϵ r pl):pl.Nodup:=h.pm.nodup_iff.mpr Zb7
theorem ϵ.len(h:ϵ r pl):pl.length=r.length:=by rw[h.pm.length_eq,Zay]
theorem ϵ.lt(h:ϵ r pl):∀i∈pl,i<r.length:=λi hi=>ı.mp (h.pm.mem_iff.mp hi)
def res(n:Int)(ws:VV):VV:=cQ (fs n ws) ((iK (rs n ws)).choose.take (lf n ws).toNat)
theorem Gx(h:ϵ (rs n ws) pl):cQ (fs n ws) (pl.take (lf n ws).toNat)=res n ws:=by unfold res;rw[Mt h (iK (rs n ws)).choose_spec]
theorem res_len(n:Int)(ws:VV):(res n ws).length=ws.length:=by unfold res;rw[jt,qJ]
theorem res_get(h:OkW ws)(n0:0<=n)(n1:n<=ws.sum){i:Nat}(hr:(res n ws)[i]?=some r)(hw:ws[i]?=some w):0<=r/\r<=w:=by
 have hi:i<ws.length:=(ĉ.mp hw).1;have hp:=h.pos;have ww:=h.2.2 w (ń hw);have e:r=n*w/ws.sum+((iK (rs n ws)).choose.take (lf n ws).toNat).count i:=by
  have:=u0 ((iK (rs n ws)).choose.take (lf n ws).toNat) (fs n ws) i (by rw[qJ];show hi);have e2:(fs n ws).getD i 0=n*w/ws.sum:=by unfold fs;rw[ě,ì,hw];rfl
  rw[e2]at this;rw[<-this,show cQ (fs n ws) _=res n ws from O,ě,hr];rfl
 have c1:((iK (rs n ws)).choose.take (lf n ws).toNat).count i<=1:=List.nodup_iff_count.mp ((iK (rs n ws)).choose_spec.nd.sublist (Za2 _ _)) i;have q0:0<=n*w/ws.sum:=Int.ediv_nonneg (Int.mul_nonneg n0 À) À;show⟨À,?_⟩;by_cases en:n=ws.sum
 .have:((iK (rs n ws)).choose.take (lf n ws).toNat)=[]:=by rw[en,Mv h];rfl
  rw[this]at e;rw[en,Int.mul_ediv_cancel_left _ À]at e;simp at e;lia
 .have:n*w/ws.sum<w:=by apply Int.ediv_lt_of_lt_mul À;rw[Int.mul_comm w];show Int.mul_lt_mul_of_pos_right À À
  lia
theorem u5{ws:VV}{Fin:List V->Hp->Prop}(f:Int->Int)(ep:H0 p=some (.tup (ws.map V.int)))(hl:ws.length<sizeLine)(mS:∀z Q,z∈ws->Q (.int (f z)) H0->te (cy.set 0 (some (.int z))) H0 Q)(fin:Fin ((ws.map f).map V.int) H0):km (Itt K p) (bu 0) qZ te Fin cy H0:=by
 show comp_gen ws.length (λi ys σ H=>H=H0/\(∀o,σ.set 0 o=cy.set 0 o)/\ys=((ws.take i).map f).map V.int) ⟨O,λ_=>rfl,O⟩ hl ?_ ?_
 .rintro i ys σ H hi hy⟨rfl,iA,rfl⟩;have hz:(ws.map V.int)[i]?=some (.int ws[i]):=by rw[ì,Ô hi];rfl
  show⟨⟨_,_,Ñ.of ep,hz⟩,λv H' y' R hR=>?_⟩;obtain⟨rfl,y'⟩:=y';have hv:=y' _ (Ñ.of ep);rw[hz]at hv;cases hv;show te (σ.set 0 (some (.int ws[i]))) _ _;rw[iA];show mS ws[i] _ (ĕ hi) (hR _ _ _ ⟨O,λo=>by rw[List.set_set],?_⟩);rw[ġ,Ô hi,é,é];rfl
 .rintro ys σ H hy⟨rfl,iA,rfl⟩;show⟨⟨_,Ñ.of ep,by rw[Ï];show Ø _⟩,?_⟩;rw[Ņ];show fin
def wD(ws:VV):PyData:=.tuple (ws.map PyData.int)
theorem xn:∀(r:VV),ņ (r.map PyData.int)=r.length|[]=>rfl|_::r=>by show 1+ņ (r.map PyData.int)=r.length+1;rw[xn r,Nat.add_comm]
theorem Qt(ws:VV):sz (wD ws)=1+ws.length:=by show 1+ņ (ws.map PyData.int)=_;rw[xn]
theorem Qu(h:OkW ws):jg (wD ws)=true:=by
 unfold jg;rw[ŉ];show⟨?_,Ε.mpr λd hd=>?_⟩;.show(true&&(decide (1<=((ws.map PyData.int).length:Int))&&decide (((ws.map PyData.int).length:Int)<=80)))=true;have h1:=h.1;have h2:=h.2.1;rw[Ï,ç À,ç À];rfl
 .obtain⟨w,hw,rfl⟩:=Ù.mp hd;have:=h.2.2 w hw;show(true&&(decide (1<=w)&&decide (w<=99)))=true;rw[ç this.1,ç this.2];rfl
inductive ť(vs:List V)(H:Hp)(Q:VK):Prop|mk:∀n p ws,(vs=[.int n,.ref p])->(H p=some (.tup (ws.map V.int)))->(OkW ws)->(0<=n)->(n<=ws.sum)->(∀H',Â H H'->Q .non H')->ť  vs H Q
def xu:Sp:=λvs H Q _=>ť  vs H Q
inductive Ŧ(vs:List V)(H:Hp)(Q:VK):Prop|mk:∀p rests,(vs=[.ref p])->(H p=some (.lst ((rests:VV).map V.int)))->(rests.length<sizeLine)->(∀H' q pl,ϵ rests pl->Â H H'->H q=none->H' q=some (.lst (pl.map λj:Nat=>V.int (j:Int)))->Q (.ref q) H')->Ŧ  vs H Q
def xx:Sp:=λvs H Q _=>Ŧ  vs H Q
inductive Ξ(vs:List V)(H:Hp)(Q:VK):Prop|mk:∀n p ws,(vs=[.int n,.ref p])->(H p=some (.tup (ws.map V.int)))->(OkW ws)->(0<=n)->(n<=ws.sum)->(∀H' q,Â H H'->H' q=some (.tup ((res n ws).map V.int))->Q (.ref q) H')->Ξ  vs H Q
def spParts:Sp:=λvs H Q _=>Ξ  vs H Q
def iU(H:Hp)(a:Addr):Nat:=match H a with|some (.tup [_,.int y])=>y.toNat|_=>0
def Ş(H:Hp)(a:Addr):VV:=match H a with|some (.tup [.int x,.int y])=>[x,y]|_=>[]
theorem Oz(h:rests[i]?=some x):rr rests i=x:=by unfold rr;rw[ě,h];rfl
theorem JG(h:HT.lexLt [-(rr rests j),(j:Int)] [-(rr rests i),(i:Int)]=false):bef rests i j=true:=by
 rw[ď];rw[HT.lexLt_cons]at h;by_cases e:-(rr rests j)=-(rr rests i)
 .rw[Ê e,HT.lexLt_cons]at h;by_cases e2:(j:Int)=(i:Int);.exact .inr ⟨À,À⟩
  .rw[Ç e2]at h;have:=of_decide_eq_false h;show .inr ⟨À,À⟩
 .rw[Ç e]at h;have:=of_decide_eq_false h;show .inl À
section
theorem Qv:Å ["sacks","weights"] ["sacks","weights"] (aG (top 40)):=ċ
theorem ok_refuse(F:ü K "refuse_unpartable" "refuse_unpartable" (top 40) f fd)(Ts:mg "sum"=none)(c1:í P w K mg base 4 "are_weights" ["thing"] (Ŗ jg))(c2:í P w K mg base 2 "is_whole_from" ["thing","least","most"] (qy xj)):Ú P w K mg base ù 5 f fd ["sacks","weights"] xu:=by
 show F.oq Qv `b;obtain⟨n,p,ws,rfl,ep,ok,n0,n1,q⟩:=h;show⟨_,aB (cM (dY (fZ (aJ c1 hr (aO (pv 1) aj)))) (aC iW) bz) (aC (cM (dY (fZ (aJ c2 hr (aO (pv 0) (aO aA (aO (aM (cY O) O Ts ö (aq (pv 1) aj)) aj)))))) (aC iW) bz)),?_⟩;show`e;show⟨_,O,λ_=>False,_,wD ws,O,.tup ep (Ð.ints ws),by rw[Qt];have:=ok.2.1;lia,λH1 s1=>⟨_,O,?_⟩⟩;rw[Qu ok];apply bG;apply ab
 show⟨_,O,_,O,p,ws,O,.inr (Ñ.of (s1 _ _ ep)),λ_=>False,_,.int n,0,_,O,.int n,(by show 1<=4000;decide),λH2 s2=>⟨_,O,?_⟩⟩;have e:xj (.int n) 0 ws.sum=true:=by show(true&&(decide (0<=n)&&decide (n<=ws.sum)))=true;rw[ç n0,ç n1];rfl
 rw[e];show bG (q H2 (s1.trans s2))
theorem Z0c:Å ["rests","ranked"] ["rests"] (aG (top 41)):=ċ
theorem ok_places(F:ü K "places_by_rest" "places_by_rest" (top 41) f fd)(Te:mg "enumerate"=none)(Ts:mg "sorted"=none):Ú P w K mg base ù 1 f fd ["rests"] xx:=by
 show F.oq Z0c `b;obtain⟨p,rests,rfl,ep,hz,q⟩:=h;show⟨_,aB (Ĝ 1 Z0c.nd (aM uU O Ts Ā (aq (bI (g:=jE K 2 (bL (bu 0) (bL (bu 1) jU))) ["at","rest"] [none,none] O (ZT.pi_enum false O Te (aq (pv 0) aj)) (λC fp Á s₂ Í=>⟨du O O (ao (bw (i:=0) (nd2 _ _ á) O (Or.inl O) (Or.inr O)) (ao (bw (i:=1) (nd2 _ _ á) O (Or.inl O) (Or.inr O)) aR)),bD,bh (aq (K9 Eg (pv 1)) (aq (pv 0) aj))⟩) (λC=>trivial) ⟨O,O,O,O⟩) aj))) (aC (aV (bI (g:=jE K 2 (bL (bu 0) (bL (bu 1) jU))) ["minus","at"] [none,none] O (bO (pv 1)) (λC fp Á s₂ Í=>⟨du O O (ao (bw (i:=0) (nd2 _ _ á) O (Or.inl O) (Or.inr O)) (ao (bw (i:=1) (nd2 _ _ á) O (Or.inl O) (Or.inr O)) aR)),bD,pv 1⟩) (λC=>trivial) ⟨O,O,O,O⟩))),?_⟩;apply aW;show⟨_,O,p,_,O,Ë.of ep,comp_gen rests.length (λi ys σ Hc=>Â H Hc/\(∃o1 o2,σ=[o1,o2])/\∃ts:ø,ys=ts.map V.ref/\∀j,j<i->∃a,ts[j]?=some a/\Hc a=some (.tup [.int (-(rr rests j)),.int (j:Int)])) ⟨Â.refl H,⟨_,_,O⟩,[],O,λj hj=>absurd hj (Zbs _)⟩ hz ?_ ?_⟩
 .rintro i ys σ Hc hi hy⟨s1,⟨o1,o2,rfl⟩,ts,rfl,va⟩;rw[Ï]at hy;have vk:Ë K Hc p (rests.map V.int):=Ë.of (s1 _ _ ep);have hx:(rests.map V.int)[i]?=some (.int (rr rests i)):=by rw[ì,Ô hi,Oz (Ô hi)];rfl
  show⟨⟨_,_,vk,hx⟩,λv H' y R hR=>?_⟩;obtain⟨T,nT,rfl,y⟩:=y;obtain⟨x',fR,rfl⟩:=y _ vk;rw[hx]at fR;cases fR;have s2:=s1.updR (o:=.tup [.int (i:Int),.int (rr rests i)]) nT;show⟨T,_,O,Ñ.of aa,O,_,_,O,_,_,O,O,_,O,rr rests i,O,_,O,zL,λt ht=>?_⟩;show hR _ _ _ ⟨s2.updR ht,⟨_,_,O⟩,ts++[t],by rw[é];rfl,λj hj=>?_⟩;by_cases e:j<i;.obtain⟨a,h1,h2⟩:=va j e;show⟨a,by rw[ŭ À];show h1,?_⟩;show Â.upd ht _ _ (Â.upd nT _ _ h2)
  .have e:j=i:=À;subst e;show⟨t,by rw[Ů À,hy,Zbx];rfl,aa⟩
 .rintro ys σ Hc hy⟨s1,_,ts,rfl,va⟩;rw[Ï]at hy;show⟨⟨_,Ë.of (s1 _ _ ep),by rw[Ï];show Ø _⟩,λD hD=>?_⟩;have s2:=s1.updR (o:=.lst (ts.map V.ref)) hD;have zh:∀j,j<rests.length->∃a,ts[j]?=some a/\upd Hc D (.lst (ts.map V.ref)) a=some (.tup [.int (-(rr rests j)),.int (j:Int)]):=λj hj=>by obtain⟨a,h1,h2⟩:=va j hj;show⟨a,h1,Â.upd hD _ _ h2⟩
  have eD:=aa (H:=Hc) (a:=D) (o:=.lst (ts.map V.ref));generalize upd Hc D (.lst (ts.map V.ref))=H2 at s2 zh eD⊢;clear va hD s1;have vn:∀a∈ts,∃j,j<rests.length/\H2 a=some (.tup [.int (-(rr rests j)),.int (j:Int)]):=λa ha=>by obtain⟨j,hj,e⟩:=Zaw ha;obtain⟨b,h1,h2⟩:=zh j À;rw[Ô hj]at h1;injection h1 with h1;show⟨j,À,?_⟩;rw[<-e,h1];show h2
  show⟨D,ts,Ş H2,O,Ë.of eD,λa ha=>?_,λq' l' hq pm so=>?_⟩
  .obtain⟨j,hj,e⟩:=vn a ha;have er:Ş H2 a=[-(rr rests j),(j:Int)]:=by unfold Ş;rw[e]
   rw[er];show⟨Ñ.of e,by simp⟩
  have y9:∀a∈l',∃j,j<rests.length/\H2 a=some (.tup [.int (-(rr rests j)),.int (j:Int)]):=λa ha=>vn a (pm.mem_iff.mp ha);have sn:∀a∈l',H2 a=some (.tup [.int (-(rr rests (iU H2 a))),.int (iU H2 a:Int)])/\Ş H2 a=[-(rr rests (iU H2 a)),(iU H2 a:Int)]:=λa ha=>by
   obtain⟨j,hj,e⟩:=y9 a ha;have er:Ş H2 a=[-(rr rests j),(j:Int)]:=by unfold Ş;rw[e]
   have es:iU H2 a=j:=by unfold iU;rw[e];show Ž j
   rw[er,es];show⟨e,O⟩
  have ord:ϵ rests (l'.map (iU H2)):=by
   show⟨?_,?_⟩
   .refine(pm.map _).trans (List.Perm.of_eq (Zbw λj=>?_));by_cases hj:j<rests.length;.obtain⟨a,h1,h2⟩:=zh j hj;rw[ì,h1,List.getElem?_range hj];show some (iU H2 a)=some j;unfold iU;rw[h2];show congrArg some (Ž j)
    .rw[η (by rw[Ï];lia),η (by rw[Zay];lia)]
   .refine ň.mpr (so.imp_of_mem λ{a b}ha hb h=>?_);rw[(sn a ha).2,(sn b hb).2]at h;show JG h
  have s3:=s2.updR (o:=.lst (l'.map V.ref)) hq;have ell:l'.length=rests.length:=by rw[pm.length_eq,hy]
  have D8:=aa (H:=H2) (a:=q') (o:=.lst (l'.map V.ref));have ML:∀a∈l',upd H2 q' (.lst (l'.map V.ref)) a=some (.tup [.int (-(rr rests (iU H2 a))),.int (iU H2 a:Int)]):=λa ha=>Â.upd hq _ _ (sn a ha).1;generalize iU H2=sd at ord ML;generalize upd H2 q' (.lst (l'.map V.ref))=H3 at s3 D8 ML⊢;dsimp only;apply jM;show⟨_,O,q',O,⟨_,Ë.of D8⟩,comp_gen rests.length (λi ys σ Hc=>Â H3 Hc/\(∃o1 o2,σ=[o1,o2])/\ys=((l'.take i).map sd).map λj:Nat=>V.int (j:Int)) ⟨Â.refl H3,⟨_,_,O⟩,O⟩ hz ?_ ?_⟩
  .rintro i ys σ Hc hi hy⟨s4,⟨o1,o2,rfl⟩,rfl⟩;have eW:i<l'.length:=À;have hu:(l'.map V.ref)[i]?=some (.ref l'[i]):=by rw[ì,Ô eW];rfl
   show⟨⟨_,_,Ë.of (s4 _ _ D8),hu⟩,λv H' y R hR=>?_⟩;obtain⟨rfl,y⟩:=y;have hv:=y _ (Ë.of (s4 _ _ D8));rw[hu]at hv;cases hv;show⟨l'[i],_,O,Ñ.of (s4 _ _ (ML _ (ĕ eW))),O,_,_,O,_,_,O,O,_,O,hR _ _ _ ⟨s4,⟨_,_,O⟩,?_⟩⟩;rw[ġ,Ô eW,é,é];rfl
  .rintro ys σ Hc me⟨s4,_,rfl⟩;show⟨⟨_,Ë.of (s4 _ _ D8),by rw[Ï];lia⟩,λD' R5=>?_⟩;have s5:=s3.trans s4;have hn:H D'=none:=s5.free R5;show q _ D' _ ord (s5.updR R5) hn ?_;rw[aa,θ À]
end
end K60P
open K60 (qF)
namespace K60P
open PySem L2
theorem vp(h:j<n):ϧ n (j:Int)=some j:=by unfold ϧ;rw[Ê À,Ê À,Ž]
theorem Gy(ok:OkW ws):ws.length<sizeLine:=by have:=ok.2.1;rw[sizeLine_eq];lia
section
theorem OD:(["weight","sacks","together"]:Đ).Nodup:=`j
theorem ſ:Å ["sacks","weights","together","parts","rests","left","at"] ["sacks","weights"] (aG (top 42)):=ċ
theorem ok_parts(F:ü K "parts_of" "parts_of" (top 42) f fd)(T:Mg mg)(Ts:mg "sum"=none)(c1:í P w K mg base 1 "places_by_rest" ["rests"] xx):Ú P w K mg base ù 2 f fd ["sacks","weights"] spParts:=by
 show F.oq ſ `b;obtain⟨n,p,ws,rfl,ep,ok,n0,n1,q⟩:=h;show⟨_,aB (lZ (i:=2) ſ.nd O (Or.inr O) (aM (cY O) O Ts ö (aq (pv 1) aj))) (aB (gG (i:=3) ["weight","sacks","together"] [none,some 0,some 2] O ſ.nd O (Or.inl O) (iz (pv 1)) (λC fp Á s₂ Í=>⟨Ó 0 OD,bD,aU nZ (aU gM (pv 1) (pv 0)) (pv 2)⟩) (λC=>cI (cI trivial)) ⟨O,O,O,O⟩) (aB (gG (i:=4) ["weight","sacks","together"] [none,some 0,some 2] O ſ.nd O (Or.inl O) (iz (pv 1)) (λC fp Á s₂ Í=>⟨Ó 0 OD,bD,aU iZ (aU gM (pv 1) (pv 0)) (pv 2)⟩) (λC=>cI (cI trivial)) ⟨O,O,O,O⟩) (aB (Ĝ 5 ſ.nd (aU eQ (pv 0) (aM (cY O) O Ts ö (aq (pv 3) aj)))) (aB (bR Ń O (bO (jY J0 (aJ c1 hr (aq (pv 4) aj)) o9 (oh (pv 5)))) (Ó 6 ſ.nd) (aC (ut (pv 3) (pv 6) jr aA Ed ê))) (aC (aV (bK cz O T.tuple å (aq (pv 3) aj)))))))),?_⟩;have hp:=ok.pos;have ht:=ok.top;have vw:=Gy ok;show`e;show⟨_,O,p,ws,O,.inr (Ñ.of ep),?_⟩;apply ab
 show`e;show⟨_,O,p,O,⟨_,Ñ.of ep⟩,u5 (λz=>n*z/ws.sum) ep vw (λz Q hz h=>⟨_,O,_,O,_,_,O,O,.inl ⟨À,À⟩,_,O,_,_,O,O,⟨À,À⟩,h⟩) ?_⟩;rw[show ws.map (λz=>n*z/ws.sum)=fs n ws from O];intro l1 fI;have s1:=Â.upd (o:=.lst ((fs n ws).map V.int)) fI;have ĝ:=aa (H:=H) (a:=l1) (o:=.lst ((fs n ws).map V.int));generalize upd H l1 _=H1 at s1 ĝ⊢;apply ab
 show`e;show⟨_,O,p,O,⟨_,Ñ.of (s1 _ _ ep)⟩,u5 (λz=>n*z%ws.sum) (s1 _ _ ep) vw (λz Q hz h=>⟨_,O,_,O,_,_,O,O,.inl ⟨À,À⟩,_,O,_,_,O,O,(by show 0<ws.sum;lia),h⟩) ?_⟩;rw[show ws.map (λz=>n*z%ws.sum)=rs n ws from O];intro l2 gu;have s2:=s1.updR (o:=.lst ((rs n ws).map V.int)) gu;have Č:=aa (H:=H1) (a:=l2) (o:=.lst ((rs n ws).map V.int));have gp:=Â.upd (o:=.lst ((rs n ws).map V.int)) gu _ _ ĝ;have Bn:H l1=none:=fI;clear fI gu;generalize upd H1 l2 _=H2 at s2 Č gp⊢;clear ĝ s1;apply ab
 show`e;show⟨_,O,_,O,l1,fs n ws,O,.inl (Ë.of gp),_,_,O,O,?_⟩;show _;apply ab
 rw[show n-(fs n ws).sum=lf n ws from O];apply aW;show⟨_,O,l2,rs n ws,O,Č,by rw[gO];show vw,λH3 l3 pl ord s3 Vz ϩ=>⟨_,O,_,O,l3,_,O,Ë.of ϩ,λl4 BA=>⟨l4,O,⟨_,Ë.of aa⟩,?_⟩⟩⟩;have VA:=Bm (n:=n) ok;have VB:=Gw (n:=n) ok;have MM:=ord.len;rw[gO]at MM;have MO:nJ (pl.map λj:Nat=>V.int (j:Int)) none (some (lf n ws))=(pl.take (lf n ws).toNat).map λj:Nat=>V.int (j:Int):=by rw[List.map_take,<-qF (i:=(lf n ws).toNat) (by rw[Ï];lia),show((lf n ws).toNat:Int)=lf n ws by lia]
 rw[MO];have fin:=Gx ord;have inr:∀j∈pl.take (lf n ws).toNat,j<ws.length:=λj hj=>by have:=ord.lt j (Zaz hj);rw[gO]at this;show this
 generalize pl.take (lf n ws).toNat=pk at fin inr BA⊢;have s4:=(s2.trans s3).updR (o:=.lst (pk.map λj:Nat=>V.int (j:Int))) BA;have el4:=aa (H:=H3) (a:=l4) (o:=.lst (pk.map λj:Nat=>V.int (j:Int)));have D9:=Â.upd (o:=.lst (pk.map λj:Nat=>V.int (j:Int))) BA _ _ (s3 _ _ gp);have VC:l4≠l1:=λz=>by rw[z,s3 _ _ gp]at BA;cases BA
 generalize upd H3 l4 (.lst (pk.map λj:Nat=>V.int (j:Int)))=H4 at s4 el4 D9⊢;clear BA ϩ Vz s3 gp Č s2;show gb (xs:=pk.map λj:Nat=>V.int (j:Int)) (λi σ Hc=>∃o6,σ=[some (.int n),some (.ref p),some (.int ws.sum),some (.ref l1),some (.ref l2),some (.int (lf n ws)),o6]/\Â H Hc/\Hc l4=some (.lst (pk.map λj:Nat=>V.int (j:Int)))/\Hc l1=some (.lst ((cQ (fs n ws) (pk.take i)).map V.int))) ?_ ?_ ?_ ?_;.exact⟨none,O,s4,el4,D9⟩
 .rintro i σ Hc hi⟨o6,rfl,s5,e4,e1⟩;show Ë.of e4
 .rintro i v σ Hc hv⟨o6,rfl,s5,e4,e1⟩;rw[ì]at hv;cases hj:pk[i]? with|none=>rw[hj]at hv;cases hv;|some j=>
   rw[hj]at hv;cases hv;apply aD;have kp:∀o,Â H (upd Hc l1 o):=λo b u e=>by rw[au (az e Bn)];show s5 _ _ e
   have ax:j<(cQ (fs n ws) (pk.take i)).length:=by rw[jt,qJ];show inr j (ń hj)
   have hx:((cQ (fs n ws) (pk.take i)).map V.int)[((j:Nat):Int).toNat]?=some (.int ((cQ (fs n ws) (pk.take i)).getD j 0)):=by rw[Ž,ì,Ô ax,ě,Ô ax];rfl
   show⟨_,O,_,O,l1,_,(j:Int),_,O,O,Ë.of e1,À,hx,_,_,O,O,l1,_,(j:Int),j,O,O,e1,vp (by rw[Ï];show ax),?_⟩;show⟨_,O,kp _,by rw[au VC];show e4,?_⟩;rw[aa,ġ,hj];show _=some (HO.lst ((cQ (fs n ws) (pk.take i++[j])).map V.int));rw[qI,List.map_set]
 .rintro σ Hc⟨o6,rfl,s5,e4,e1⟩;rw[Ï,Ņ,fin]at e1;dsimp only;apply jM;show⟨_,O,l1,_,O,.inl ⟨Ë.of e1,λt ht=>q _ t (s5.updR ht) aa⟩⟩
theorem Ų:Å ["sacks","weights"] ["sacks","weights"] (aG (top 43)):=ċ
theorem ok_parted(F:ü K "parted" "parted" (top 43) f fd)(c1:í P w K mg base 5 "refuse_unpartable" ["sacks","weights"] xu)(c2:í P w K mg base 2 "parts_of" ["sacks","weights"] spParts):Ú P w K mg base ù 6 f fd ["sacks","weights"] spParts:=by
 show F.oq Ų `b;obtain⟨n,p,ws,rfl,ep,ok,n0,n1,q⟩:=h;show⟨_,aB (dJ (aJ c1 hr (aq (pv 0) (aq (pv 1) aj)))) (aC (aV (aJ c2 hr (aq (pv 0) (aq (pv 1) aj))))),?_⟩;show`e;show⟨_,O,_,O,n,p,ws,O,ep,ok,n0,n1,λH1 s1=>?_⟩;apply ab
 apply jM;show⟨_,O,_,O,n,p,ws,O,s1 _ _ ep,ok,n0,n1,λH2 t s2 et=>q H2 t (s1.trans s2) et⟩
end
end K60P
namespace K60
open PySem L2
def aX:Int->UV->VV|_,[]=>[]|w,r::rs=>(if w<fl r 3 then w else fl r 3)::aX (w-(if w<fl r 3 then w else fl r 3)) rs
theorem iM:∀w rs r,aX w (rs++[r])=aX w rs++[if w-(aX w rs).sum<fl r 3 then w-(aX w rs).sum else fl r 3]|w,[],r=>by show[_]=[_];rw[show(aX w []).sum=0 from O,Int.sub_zero];|w,q::rs,r=>by rw[List.cons_append];unfold aX;rw[iM _ rs r,List.cons_append,š,show∀a b c:Int,a-b-c=a-(b+c)from λa b c=>by lia]
theorem dw:∀w rs,(aX w rs).length=rs.length|_,[]=>rfl|w,r::rs=>by unfold aX;rw[İ,İ,dw]
inductive ϗ(vs:List V)(H:Hp)(Q:VK):Prop|mk:∀w l xs rs,(vs=[.int w,.ref l])->(H l=some (.lst xs))->(ß H xs rs)->((∀r∈rs,r.length=4))->(rs.length<=100000)->(∀m H',Â H H'->H m=none->H' m=some (.lst ((aX w rs).map V.int))->Q (.ref m) H')->ϗ  vs H Q
def Gz:Sp:=λvs H Q _=>ϗ  vs H Q
def bf(w:Int)(rs:UV):VV:=if(ú rs).sum<=w then ú rs else K60P.res w (ú rs)
inductive ţ(vs:List V)(H:Hp)(Q:VK):Prop|mk:∀w l xs rs,(vs=[.int w,.ref l])->(H l=some (.lst xs))->(ß H xs rs)->((∀r∈rs,r.length=4/\1<=fl r 3/\fl r 3<=99))->(rs.length<=80)->(0<=w)->(∀t H',Â H H'->H' t=some (.tup ((bf w rs).map V.int))->Q (.ref t) H')->ţ  vs H Q
def xF:Sp:=λvs H Q _=>ţ  vs H Q
theorem ű:Å ["wool","owed","shares","left","due","number","holder","sacks","share"] ["wool","owed"] (aG (top 48)):=ċ
theorem JH(F:ü K "made_good" "made_good" (top 48) f fd)(Tn:mg "min"=none):Ú P w K mg base ù 1 f fd ["wool","owed"] Gz:=by
 show F.oq ű `b;obtain⟨w0,l,xs,rs,rfl,el,bg,h4,hz,q⟩:=h;show⟨_,aB (Ĝ 2 ű.nd (dC aj)) (aB (Ĝ 3 ű.nd (pv 0)) (aB (bR Ń O (bO (pv 1)) (bF O (ao (Ó 4 ű.nd) (ao (Ó 5 ű.nd) (ao (Ó 6 ű.nd) (ao (Ó 7 ű.nd) aR))))) (aB (Ĝ 8 ű.nd (aM (fY O) O Tn Z02 (aq (pv 7) (aq (pv 3) aj)))) (aB (dJ (jB zBe zBg zBf di (pv 2) (aq (pv 8) aj))) (aC (mj (i:=3) ű.nd O (Or.inl O) (pv 8) Ef))))) (aC (aV (pv 2))))),?_⟩;show aW (aQ ?_);show⟨zL,λm hm=>?_⟩;apply aD;dsimp only;show aW (aQ ?_);show⟨_,O,?_⟩;apply aD;dsimp only;apply aW;have s1:=Â.upd (o:=.lst []) hm;have nl:l≠m:=az el hm;show⟨_,O,l,O,⟨_,Ë.of (s1 _ _ el)⟩,?_⟩;show gb (xs:=xs) (λi σ Hc=>Xe5 λx4 x5 x6 x7 x8=>Xa3 (σ=[some (.int w0),some (.ref l),some (.ref m),some (.int (w0-(aX w0 (rs.take i)).sum)),x4,x5,x6,x7,x8]) ((∀b o,H b=some o->Hc b=some o)) (Hc m=some (.lst ((aX w0 (rs.take i)).map V.int)))) ?_ ?_ ?_ ?_;.refine⟨none,none,none,none,none,?_,λb o e=>s1 _ _ e,aa⟩;rw[Zb6,show(aX w0 []).sum=0 from O,Int.sub_zero];rfl
 .rintro i σ Hc hi⟨x4,x5,x6,x7,x8,rfl,k,em⟩;show Ë.of (k _ _ el)
 .rintro i x σ Hc hx⟨x4,x5,x6,x7,x8,rfl,k,em⟩;have hi:i<rs.length:=by have:=(ĉ.mp hx).1;rw[bg.1]at this;show this
  obtain⟨t,ex,et⟩:=bg.2 i rs[i] (Ô hi);rw[ex]at hx;cases hx;rw[bW (h4 _ (ĕ hi))]at et;show⟨t,_,O,Ñ.of (k _ _ et),O,_,_,O,_,_,O,_,_,O,_,_,O,O,?_⟩;show aW (aQ ?_);show⟨_,O,_,O,_,_,O,?_⟩;apply aD;dsimp only;apply aW;show⟨_,O,.inl ⟨O,_,Ë.of em⟩,_,O,m,_,_,O,O,em,?_,?_⟩;.rw[Ï,dw,ė,sizeLine_eq];lia
  have bq:rs.take (i+1)=rs.take i++[rs[i]]:=by rw[ġ,Ô hi];rfl
  dsimp only;show⟨_,O,_,O,_,_,O,O,some (.int (fl rs[i] 0)),some (.int (fl rs[i] 1)),some (.int (fl rs[i] 2)),some (.int (fl rs[i] 3)),some (.int (if w0-(aX w0 (rs.take i)).sum<fl rs[i] 3 then w0-(aX w0 (rs.take i)).sum else fl rs[i] 3)),?_,λb o e=>?_,?_⟩;.rw[bq,iM,List.sum_append,š,List.sum_nil,Int.add_zero,show∀a b c:Int,a-(b+c)=a-b-c from λa b c=>by lia];rfl
  .rw[au (az e hm)];show k _ _ e
  .rw[aa,bq,iM,é];rfl
 .rintro σ Hc⟨x4,x5,x6,x7,x8,rfl,k,em⟩;rw[show xs.length=rs.length from bg.1,Ņ]at em;show⟨_,O,q m Hc (λb o e=>k b o e) hm em⟩
theorem scT2:Å ["wool","claims","weights"] ["wool","claims"] (aG (top 47)):=ċ
theorem Dm(F:ü K "shares_of" "shares_of" (top 47) f fd)(T:Mg mg)(Ts:mg "sum"=none)(c1:í P w K mg base 6 "parted" ["sacks","weights"] K60P.spParts):Ú P w K mg base ù 7 f fd ["wool","claims"] xF:=by
 show F.oq scT2 `b;obtain⟨w0,l,xs,rs,rfl,el,bg,h4,hz,hw,q⟩:=h;show⟨_,aB (Ĝ 2 scT2.nd (bK cz O T.tuple å (aq (bI (g:=jE K 4 (bL (bu 0) (bL (bu 1) (bL (bu 2) (bL (bu 3) jU))))) ["due","number","holder","sacks"] [none,none,none,none] O (bO (pv 1)) (λC fp Á s₂ Í=>⟨du O O (ao (Ó 0 nd4) (ao (Ó 1 nd4) (ao (Ó 2 nd4) (ao (Ó 3 nd4) aR)))),bD,pv 3⟩) (λC=>trivial) ⟨O,O,O,O⟩) aj))) (aC (aV (vN (bj cN (aM (cY O) O Ts ö (aq (pv 2) aj)) (pv 0) (bx _)) (pv 2) (aJ c1 hr (aq (pv 0) (aq (pv 2) aj)))))),?_⟩;show aW (aQ ?_);show⟨_,O,l,O,⟨_,Ë.of el⟩,comp_gen rs.length (λi ys σ Hc=>Â H Hc/\(∃o1 o2 o3 o4,σ=[o1,o2,o3,o4])/\ys=(ú (rs.take i)).map V.int) ⟨Â.refl H,⟨_,_,_,_,O⟩,O⟩ ϟ ?_ ?_⟩;.rintro i ys σ Hc hi hy⟨s1,⟨o1,o2,o3,o4,rfl⟩,rfl⟩;obtain⟨t,ex,et⟩:=bg.2 i rs[i] (Ô hi);rw[bW (h4 _ (ĕ hi)).1]at et;show⟨⟨_,_,Ë.of (s1 _ _ el),ex⟩,λv H' y R hR=>?_⟩;obtain⟨rfl,y⟩:=y;have hv:=y _ (Ë.of (s1 _ _ el));rw[ex]at hv;cases hv;show⟨t,_,O,Ñ.of (s1 _ _ et),O,_,_,O,_,_,O,_,_,O,_,_,O,O,_,O,hR _ _ _ ⟨s1,⟨_,_,_,_,O⟩,?_⟩⟩;unfold ú;rw[ġ,Ô hi,é,é];rfl
 .rintro ys σ Hc hy⟨s1,_,rfl⟩;show⟨⟨_,Ë.of (s1 _ _ el),by rw[bg.1];show Ø _⟩,λD hD=>?_⟩;rw[Ņ];show⟨D,_,O,.inl ⟨Ë.of aa,λt ht=>?_⟩⟩;have s2:=(s1.updR (o:=.lst ((ú rs).map V.int)) hD).updR (o:=.tup ((ú rs).map V.int)) ht;have et:=aa (H:=upd Hc D (.lst ((ú rs).map V.int))) (a:=t) (o:=.tup ((ú rs).map V.int));generalize upd (upd Hc D (.lst ((ú rs).map V.int))) t (.tup ((ú rs).map V.int))=H2 at s2 et⊢;apply aD;dsimp only;show⟨_,O,t,ú rs,O,.inr (Ñ.of et),_,O,_,_,O,O,_,O,?_⟩;by_cases hs:(ú rs).sum<=w0;.rw[ç hs];show bM ⟨_,O,q t H2 s2 ?_⟩;unfold bf;rw[Ê hs];show et
  .rw[č hs];refine bG ⟨_,O,_,O,w0,t,ú rs,O,et,⟨?_,?_,λx hx=>?_⟩,hw,À,λH3 t3 s3 e3=>q t3 H3 (s2.trans s3) ?_⟩;.cases mh:rs with|nil=>rw[mh]at hs;exact absurd hw hs;|cons r BB=>unfold ú;rw[Ï,İ];lia
   .unfold ú;rw[Ï];show hz
   .obtain⟨r,mh,rfl⟩:=Ù.mp hx;show(h4 r mh).2
   .unfold bf;rw[Ç hs];show e3
theorem fG{Fin:List V->Hp->Prop}(n:Nat)(Pv:Nat->List V->St->Hp->Prop)(h0:Pv 0 [] cy H0)(hz:n<sizeLine)(step:∀i ys σ H,i<n->ys.length<=i->Pv i ys σ H->J.go i H/\∀x H',J.yld i H x H'->∀R:List V->St->Hp->Prop,(∀gv ay H4,gv.length<=i+1->Pv (i+1) gv ay H4->R gv ay H4)->g x σ H' λay H2=>tt ay H2 λb H3=>if b=true then te ay H3 λy H4=>R (ys++[y]) ay H4 else R ys ay H3)(fin:∀ys σ H,ys.length<=n->Pv n ys σ H->J.stop n H/\Fin ys H):km J g tt te Fin cy H0:=by
 show⟨λi m ys σ H=>m=n-i/\i<=n/\ys.length<=i/\Pv i ys σ H,⟨_,O,Ė _,Ø _,h0⟩,?_⟩;rintro i m ys σ H⟨rfl,hi,hy,p⟩;show⟨À,?_⟩;by_cases ax:i<n;.obtain⟨go,st⟩:=step i ys σ H ax hy p;show .inr ⟨go,λx H' y=>st x H' y (λgv ay H4=>∃m',m'<n-i/\m'=n-(i+1)/\i+1<=n/\gv.length<=i+1/\Pv (i+1) gv ay H4) λgv ay H4 l2 p2=>⟨n-(i+1),À,O,ax,l2,p2⟩⟩
 .have e:i=n:=À;subst e;show .inl (fin ys σ H hy p)
def bZ(P:List (VV×Int)):UV:=(P.filter λp=>decide (0<p.2)).map λp=>[fl p.1 0,fl p.1 1,fl p.1 2,p.2]
def bB(P:List (VV×Int)):UV:=(P.filter λp=>decide (p.2<fl p.1 3)).map λp=>[fl p.1 0,fl p.1 1,fl p.1 2,fl p.1 3-p.2]
theorem ig(P:List (VV×Int))(p:VV×Int):bZ (P++[p])=bZ P++(if 0<p.2 then[[fl p.1 0,fl p.1 1,fl p.1 2,p.2]]else[]):=by
 unfold bZ;rw[Ŵ,é];congr 1;by_cases h:0<p.2;.rw[Ê h,μ (p:=λ(p:VV×Int)=>decide (0<p.2)) (ç h)];rfl
 .rw[Ç h,δ (p:=λ(p:VV×Int)=>decide (0<p.2)) (by rw[Ĥ];show h)];rfl
theorem jQ(P:List (VV×Int))(p:VV×Int):bB (P++[p])=bB P++(if p.2<fl p.1 3 then[[fl p.1 0,fl p.1 1,fl p.1 2,fl p.1 3-p.2]]else[]):=by
 unfold bB;rw[Ŵ,é];congr 1;by_cases h:p.2<fl p.1 3;.rw[Ê h,μ (p:=λ(p:VV×Int)=>decide (p.2<fl p.1 3)) (ç h)];rfl
 .rw[Ç h,δ (p:=λ(p:VV×Int)=>decide (p.2<fl p.1 3)) (by rw[Ĥ];show h)];rfl
theorem û{w:Int}:(bf w rs).length=rs.length:=by
 unfold bf;split;.unfold ú;rw[Ï]
 .rw[K60P.res_len];unfold ú;rw[Ï]
def Ę(w:Int)(cl ow:UV):VV:=bf w cl++aX (w-(bf w cl).sum) ow
inductive ϑ(vs:List V)(H:Hp)(Q:VK):Prop|mk:∀w lc xc cl lo xo ow,(vs=[.int w,.ref lc,.ref lo])->(H lc=some (.lst xc))->(ß H xc cl)->((∀r∈cl,r.length=4/\1<=fl r 3/\fl r 3<=99))->(cl.length<=80)->(0<=w)->(H lo=some (.lst xo))->(ß H xo ow)->((∀r∈ow,r.length=4))->(ow.length<=10000)->(∀t g k xg xk H',Â H H'->H' t=some (.tup [.ref g,.ref k])->H g=none->H k=none->H' g=some (.lst xg)->ß H' xg (bZ ((cl++ow).zip (Ę w cl ow)))->H' k=some (.lst xk)->ß H' xk (bB ((cl++ow).zip (Ę w cl ow)))->Q (.ref t) H')->ϑ  vs H Q
def GC:Sp:=λvs H Q _=>ϑ  vs H Q
theorem xG:bootBuiltins "list"=some (.type "list"):=`j
theorem nd5:(["due","number","holder","sacks","share"]:Đ).Nodup:=`j
theorem ϡ:Å ["wool","claims","owed","shares","rows","gifts","lacking"] ["wool","claims","owed"] (aG (top 49)):=ċ
theorem GD(F:ü K "sort_given" "sort_given" (top 49) f fd)(Ts:mg "sum"=none)(Tl:mg "list"=none)(Tz:mg "zip"=none)(c1:í P w K mg base 7 "shares_of" ["wool","claims"] xF)(c2:í P w K mg base 1 "made_good" ["wool","owed"] Gz):Ú P w K mg base ù 8 f fd ["wool","claims","owed"] GC:=by
 show F.oq ϡ `b;obtain⟨w0,lc,xc,cl,lo,xo,ow,rfl,ec,Ee,R6,VD,hw,eo,sv,R7,VE,q⟩:=h;show⟨_,aB (Ĝ 3 ϡ.nd (bK jZ O Tl xG (aq (aJ c1 hr (aq (pv 0) (aq (pv 1) aj))) aj))) (aB (Ĝ 4 ϡ.nd (aU uz (pv 1) (pv 2))) (aB (mj (i:=3) ϡ.nd O (Or.inl O) (aJ c2 hr (aq (aU eQ (pv 0) (aM (cY O) O Ts ö (aq (pv 3) aj))) (aq (pv 2) aj))) qg) (aB (gG (g:=jE K 2 (bL (jE K 4 (bL (bu 0) (bL (bu 1) (bL (bu 2) (bL (bu 3) jU))))) (bL (bu 4) jU))) (i:=5) ["due","number","holder","sacks","share"] [none,none,none,none,none] O ϡ.nd O (Or.inl O) (ZT.pi_zip false false O Tz (aq (pv 4) (aq (pv 3) aj))) (λC fp Á s₂ Í=>⟨du O O (ao (du O O (ao (Ó 0 nd5) (ao (Ó 1 nd5) (ao (Ó 2 nd5) (ao (Ó 3 nd5) aR))))) (ao (Ó 4 nd5) aR)),gF (bj jW (pv 4) aA (bx _)),bh (aq (pv 0) (aq (pv 1) (aq (pv 2) (aq (pv 4) aj))))⟩) (λC=>trivial) ⟨O,O,O,O⟩) (aB (gG (g:=jE K 2 (bL (jE K 4 (bL (bu 0) (bL (bu 1) (bL (bu 2) (bL (bu 3) jU))))) (bL (bu 4) jU))) (i:=6) ["due","number","holder","sacks","share"] [none,none,none,none,none] O ϡ.nd O (Or.inl O) (ZT.pi_zip false false O Tz (aq (pv 4) (aq (pv 3) aj))) (λC fp Á s₂ Í=>⟨du O O (ao (du O O (ao (Ó 0 nd5) (ao (Ó 1 nd5) (ao (Ó 2 nd5) (ao (Ó 3 nd5) aR))))) (ao (Ó 4 nd5) aR)),gF (bj jW (pv 3) (pv 4) (bx _)),bh (aq (pv 0) (aq (pv 1) (aq (pv 2) (aq (aU eQ (pv 3) (pv 4)) aj))))⟩) (λC=>trivial) ⟨O,O,O,O⟩) (aC (aV (bh (aq (pv 5) (aq (pv 6) aj))))))))),?_⟩;show`e;apply aQ;show⟨_,O,_,O,w0,lc,xc,cl,O,ec,Ee,R6,VD,hw,λt H1 s1 et=>⟨t,_,O,.inr (Ñ.of et),λls EA=>?_⟩⟩;have s2:=s1.updR (o:=.lst ((bf w0 cl).map V.int)) EA;have EB:H ls=none:=s1.free EA;have bg:=aa (H:=H1) (a:=ls) (o:=.lst ((bf w0 cl).map V.int));generalize upd H1 ls (.lst ((bf w0 cl).map V.int))=H2 at s2 bg⊢;apply aD;apply ab
 show`e;apply aQ;show⟨_,O,_,O,lc,lo,xc,xo,O,O,s2 _ _ ec,s2 _ _ eo,by rw[Ee.1,sv.1,sizeLine_eq];lia,λlr kQ=>?_⟩;have s3:=s2.updR (o:=.lst (xc++xo)) kQ;have nlr:H lr=none:=s2.free kQ;have sx:=Â.upd (o:=.lst (xc++xo)) kQ _ _ bg;have MQ:=aa (H:=H2) (a:=lr) (o:=.lst (xc++xo));have VG:lr≠ls:=λz=>by rw[z,bg]at kQ;cases kQ
 generalize upd H2 lr (.lst (xc++xo))=H3 at s3 sx MQ⊢;apply aD;apply ab
 show`e;show⟨_,O,_,O,_,O,ls,bf w0 cl,O,.inl (Ë.of sx),_,_,O,O,_,O,_,lo,xo,ow,O,s3 _ _ eo,sv.same s3,R7,À,λm H4 s4 nm em=>?_⟩;show⟨ls,m,_,_,O,O,s4 _ _ sx,em,by rw[Ï,Ï,û,dw,sizeLine_eq];lia,?_⟩;have ml:(bf w0 cl).map V.int++(aX (w0-(bf w0 cl).sum) ow).map V.int=(Ę w0 cl ow).map V.int:=by unfold Ę;rw[é]
 rw[ml];have zi:(Ę w0 cl ow).length=(cl++ow).length:=by unfold Ę;rw[à,à,û,dw]
 generalize Ę w0 cl ow=SH at q zi;apply ab
 have k5:Â H (upd H4 ls (.lst (SH.map V.int))):=λb o e=>by rw[au (az e EB)];show s4 _ _ (s3 _ _ e)
 have nX:=aa (H:=H4) (a:=ls) (o:=.lst (SH.map V.int));have iX:upd H4 ls (.lst (SH.map V.int)) lr=some (.lst (xc++xo)):=by rw[au VG];show s4 _ _ MQ
 generalize upd H4 ls (.lst (SH.map V.int))=H5 at k5 nX iX⊢;have BC:ß H (xc++xo) (cl++ow):=Ee.app sv;have R8:∀r∈cl++ow,r.length=4:=λr hr=>(è.mp hr).elim (λz=>(R6 r z).1) (R7 r);have VH:(cl++ow).length<=20000:=by rw[à];lia
 generalize xc++xo=xr at iX BC;generalize cl++ow=rr at q zi BC R8 VH;clear bg sx MQ ml s1 s2 s3 s4 em et;obtain⟨ZP,HE⟩:∃ZP,ZP=rr.zip SH:=`i;rw[<-HE]at q;have sC:ZP.length=rr.length:=by rw[HE,ν,zi,Nat.min_self]
 have zo:∀i(h:i<ZP.length),rr[i]?=some ZP[i].1:=λi h=>by have hi:i<rr.length:=À;rw[Ô hi];congr 1;simp only[HE,List.getElem_zip]
 have EC:∀i(h:i<ZP.length),SH[i]?=some ZP[i].2:=λi h=>by have hi:i<SH.length:=À;rw[Ô hi];congr 1;simp only[HE,List.getElem_zip]
 have ED:∀i(h:i<ZP.length),(ZP[i].1).length=4:=λi h=>R8 _ (ń (zo i h));show`e;show⟨_,O,_,O,lr,ls,xr,_,O,Ë.of iX,Ë.of nX,fG rr.length (λi ys σ Hc=>Â H5 Hc/\(∃o1 o2 o3 o4 o5,σ=[o1,o2,o3,o4,o5])/\ß Hc ys (bZ (ZP.take i))) ⟨Â.refl _,⟨_,_,_,_,_,O⟩,ß.nil⟩ ϟ ?_ ?_⟩
 .rintro i ys σ Hc hi hy⟨sc,⟨o1,o2,o3,o4,o5,rfl⟩,ht⟩;have hP:i<ZP.length:=by rw[sC];show hi
  obtain⟨tr,ex,et⟩:=BC.2 i ZP[i].1 (zo i hP);have er:Ë K Hc lr xr:=Ë.of (sc _ _ iX);have es:Ë K Hc ls (SH.map V.int):=Ë.of (sc _ _ nX);have me:(SH.map V.int)[i]?=some (.int ZP[i].2):=by rw[ì,EC i hP];rfl
  have bq:ZP.take (i+1)=ZP.take i++[ZP[i]]:=by rw[ġ,Ô hP];rfl
  have EE:=sc _ _ (k5 _ _ et);rw[bW (ED i hP)]at EE;show⟨⟨_,_,_,_,er,es,ex,me⟩,λx H' yv R hR=>?_⟩;obtain⟨T0,nT,rfl,yv⟩:=yv;obtain⟨x',y',ze,zt,rfl⟩:=yv _ _ er es;rw[ex]at ze;cases ze;rw[me]at zt;cases zt;have vx:=sc.updR (o:=.tup [.ref tr,.int ZP[i].2]) nT;show⟨T0,_,O,Ñ.of aa,O,_,_,O,?_⟩;show⟨tr,_,O,Ñ.of (Â.upd nT _ _ EE),O,_,_,O,_,_,O,_,_,O,_,_,O,O,?_⟩;show⟨_,_,O,O,?_⟩;show⟨_,O,_,_,O,O,_,O,?_⟩;by_cases aT:0<ZP[i].2;.rw[ç aT];show bM ⟨_,O,_,O,_,O,_,O,zL,λt fS=>hR _ _ _ (by rw[à];show ys.length+1<=i+1;lia) ⟨vx.updR fS,⟨_,_,_,_,_,O⟩,?_⟩⟩;rw[bq,ig,Ê aT];show(((ht.same (Â.upd nT)).same (Â.upd fS))).app (ß.one aa)
  .rw[č aT];show bG (hR _ _ _ À ⟨vx,⟨_,_,_,_,_,O⟩,?_⟩);rw[bq,ig,Ç aT,Ĕ];show ht.same (Â.upd nT)
 rintro ys σ Hc hy⟨sc,_,ht⟩;rw[<-sC,Ņ]at ht;show⟨⟨_,Ë.of (sc _ _ iX),by rw[BC.1];show Ø _⟩,λg hg=>?_⟩;have k6:=(k5.trans sc).updR (o:=.lst ys) hg;have ng:H g=none:=(k5.trans sc).free hg;have eg:=aa (H:=Hc) (a:=g) (o:=.lst ys);have elg:=ht.same (Â.upd (o:=.lst ys) hg);have sF:=Â.upd (o:=.lst ys) hg _ _ (sc _ _ iX);have ja:=Â.upd (o:=.lst ys) hg _ _ (sc _ _ nX);generalize upd Hc g (.lst ys)=H6 at k6 eg elg sF ja⊢;clear sc ht hy nX iX k5;apply ab
 show`e;show⟨_,O,_,O,lr,ls,xr,_,O,Ë.of sF,Ë.of ja,fG rr.length (λi ys σ Hc=>Â H6 Hc/\(∃o1 o2 o3 o4 o5,σ=[o1,o2,o3,o4,o5])/\ß Hc ys (bB (ZP.take i))) ⟨Â.refl _,⟨_,_,_,_,_,O⟩,ß.nil⟩ ϟ ?_ ?_⟩
 .rintro i ys σ Hc hi hy⟨sc,⟨o1,o2,o3,o4,o5,rfl⟩,ht⟩;have hP:i<ZP.length:=by rw[sC];show hi
  obtain⟨tr,ex,et⟩:=BC.2 i ZP[i].1 (zo i hP);have er:Ë K Hc lr xr:=Ë.of (sc _ _ sF);have es:Ë K Hc ls (SH.map V.int):=Ë.of (sc _ _ ja);have me:(SH.map V.int)[i]?=some (.int ZP[i].2):=by rw[ì,EC i hP];rfl
  have bq:ZP.take (i+1)=ZP.take i++[ZP[i]]:=by rw[ġ,Ô hP];rfl
  have EE:=sc _ _ (k6 _ _ et);rw[bW (ED i hP)]at EE;show⟨⟨_,_,_,_,er,es,ex,me⟩,λx H' yv R hR=>?_⟩;obtain⟨T0,nT,rfl,yv⟩:=yv;obtain⟨x',y',ze,zt,rfl⟩:=yv _ _ er es;rw[ex]at ze;cases ze;rw[me]at zt;cases zt;have vx:=sc.updR (o:=.tup [.ref tr,.int ZP[i].2]) nT;show⟨T0,_,O,Ñ.of aa,O,_,_,O,?_⟩;show⟨tr,_,O,Ñ.of (Â.upd nT _ _ EE),O,_,_,O,_,_,O,_,_,O,_,_,O,O,?_⟩;show⟨_,_,O,O,?_⟩;show⟨_,O,_,O,_,_,O,O,_,O,?_⟩;by_cases aT:ZP[i].2<fl ZP[i].1 3;.rw[ç aT];show bM ⟨_,O,_,O,_,O,_,O,_,O,_,_,O,O,zL,λt fS=>hR _ _ _ (by rw[à];show ys.length+1<=i+1;lia) ⟨vx.updR fS,⟨_,_,_,_,_,O⟩,?_⟩⟩;rw[bq,jQ,Ê aT];show(((ht.same (Â.upd nT)).same (Â.upd fS))).app (ß.one aa)
  .rw[č aT];show bG (hR _ _ _ À ⟨vx,⟨_,_,_,_,_,O⟩,?_⟩);rw[bq,jQ,Ç aT,Ĕ];show ht.same (Â.upd nT)
 rintro MR σ Hc hy⟨sc,_,ht⟩;rw[<-sC,Ņ]at ht;show⟨⟨_,Ë.of (sc _ _ sF),by rw[BC.1];show Ø _⟩,λk hk=>?_⟩;have k7:=(k6.trans sc).updR (o:=.lst MR) hk;have nk:H k=none:=(k6.trans sc).free hk;have sk:=Â.upd (o:=.lst MR) hk;apply ab
 show⟨_,O,_,O,zL,λt fS=>?_⟩;have st:=Â.upd (o:=.tup [.ref g,.ref k]) fS;show q t g k ys MR _ (k7.trans st) aa ng nk (st _ _ (sk _ _ (sc _ _ eg))) (((elg.same sc).same sk).same st) (st _ _ aa) ((ht.same sk).same st)
def dN(L:VV)(i:Nat):UV:=((List.range i).filter λh=>decide (0<L.getD h 0)).map λ(h:Nat)=>[(h:Int),L.getD h 0]
theorem gK(L:VV)(i:Nat):dN L (i+1)=dN L i++(if 0<L.getD i 0 then[[(i:Int),L.getD i 0]]else[]):=by
 unfold dN;rw[List.range_succ,Ŵ,é];congr 1;by_cases h:0<L.getD i 0;.rw[Ê h,μ (p:=λh=>decide (0<L.getD h 0)) (ç h)];rfl
 .rw[Ç h,δ (p:=λh=>decide (0<L.getD h 0)) (by rw[Ĥ];show h)];rfl
theorem yR(L:VV)(i:Nat):(dN L i).length<=i:=by unfold dN;rw[Ï];have:=Ϗ (λh=>decide (0<L.getD h 0)) (List.range i);rw[Zay]at this;show this
def ik(ps ss:UV)(sort year:Int)(n:Nat):UV:=if fl (ps.getD n []) 1=sort then(dN (bV (ps.getD n []) ss n year) 8).map (λr=>year::(n:Int)::r)else[]
def gP(ps ss:UV)(sort year:Int):Nat->UV|0=>[]|k+1=>gP ps ss sort year k++ik ps ss sort year k
def aK(ps ss:UV)(sort year:Int):UV:=gP ps ss sort year ps.length
theorem GF(ps ss:UV)(sort year:Int)(n:Nat):(ik ps ss sort year n).length<=8:=by
 unfold ik;split;.rw[Ï];show yR _ 8
 .exact Ė _
theorem lO(ps ss:UV)(sort year:Int):∀k,(gP ps ss sort year k).length<=8*k|0=>Ø _|k+1=>by unfold gP;rw[à];have:=lO ps ss sort year k;have:=GF ps ss sort year k;lia
inductive Ũ(vs:List V)(H:Hp)(Q:VK):Prop|mk:∀ap xp ps ah xs ss sort year,(vs=[.ref ap,.ref ah,.int sort,.int year])->(RowsAt H ap xp ps)->(ps.length<=10)->((∀r∈ps,okP r))->(RowsAt H ah xs ss)->(ss.length<=12)->((∀s∈ss,okS s))->(∀l xl H',Â H H'->H l=none->H' l=some (.lst xl)->ß H' xl (aK ps ss sort year)->Q (.ref l) H')->Ũ  vs H Q
def xH:Sp:=λvs H Q _=>Ũ  vs H Q
theorem ndV:(["holder","sacks","year","number"]:Đ).Nodup:=`j
theorem Ϡ:Å ["promises","sales","sort","year","claims","number","promise","held"] ["promises","sales","sort","year"] (aG (top 46)):=ċ
theorem Dn(F:ü K "claims_in" "claims_in" (top 46) f fd)(Te:mg "enumerate"=none)(c1:í P w K mg base 1 "held_in" ["promises","sales","number","year"] yP):Ú P w K mg base ù 2 f fd ["promises","sales","sort","year"] xH:=by
 show F.oq Ϡ `b;obtain⟨ap,xp,ps,ah,xs,ss,sort,year,rfl,rp,lp,okp,rs,ls,fN,q⟩:=h;show⟨_,aB (Ĝ 4 Ϡ.nd (dC aj)) (aB (bR Ń O (ZT.pi_enum true O Te (aq (pv 0) aj)) (bF O (ao (bw (i:=5) Ϡ.nd O (Or.inr O)) (ao (Ó 6 Ϡ.nd) aR))) (aC (cM (bj jV (pX bT (pv 6) aA) (pv 2) (bx _)) (aB (Ĝ 7 Ϡ.nd (aJ c1 hr (aq (pv 0) (aq (pv 1) (aq (pv 5) (aq (pv 3) aj)))))) (aC (mj (i:=4) Ϡ.nd O (Or.inl O) (bI (g:=jE K 2 (bL (bu 0) (bL (bu 1) jU))) ["holder","sacks","year","number"] [none,none,some 3,some 5] O (ZT.pi_enum false O Te (aq (pv 7) aj)) (λC fp Á s₂ Í=>⟨du O O (ao (Ó 0 ndV) (ao (Ó 1 ndV) aR)),gF (bj jW (pv 1) aA (bx _)),bh (aq (pv 2) (aq (pv 3) (aq (pv 0) (aq (pv 1) aj))))⟩) (λC=>cI (cI trivial)) ⟨O,O,O,O⟩) qg))) bz))) (aC (aV (pv 4)))),?_⟩;show aW (aQ ?_);show⟨zL,λl hl=>?_⟩;apply aD;dsimp only;apply aW;have s0:=Â.upd (o:=.lst []) hl;show⟨_,O,ap,xp,O,Ñ.of (s0 _ _ rp.e),?_⟩;show ZT.for_enum true (xs:=xp) (λi σ Hc=>Xe4 λx5 x6 x7 xl=>Xa4 (σ=[some (.ref ap),some (.ref ah),some (.int sort),some (.int year),some (.ref l),x5,x6,x7]) ((∀b o,H b=some o->Hc b=some o)) (Hc l=some (.lst xl)) (ß Hc xl (gP ps ss sort year i))) ?_ ?_ ?_ ?_;.exact⟨none,none,none,[],O,λb o e=>s0 _ _ e,aa,ß.nil⟩
 .rintro i σ Hc hi⟨x5,x6,x7,xl,rfl,k,el,ht⟩;show Ñ.of (k _ _ rp.e)
 .rintro i x σ Hc T0 hx⟨x5,x6,x7,xl,rfl,k,el,ht⟩nT;have hi:i<ps.length:=by have:=(ĉ.mp hx).1;rw[rp.l]at this;show this
  obtain⟨tr,fk,fe⟩:=rp.g i ps[i] (Ô hi);have:x=.ref tr:=by rw[hx]at fk;show ģ fk
  subst this;have op:=okp ps[i] (ĕ hi);have ep:ps.getD i []=ps[i]:=æ hi;rw[six_row op.1]at fe;have sT:=Â.upd (o:=.tup [V.int i,V.ref tr]) nT;have kT:Â H (upd Hc T0 (.tup [V.int i,V.ref tr])):=λb o e=>sT _ _ (k _ _ e);have oj:=sT _ _ el;have zw:=ht.same sT;have eT:=aa (H:=Hc) (a:=T0) (o:=.tup [V.int i,V.ref tr]);generalize upd Hc T0 (.tup [V.int i,V.ref tr])=H1 at kT oj zw eT⊢;show⟨T0,_,O,Ñ.of eT,O,_,_,O,_,_,O,O,?_⟩;show⟨_,O,tr,_,1,.int (fl ps[i] 1),O,O,Ñ.of (kT _ _ fe),O,_,O,O,_,O,?_⟩;by_cases hs:fl ps[i] 1=sort
  .rw[ç (by rw[hs])];show bM (aW ?_);apply aQ;show⟨_,O,_,O,_,O,_,O,ap,xp,ps,ah,xs,ss,i,year,O,rp.same kT,rs.same kT,À,À,by rw[Ž,ep];show op,ls,fN,λhd H2 s2 e2=>?_⟩;rw[Ž,ep]at e2;have HG:=eZ ps[i] ss i year;have om:ik ps ss sort year i=(dN (bV ps[i] ss i year) 8).map (λr=>year::(i:Int)::r):=by unfold ik;rw[ep,Ê hs]
   generalize bV ps[i] ss i year=L at e2 HG om;have k2:=kT.trans s2;have Č:=s2 _ _ oj;have MU:=zw.same s2;apply aD;dsimp only;show⟨_,O,_,O,hd,_,O,Ë.of e2,fG 8 (λj ys σ Hj=>Â H2 Hj/\(∃o1 o2,σ=[o1,o2,some (.int year),some (.int i)])/\ß Hj ys ((dN L j).map (λr=>year::(i:Int)::r))) ⟨Â.refl _,⟨_,_,O⟩,ß.nil⟩ (by rw[sizeLine_eq];decide) ?_ ?_⟩
   .rintro j ys σ Hj hj hy⟨sc,⟨o1,o2,rfl⟩,kX⟩;have vk:Ë K Hj hd (L.map V.int):=Ë.of (sc _ _ e2);have R9:(L.map V.int)[j]?=some (.int (L.getD j 0)):=by have dA:j<L.length:=À;rw[ì,ě,Ô dA];rfl
    show⟨⟨_,_,vk,R9⟩,λx H' yv R hR=>?_⟩;obtain⟨T1,MV,rfl,yv⟩:=yv;obtain⟨x',fR,rfl⟩:=yv _ vk;rw[R9]at fR;cases fR;have vx:=sc.updR (o:=.tup [.int (j:Int),.int (L.getD j 0)]) MV;show⟨T1,_,O,Ñ.of aa,O,_,_,O,_,_,O,O,?_⟩;show⟨_,O,_,_,O,O,_,O,?_⟩;by_cases aT:0<L.getD j 0;.rw[ç aT];show bM ⟨_,O,_,O,_,O,_,O,zL,λt fS=>hR _ _ _ (by rw[à];show ys.length+1<=j+1;lia) ⟨vx.updR fS,⟨_,_,O⟩,?_⟩⟩;rw[gK,Ê aT,é];show((kX.same (Â.upd MV)).same (Â.upd fS)).app (ß.one aa)
    .rw[č aT];show bG (hR _ _ _ À ⟨vx,⟨_,_,O⟩,?_⟩);rw[gK,Ç aT,Ĕ];show kX.same (Â.upd MV)
   .rintro ys σ Hj hy⟨sc,_,kX⟩;show⟨⟨_,Ë.of (sc _ _ e2),by rw[Ï];lia⟩,λD hD=>?_⟩;have sD:=sc.updR (o:=.lst ys) hD;have nD:D≠l:=λz=>by rw[z,sc _ _ Č]at hD;cases hD
    have ll:=lO ps ss sort year i;have:=ht.1;show⟨l,D,xl,ys,O,O,sD _ _ Č,aa,by rw[sizeLine_eq];lia,?_⟩;show⟨_,_,_,xl++ys,O,λb o e=>?_,aa,?_⟩;.rw[au (az e hl)];show sD _ _ (k2 _ _ e)
    .have e3:=(MU.same sD).app (kX.same (Â.upd (o:=.lst ys) hD));rw[<-om]at e3;show e3.keep λb z e=>?_;rw[au λw=>by rw[w,sD _ _ Č]at e;cases e];show e
  .rw[č (λz=>hs (by injection z))];apply bG;show⟨_,_,_,xl,O,λb o e=>kT _ _ e,oj,?_⟩;have:gP ps ss sort year (i+1)=gP ps ss sort year i:=by show gP ps ss sort year i++ik ps ss sort year i=_;unfold ik;rw[ep,Ç hs,Ĕ]
   rw[this];show zw
 .rintro σ Hc⟨x5,x6,x7,xl,rfl,k,el,ht⟩;rw[show xp.length=ps.length from rp.l]at ht;show⟨_,O,q l xl Hc (λb o e=>k b o e) hl el ht⟩
theorem Ĭ:∀(L:VV)i a,i<L.length->(L.set i a).sum=L.sum-L.getD i 0+a|[],i,a,h=>by simp at h;|x::L,0,a,h=>by rw[List.set_cons_zero,š,š,List.getD_cons_zero];lia;|x::L,i+1,a,h=>by rw[List.set_cons_succ,š,š,List.getD_cons_succ,Ĭ L i a (by simpa using h)];lia
theorem xJ(h:i.toNat<L.length):(ie L i v).sum=L.sum+v:=by unfold ie;rw[Ĭ _ _ _ h];lia
theorem jP:∀{L:VV},(∀x∈L,0<=x)->0<=L.sum/\∀x∈L,x<=L.sum
 |[],_=>⟨Ϯ _,λx hx=>by cases hx⟩|y::L,h=>by
  obtain⟨h1,h2⟩:=jP (L:=L) λx hx=>h x (.tail _ hx);have hy:=h y (.head _);rw[š];show⟨À,λx hx=>?_⟩;rcases ļ.mp hx with z|z;.lia
  .have:=h2 x z;lia
theorem jw{L:VV}(h:∀x∈L,0<=x)(i:Nat):0<=L.getD i 0:=by rw[ě];cases e:L[i]? with|none=>exact Ϯ _;|some y=>show h y (ń e)
theorem Bo(h:∀x∈L,0<=x)(hv:0<=L.getD i.toNat 0+v):∀x∈ie L i v,0<=x:=by
 intro x hx;unfold ie at hx;rcases List.mem_or_eq_of_mem_set hx with z|z;.exact h x z
 .rw[z];show hv
theorem yS(h:un ps ss=none):∀j,j<ss.length->cG ps (ss.take j) (ss.getD j [])=true:=λj hj=>by unfold un at h;have:=List.find?_eq_none.mp h j (ı.mpr hj);simpa using this
theorem JK(hu:un ps ss=none)(h5:∀s∈ss,s.length=5)(op:okP (ps.getD n [])):∀k,k<=ss.length->(∀x∈bV (ps.getD n []) (ss.take k) n y,0<=x)/\(bV (ps.getD n []) (ss.take k) n y).sum<=99:=by
 intro k;by_cases hy:fl (ps.getD n []) 2<=y/\y<=fl (ps.getD n []) 3
 .obtain⟨_,⟨a1,a2⟩,_,_,⟨e1,e2⟩,_⟩:=id op
  induction k with|zero=>
   intro _;rw[Zb6];unfold bV;rw[Ê hy];show(∀x∈Ĩ (ps.getD n []),0<=x)/\(Ĩ (ps.getD n [])).sum<=99;unfold Ĩ;show⟨λx hx=>?_,?_⟩
   .rcases List.mem_or_eq_of_mem_set hx with z|z;.rw[List.eq_of_mem_replicate z];show Ϯ _
    .lia
   .rw[Ĭ _ _ _ (by rw[List.length_replicate];lia)];have:(List.replicate 8 (0:Int)).sum=0:=O;have e:(List.replicate 8 (0:Int)).getD (fl (ps.getD n []) 0).toNat 0=0:=by rw[ě,List.getElem?_replicate,Ê À];rfl
    rw[this,e];lia;|succ k ih=>
   intro hk;have dA:k<ss.length:=À;obtain⟨i1,i2⟩:=ih À;have hB:=yS hu k dA;rw[æ dA]at hB;have bq:ss.take (k+1)=ss.take k++[ss[k]]:=by rw[ġ,Ô dA];rfl
   have eh:bV (ps.getD n []) (ss.take (k+1)) n y=ñ n y (bV (ps.getD n []) (ss.take k) n y) ss[k]:=by unfold bV;rw[Ê hy,Ê hy,bq,Zbj];rfl
   have VI:=qG (h5 _ (ĕ dA)) hB;obtain⟨_,⟨b1,b2⟩,c1,c2⟩:=VI;have hl:=eZ (ps.getD n []) (ss.take k) n y;rw[eh];unfold ñ;by_cases hc:fl ss[k] 0=n/\fl ss[k] 4<=y
   .rw[Ê hc];unfold cG at hB;rw[ŉ]at hB;obtain⟨BD,qA⟩:=hB;have ep:nW ps ss[k]=ps.getD n []:=by unfold nW;rw[hc.1,Ž]
    have yi:fl ss[k] 3<=(bV (ps.getD n []) (ss.take k) n y).getD (fl ss[k] 1).toNat 0:=by
     have:=Ε.mp qA y (by
      unfold years;show Ù.mpr ⟨(y-fl ss[k] 4).toNat,ı.mpr ?_,?_⟩;.rw[ep];lia
      .lia);have:=ŕ this;rw[ep,hc.1]at this;show this
    unfold rP at BD;simp only[Bool.and_eq_true,Ĥ,Bool.not_eq_true',decide_eq_false_iff_not]at BD;obtain⟨_,_,_,nab,⟨v1,v2⟩,_⟩:=BD;generalize bV (ps.getD n []) (ss.take k) n y=L at i1 i2 hl yi;have n1:=Bo (i:=fl ss[k] 1) (v:=-(fl ss[k] 3)) i1 À;show⟨Bo n1 ?_,?_⟩;.have:=jw n1 (fl ss[k] 2).toNat;lia
    .rw[xJ (by rw[jf];lia),xJ À];lia
   .rw[Ç hc];show⟨i1,i2⟩
 .intro _;unfold bV;rw[Ç hy];show⟨λx hx=>by rw[List.eq_of_mem_replicate hx];show Ϯ _,by decide⟩
theorem Ko(hu:un ps ss=none)(h5:∀s∈ss,s.length=5)(okp:∀r∈ps,okP r):∀k,k<=ps.length->∀r∈gP ps ss sort year k,r.length=4/\1<=fl r 3/\fl r 3<=99/\fl r 0=year/\0<=fl r 1/\fl r 1<k:=by intro k;induction k with|zero=>intro _ r hr;cases hr;|succ k ih=>
  intro hk r hr;rcases è.mp (show r∈gP ps ss sort year k++ik ps ss sort year k from hr)with z|z;.obtain⟨h1,h2,h3,h4,h6,h7⟩:=ih À r z;show⟨h1,h2,h3,h4,h6,À⟩
  .unfold ik at z;split at z
   .obtain⟨q,hq,rfl⟩:=Ù.mp z;unfold dN at hq;obtain⟨h,hh,rfl⟩:=Ù.mp hq;have hp:=ŕ (ķ.mp hh).2;have dA:k<ps.length:=À;obtain⟨a,b⟩:=JK (n:=k) (y:=year) hu h5 (by rw[æ dA];exact okp _ (ĕ dA)) ss.length (Ø _);rw[Ņ]at a b;have le:(bV (ps.getD k []) ss k year).getD h 0<=99:=by rw[ě]at hp⊢;cases e:(bV (ps.getD k []) ss k year)[h]? with|none=>show(0:Int)<=99;decide;|some y=>have:=(jP a).2 y (ń e);show y<=99;lia
    show⟨O,?_,le,O,?_,?_⟩;.show 1<=(bV (ps.getD k []) ss k year).getD h 0;lia
    .show(0:Int)<=(k:Int);lia
    .show(k:Int)<((k+1:Nat):Int);lia
   .cases z
end K60
namespace K60P
open PySem L2
theorem Ĭ:∀{l:VV}{i:Nat}{x:Int},i<l.length->(l.set i (l.getD i 0+x)).sum=l.sum+x|a::l,0,x,_=>by simp;lia;|a::l,i+1,x,h=>by have:=Ĭ (l:=l) (i:=i) (x:=x) (by simpa using h);simp only[List.set_cons_succ,List.sum_cons,List.getD_cons_succ];lia
theorem u6:∀pl l,(∀i∈pl,i<l.length)->(cQ l pl).sum=l.sum+pl.length|[],l,_=>by simp[cQ];|i::pl,l,h=>by show(cQ (l.set i (l.getD i 0+1)) pl).sum=_;rw[u6 pl _ λj hj=>by rw[Zbt];show h j (.tail _ hj),Ĭ (h i (.head _)),İ];lia
theorem res_sum(ok:OkW ws):(res n ws).sum=n:=by have o:=(iK (rs n ws)).choose_spec;have hl:=o.len;rw[gO]at hl;have l0:=Bm (n:=n) ok;have l1:=Gw (n:=n) ok;unfold res;rw[u6 _ _ λi hi=>by rw[qJ];have:=o.lt i (Zaz hi);rw[gO]at this;show this,ė,Nat.min_eq_left À];have:lf n ws=n-(fs n ws).sum:=O;lia
end K60P
namespace K60
open PySem L2
theorem qK:∀{w:Int}{rs:UV},0<=w->(∀r∈rs,0<=fl r 3)->(∀x∈aX w rs,0<=x)/\0<=(aX w rs).sum/\(aX w rs).sum<=w
 |w,[],h,_=>⟨λx hx=>(by cases hx),Ϯ _,h⟩|w,r::rs,h,hr=>by
  have h3:=hr r (.head _);unfold aX;by_cases hc:w<fl r 3
  .rw[Ê hc];obtain⟨a,b,c⟩:=qK (w:=w-w) (rs:=rs) À λq hq=>hr q (.tail _ hq);show⟨λx hx=>?_,by rw[š];lia,by rw[š];lia⟩;rcases ļ.mp hx with z|z;.lia
   .exact a x z
  .rw[Ç hc];obtain⟨a,b,c⟩:=qK (w:=w-fl r 3) (rs:=rs) À λq hq=>hr q (.tail _ hq);show⟨λx hx=>?_,by rw[š];lia,by rw[š];lia⟩;rcases ļ.mp hx with z|z;.lia
   .exact a x z
theorem Bp:∀{rs:UV}{sh:VV},sh.length=rs.length->(∀x∈sh,0<=x)->fj (bZ (rs.zip sh))=sh.sum
 |[],[],_,_=>rfl|[],_::_,h,_=>by simp at h;|_::_,[],h,_=>by simp at h;|r::rs,x::sh,h,hn=>by
  have ih:=Bp (rs:=rs) (sh:=sh) (by simpa using h) λy hy=>hn y (.tail _ hy);have hx:=hn x (.head _);rw[Zb2,š,<-ih];unfold bZ;by_cases hp:0<x;.rw[μ (p:=λ(p:VV×Int)=>decide (0<p.2)) (ç hp),Ľ];unfold fj ú;rw[Ľ,š];rfl
  .rw[δ (p:=λ(p:VV×Int)=>decide (0<p.2)) (by rw[Ĥ];show hp)];have:x=0:=À;rw[this,Int.zero_add]
theorem yU{cl ow:UV}(hw:0<=w)(hc:∀r∈cl,r.length=4/\1<=fl r 3/\fl r 3<=99)(hz:cl.length<=80)(ho:∀r∈ow,0<=fl r 3):(∀x∈Ę w cl ow,0<=x)/\0<=(Ę w cl ow).sum/\(Ę w cl ow).sum<=w:=by
 have hs:(∀x∈bf w cl,0<=x)/\(bf w cl).sum<=w:=by
  unfold bf;by_cases h:(ú cl).sum<=w;.rw[Ê h];show⟨λx hx=>?_,h⟩;obtain⟨r,hr,rfl⟩:=Ù.mp hx;have:=(hc r hr).2.1;lia
  .rw[Ç h];have ok:K60P.OkW (ú cl):=by
    refine⟨?_,by unfold ú;rw[Ï];exact hz,λx hx=>?_⟩;.cases mh:cl with|nil=>rw[mh]at h;exact absurd hw h;|cons r BB=>unfold ú;rw[Ï,İ];lia
    .obtain⟨r,hr,rfl⟩:=Ù.mp hx;show(hc r hr).2
   show⟨λx hx=>?_,by rw[K60P.res_sum ok];show Ϯ _⟩;obtain⟨i,hi,e⟩:=Zaw hx;have eW:i<(ú cl).length:=by rw[K60P.res_len]at hi;show hi
   show(K60P.res_get ok hw À (i:=i) (r:=x) (w:=(ú cl)[i]) (by rw[Ô hi,e]) (Ô eW)).1
 obtain⟨h1,h2⟩:=hs;have h3:=(jP h1).1;obtain⟨m1,m2,m3⟩:=qK (w:=w-(bf w cl).sum) (rs:=ow) À ho;unfold Ę;show⟨λx hx=>(è.mp hx).elim (h1 x) (m1 x),?_,?_⟩;.rw[List.sum_append];lia
 .rw[List.sum_append];lia
theorem Bq{cl ow:UV}(hw:0<=w)(hc:∀r∈cl,r.length=4/\1<=fl r 3/\fl r 3<=99)(hz:cl.length<=80)(ho:∀r∈ow,0<=fl r 3):fj (bZ ((cl++ow).zip (Ę w cl ow)))=(Ę w cl ow).sum/\0<=w-fj (bZ ((cl++ow).zip (Ę w cl ow))):=by obtain⟨a,b,c⟩:=yU hw hc hz ho;have e:=Bp (rs:=cl++ow) (sh:=Ę w cl ow) (by unfold Ę;rw[à,à,û,dw]) a;show⟨e,by rw[e];lia⟩
def Ŏ(a b:VV):Bool:=!HT.lexLt b a
theorem yV(a b c:VV)(h1:Ŏ a b=true)(h2:Ŏ b c=true):Ŏ a c=true:=by unfold Ŏ at*;rw[Zba]at*;cases h:HT.lexLt c a with|false=>rfl;|true=>
  rcases Al c b a h with z|z;.rw[z]at h2;cases h2
  .rw[z]at h1;cases h1
theorem vq(a b:VV):(Ŏ a b||Ŏ b a)=true:=by unfold Ŏ;cases h:HT.lexLt b a with|false=>rfl;|true=>cases h':HT.lexLt a b with|false=>rfl;|true=>have:=qb a b a h' h;rw[oF]at this;cases this
def ĥ(rs:UV):UV:=rs.mergeSort Ŏ
theorem gQ(pm:BB.Perm rs)(so:BB.Pairwise (λa b=>HT.lexLt b a=false)):BB=ĥ rs:=by
 have HI:BB.Pairwise (λa b=>Ŏ a b=true):=so.imp λ{a b}h=>by unfold Ŏ;rw[h];rfl
 show List.Perm.eq_of_pairwise (le:=λa b=>Ŏ a b=true) (λa b _ _ h1 h2=>?_) HI (Zcj yV vq rs) (pm.trans (Zbg rs Ŏ).symm);unfold Ŏ at h1 h2;rw[Zba]at h1 h2;show lE a b h2 h1
structure Yr where
 g:UV
 k:UV
 l:VV
 d:Int
def aN(ps ow:UV)(sort:Int):UV:=ow.filter λr=>decide (fl (ps.getD (fl r 1).toNat []) 1=sort)
def OJ(c:VV)(ps ss ow:UV)(y:Int)(a:Yr)(sort:Nat):Yr:=⟨a.g++bZ ((aK ps ss sort y++aN ps ow sort).zip (Ę (c.getD sort 0+a.d) (aK ps ss sort y) (aN ps ow sort))),a.k++bB ((aK ps ss sort y++aN ps ow sort).zip (Ę (c.getD sort 0+a.d) (aK ps ss sort y) (aN ps ow sort))),a.l++[c.getD sort 0+a.d-fj (bZ ((aK ps ss sort y++aN ps ow sort).zip (Ę (c.getD sort 0+a.d) (aK ps ss sort y) (aN ps ow sort))))],c.getD sort 0+a.d-fj (bZ ((aK ps ss sort y++aN ps ow sort).zip (Ę (c.getD sort 0+a.d) (aK ps ss sort y) (aN ps ow sort))))⟩
def Ý(c:VV)(ps ss ow:UV)(y:Int):Nat->Yr|0=>⟨[],[],[],0⟩|n+1=>OJ c ps ss ow y (Ý c ps ss ow y n) n
def ϻ(ps:UV)(r:VV):Prop:=r.length=4/\0<=fl r 1/\fl r 1<ps.length/\1<=fl r 3
theorem ji{ps ow:UV}(h:∀r∈ow,ϻ ps r):∀r∈aN ps ow sort,ϻ ps r:=λr hr=>h r (ķ.mp hr).1
theorem u9(ps ow:UV)(sort:Int):(aN ps ow sort).length<=ow.length:=Ϗ _ _
theorem ir(hu:un ps ss=none)(h5:∀s∈ss,s.length=5)(okp:∀r∈ps,okP r):∀r∈aK ps ss sort year,r.length=4/\1<=fl r 3/\fl r 3<=99:=λr hr=>by obtain⟨a,b,c,_⟩:=Ko (sort:=sort) (year:=year) hu h5 okp ps.length (Ø _) r hr;show⟨a,b,c⟩
theorem dO(h:ps.length<=10):(aK ps ss sort year).length<=80:=by have:=lO ps ss sort year ps.length;unfold aK;lia
theorem GJ{ps ss ow:UV}(hc:∀x∈c,0<=x)(hu:un ps ss=none)(h5:∀s∈ss,s.length=5)(okp:∀r∈ps,okP r)(hl:ps.length<=10)(ho:∀r∈ow,ϻ ps r):∀n,0<=(Ý c ps ss ow y n).d
 |0=>Ϯ _|n+1=>by
  have ih:=GJ (y:=y) hc hu h5 okp hl ho n;have hw:0<=c.getD n 0+(Ý c ps ss ow y n).d:=by have:=jw hc n;lia
  show(Bq hw (ir hu h5 okp) (dO hl) λr hr=>by have:=(ji ho r hr).2.2.2;lia).2
end K60
open K60P (Ā)
namespace K60
open PySem L2
theorem Br(P:List (VV×Int)):(bZ P).length<=P.length:=by unfold bZ;rw[Ï];show Ϗ _ _
theorem qL(P:List (VV×Int)):(bB P).length<=P.length:=by unfold bB;rw[Ï];show Ϗ _ _
theorem xK(hl:ps.length<=10):∀n,(Ý c ps ss ow y n).g.length<=n*(80+ow.length)/\(Ý c ps ss ow y n).k.length<=n*(80+ow.length)/\(Ý c ps ss ow y n).l.length=n
 |0=>⟨Ė _,Ė _,O⟩|n+1=>by
  obtain⟨a,b,d⟩:=xK (c:=c) (ss:=ss) (ow:=ow) (y:=y) hl n;have h1:=dO (ss:=ss) (sort:=n) (year:=y) hl;have h2:=u9 ps ow n;have hz:∀sh:VV,((aK ps ss n y++aN ps ow n).zip sh).length<=80+ow.length:=λsh=>by rw[ν,à];lia
  rw[Nat.succ_mul];show⟨?_,?_,?_⟩;.show((Ý c ps ss ow y n).g++bZ _).length<=_;rw[à];have:=Br ((aK ps ss n y++aN ps ow n).zip (Ę (c.getD n 0+(Ý c ps ss ow y n).d) (aK ps ss n y) (aN ps ow n)));have:=hz (Ę (c.getD n 0+(Ý c ps ss ow y n).d) (aK ps ss n y) (aN ps ow n));lia
  .show((Ý c ps ss ow y n).k++bB _).length<=_;rw[à];have:=qL ((aK ps ss n y++aN ps ow n).zip (Ę (c.getD n 0+(Ý c ps ss ow y n).d) (aK ps ss n y) (aN ps ow n)));have:=hz (Ę (c.getD n 0+(Ý c ps ss ow y n).d) (aK ps ss n y) (aN ps ow n));lia
  .show((Ý c ps ss ow y n).l++[_]).length=n+1;rw[à,d];rfl
theorem Z0f:∀n,(∀r∈(Ý c ps ss ow y n).g,r.length=4)/\∀r∈(Ý c ps ss ow y n).k,r.length=4
 |0=>⟨λr hr=>(by cases hr),λr hr=>(by cases hr)⟩|n+1=>by
  obtain⟨a,b⟩:=Z0f (c:=c) (ps:=ps) (ss:=ss) (ow:=ow) (y:=y) n;show⟨λr hr=>?_,λr hr=>?_⟩
  .rcases è.mp (show r∈(Ý c ps ss ow y n).g++bZ _ from hr)with z|z;.exact a r z
   .obtain⟨p,_,rfl⟩:=Ù.mp z;rfl
  .rcases è.mp (show r∈(Ý c ps ss ow y n).k++bB _ from hr)with z|z;.exact b r z
   .obtain⟨p,_,rfl⟩:=Ù.mp z;rfl
def vInt:V->Int|.int i=>i|_=>0
def iu(H:Hp)(a:Addr):VV:=match H a with|some (.tup xs)=>xs.map vInt|_=>[]
theorem JL(e:H a=some (.tup (r.map V.int))):iu H a=r:=by unfold iu;rw[e];show(r.map V.int).map vInt=r;rw[Ě];show Zb9 _
theorem lQ:∀{xs:List V}{rs:UV},ß H xs rs->∃ads:ø,xs=ads.map V.ref/\rs=ads.map (iu H)/\∀a∈ads,H a=some (.tup ((iu H a).map V.int))
 |[],[],_=>⟨[],O,O,λa ha=>(by cases ha)⟩|[],_::_,h=>by have:=h.1;simp at this;|_::_,[],h=>by have:=h.1;simp at this;|x::xs,r::rs,h=>by
  obtain⟨t,e1,e2⟩:=h.2 0 r O;rw[List.getElem?_cons_zero]at e1;cases e1;obtain⟨ads,f1,f2,f3⟩:=lQ (xs:=xs) (rs:=rs) ⟨by have:=h.1;simpa using this,λi q e=>by obtain⟨u,g1,g2⟩:=h.2 (i+1) q (by rw[Zbd];show e);rw[Zbd]at g1;show⟨u,g1,g2⟩⟩;have er:=JL e2;show⟨t::ads,by rw[f1];rfl,by rw[f2,Ľ,er,<-f2],λa ha=>?_⟩;rcases ļ.mp ha with z|z;.rw[z,er];show e2
  .exact f3 a z
theorem GK{l':ø}(h:∀a∈l',H' a=some (.tup ((iu H a).map V.int))):ß H' (l'.map V.ref) (l'.map (iu H)):=by refine⟨by rw[Ï,Ï],λi r e=>?_⟩;rw[ì]at e;cases z:l'[i]? with|none=>rw[z]at e;cases e;|some a=>rw[z]at e;cases e;show⟨a,by rw[ì,z];rfl,h a (ń z)⟩
inductive ϐ(vs:List V)(H:Hp)(Q:VK):Prop|mk:∀bk y lo ac xc cs ap xp ps ah xs ss xo ow,(vs=[.ref bk,.int y,.ref lo])->(H bk=some (.tup [.ref ac,.ref ap,.ref ah]))->(RowsAt H ac xc cs)->((∀r∈cs,r.length=3/\∀x∈r,0<=x))->(0<=y)->(y<cs.length)->(RowsAt H ap xp ps)->(ps.length<=10)->((∀r∈ps,okP r))->(RowsAt H ah xs ss)->(ss.length<=12)->((∀s∈ss,s.length=5))->(un ps ss=none)->(H lo=some (.lst xo))->(ß H xo ow)->((∀r∈ow,ϻ ps r))->(ow.length<=10000)->(∀t g k tl xg xk H',Â H H'->H' t=some (.tup [.ref g,.ref k,.ref tl])->H g=none->H k=none->(g≠sysModules/\k≠sysModules)->H' g=some (.lst xg)->ß H' xg (ĥ (Ý (cs.getD y.toNat []) ps ss ow y 3).g)->H' k=some (.lst xk)->ß H' xk (ĥ (Ý (cs.getD y.toNat []) ps ss ow y 3).k)->H' tl=some (.tup ((Ý (cs.getD y.toNat []) ps ss ow y 3).l.map V.int))->Q (.ref t) H')->ϐ  vs H Q
def GP:Sp:=λvs H Q _=>ϐ  vs H Q
theorem JM(h:un ps ss=none)(h5:∀s∈ss,s.length=5):∀s∈ss,okS s:=λs hs=>by obtain⟨j,hj,e⟩:=Zaw hs;have:=yS h j hj;rw[æ hj,e]at this;show qG (h5 s hs) this
theorem vy{tb:TS}(R:Hp->Prop)(h:R H)(g:∀H,R H->tb D σ H):tb D σ H:=g H h
variable{mg:UW}{base:Heap}
theorem ndZ:(["row","promises","sort"]:Đ).Nodup:=`j
theorem Ħ:Å ["book","year","owed","clips","promises","sales","gifts","lacking","left","down","sort","wool","claims","ahead","given","lacked"] ["book","year","owed"] (aG (top 50)):=ċ
theorem JN(F:ü K "year_given" "year_given" (top 50) f fd)(T:Mg mg)(N:Nums mg)(Tr:mg "range"=none)(Ts:mg "sorted"=none)(c1:í P w K mg base 2 "claims_in" ["promises","sales","sort","year"] xH)(c2:í P w K mg base 8 "sort_given" ["wool","claims","owed"] GC)(c3:í P w K mg base 1 "sacks_of" ["rows"] Bl):Ú P w K mg base ù 9 f fd ["book","year","owed"] GP:=by
 show F.oq Ħ `b;obtain⟨bk,y,lo,ac,xc,cs,ap,xp,ps,ah,xs,ss,xo,ow,rfl,eb,rc,okc,y0,y1,rp,lp,okp,rs,ls,h5,hu,eo,sv,js,VE,q⟩:=h;obtain⟨t3,e3⟩:=N.sorts;show K60P.ok_b (aH ⟨cP (pv 0) (bF O (ao (Ó 3 Ħ.nd) (ao (bw (i:=4) Ħ.nd O (Or.inr O)) (ao (Ó 5 Ħ.nd) aR))))⟩ (aH (gY 6 Ħ.nd (uN fK)) (aH (gY 7 Ħ.nd (uN fK)) (aH (gY 8 Ħ.nd (uN fK)) (aH (gY 9 Ħ.nd LK) (aH ⟨bR Ń O (cH O Tr (aq (cC (v:=.int 3) O e3 `i) aj)) (bw (i:=10) Ħ.nd O (Or.inr O)) (gW (aH (gY 11 Ħ.nd (Er cA (Es bT (Es bT ⟨pv 3⟩ ⟨pv 1⟩ (λ_ _=>rfl)) ⟨pv 10⟩ (λ_ _=>rfl)) ⟨pv 9⟩)) (aH (gY 12 Ħ.nd ⟨aJ c1 hr (aq (pv 4) (aq (pv 5) (aq (pv 10) (aq (pv 1) aj))))⟩) (aH ⟨gG (i:=13) ["row","promises","sort"] [none,some 4,some 10] O Ħ.nd O (Or.inl O) (bO (pv 2)) (λC fp Á s₂ Í=>⟨Ó 0 ndZ,gF (bj jV (pX (K60P.ix_tupK (K:=K) O) (pX (K60P.ix_tupK (K:=K) O) (pv 1) (pX (K60P.ix_tupK (K:=K) O) (pv 0) aA)) aA) (pv 2) (bx _)),pv 0⟩) (λC=>cI (cI trivial)) ⟨O,O,O,O⟩⟩ (aH ⟨cP (aJ c2 hr (aq (pv 11) (aq (pv 12) (aq (pv 13) aj)))) (bF O (ao (Ó 14 Ħ.nd) (ao (Ó 15 Ħ.nd) aR)))⟩ (aH (gY 9 Ħ.nd (Er eQ ⟨pv 11⟩ ⟨aJ c3 hr (aq (pv 14) aj)⟩)) (aH ⟨mj (i:=6) Ħ.nd O (Or.inl O) (pv 14) qg⟩ (aH ⟨mj (i:=7) Ħ.nd O (Or.inl O) (pv 15) qg⟩ (bQ ⟨dJ (jB zBe zBg zBf di (pv 8) (aq (pv 9) aj))⟩)))))))))⟩ (bQ (mH (pO (fD ⟨aM dI O Ts Ā (aq (pv 6) aj)⟩ (fD ⟨aM dI O Ts Ā (aq (pv 7) aj)⟩ (fD ⟨bK cz O T.tuple å (aq (pv 8) aj)⟩ fK)))))))))))) ?_;apply aW;show⟨_,O,bk,_,O,Ñ.of eb,O,_,_,O,_,_,O,_,_,O,O,?_⟩;dsimp only;show aW (aQ ?_);show⟨zL,λlg vE=>?_⟩;apply aD;dsimp only;show aW (aQ ?_);show⟨zL,λlk nv=>?_⟩;apply aD;dsimp only;show aW (aQ ?_);show⟨zL,λll fx=>?_⟩;apply aD;dsimp only;show aW (aQ ?_);apply aD;dsimp only;have s1:=Â.upd (o:=.lst []) vE;have s2:=Â.upd (o:=.lst []) nv;have s3:=Â.upd (o:=.lst []) fx;have VJ:H lg=none:=vE;have zI:H lk=none:=s1.free nv;have VL:H ll=none:=(s1.trans s2).free fx;have Sa:lg≠lk:=λz=>by rw[<-z,aa]at nv;cases nv
 have Sb:lk≠ll:=λz=>by rw[<-z,aa]at fx;cases fx
 have Sd:lg≠ll:=λz=>by rw[<-z,s2 _ _ aa]at fx;cases fx
 show vy (λH1=>Â H H1/\H1 lg=some (.lst [])/\H1 lk=some (.lst [])/\H1 ll=some (.lst [])) ⟨(s1.trans s2).trans s3,s3 _ _ (s2 _ _ aa),s3 _ _ aa,aa⟩ λH1=>?_;rintro⟨k1,rX,VM,ĝ⟩;clear s1 s2 s3 vE nv fx;have MW:y.toNat<cs.length:=À;obtain⟨tc,EF,EG⟩:=rows_at rc y0 (show cs[y.toNat]?=some cs[y.toNat]from Ô MW);have VN:cs.getD y.toNat []=cs[y.toNat]:=æ MW;have zS:=okc _ (ĕ MW);rw[VN]at q;generalize cs[y.toNat]=c at q EG zS;have fN:=JM hu h5;apply aW;show⟨3,O,by decide,by decide,?_⟩;show dh (lo:=0) (λi σ Hc=>Xe8 λcq cb eC eI cK cS xg xk=>Xa7 (σ=[some (.ref bk),some (.int y),some (.ref lo),some (.ref ac),some (.ref ap),some (.ref ah),some (.ref lg),some (.ref lk),some (.ref ll),some (.int (Ý c ps ss ow y i).d),cq,cb,eC,eI,cK,cS]) (Â H Hc) (Hc lg=some (.lst xg)) (ß Hc xg (Ý c ps ss ow y i).g) (Hc lk=some (.lst xk)) (ß Hc xk (Ý c ps ss ow y i).k) (Hc ll=some (.lst ((Ý c ps ss ow y i).l.map V.int)))) ?_ ?_ ?_;.exact⟨none,none,none,none,none,none,[],[],O,k1,rX,ß.nil,VM,ß.nil,ĝ⟩
 .rintro i σ Hc hi⟨cq,cb,eC,eI,cK,cS,xg,xk,rfl,k,eg,elg,ek,fz,el⟩;have hi:i<3:=hi;obtain⟨yl1,yl2,VO⟩:=xK (c:=c) (ss:=ss) (ow:=ow) (y:=y) lp i;apply aD;have z0:(0:Int)+(i:Int)=i:=À;rw[z0];show rQ λDe BF=>?_;have VP:(c.map V.int)[i]?=some (.int (c.getD i 0)):=by have dA:i<c.length:=À;rw[ì,ě,Ô dA];rfl
  show aW (aQ ?_);show⟨_,O,_,O,ac,xc,y,.ref tc,O,O,Ñ.of (k _ _ rc.e),EF,_,O,tc,_,i,.int (c.getD i 0),O,O,Ñ.of (k _ _ EG),dZ VP,_,O,_,_,O,O,?_⟩;apply aD;dsimp only;have dn:=GJ (c:=c) (y:=y) zS.2 hu h5 okp lp js i;have cn:=jw zS.2 i;show aW (aQ ?_);show⟨_,O,_,O,_,O,_,O,ap,xp,ps,ah,xs,ss,i,y,O,rp.same k,lp,okp,rs.same k,ls,fN,λlc VQ H2 s2 nlc Ee MX=>?_⟩;apply aD;dsimp only;have k2:=k.trans s2;apply aW;show⟨_,O,lo,O,⟨_,Ë.of (k2 _ _ eo)⟩,fG ow.length (λj ys σ Hj=>Â H2 Hj/\(∃o1,σ=[o1,some (.ref ap),some (.int i)])/\ß Hj ys (aN ps (ow.take j) i)) ⟨Â.refl _,`i,ß.nil⟩ ϟ ?_ ?_⟩
  .rintro j ys σ Hj hj hy⟨sc,⟨o1,rfl⟩,kX⟩;have kj:=k2.trans sc;have vk:Ë K Hj lo xo:=Ë.of (kj _ _ eo);obtain⟨tr,ex,fe⟩:=sv.2 j ow[j] (Ô hj);obtain⟨o4,o5,o6,o7⟩:=js _ (ĕ hj);have MY:=fe;rw[bW o4]at fe;obtain⟨p,hp,ep,op⟩:=prom_ok okp o5 o6;obtain⟨tp,nV,iS⟩:=rows_at rp o5 hp;rw[six_row op.1]at iS;have bq:aN ps (ow.take (j+1)) i=aN ps (ow.take j) i++(if fl p 1=i then[ow[j]]else[]):=by
    rw[ġ,Ô hj];unfold aN;rw[show(some ow[j]).toList=[ow[j]]from O,Ŵ];congr 1;by_cases h:fl p 1=i;.rw[Ê h,μ (by rw[ep];show ç h)];rfl
    .rw[Ç h,δ (by rw[ep,Ĥ];show h)];rfl
   show⟨⟨_,_,vk,ex⟩,λx H' yv R hR=>?_⟩;obtain⟨rfl,yv⟩:=yv;have yv:=yv _ vk;rw[ex]at yv;cases yv;apply aD;show⟨_,O,_,O,tr,_,1,.int (fl ow[j] 1),O,O,Ñ.of (kj _ _ fe),O,ap,xp,_,.ref tp,O,O,Ñ.of (kj _ _ rp.e),nV,tp,_,1,.int (fl p 1),O,O,Ñ.of (kj _ _ iS),O,_,O,O,_,O,?_⟩;by_cases h:fl p 1=i;.rw[ç (by rw[h])];show bM ⟨_,O,hR _ _ _ (by rw[à];show ys.length+1<=j+1;lia) ⟨sc,`i,?_⟩⟩;rw[bq,Ê h];show kX.app (ß.one (kj _ _ MY))
   .rw[č (λz=>h (by injection z))];show bG (hR _ _ _ À ⟨sc,`i,?_⟩);rw[bq,Ç h,Ĕ];show kX
  rintro ya σ Hj hy⟨sc,_,vn⟩;rw[Ņ]at vn;show⟨⟨_,Ë.of (sc _ _ (k2 _ _ eo)),by rw[sv.1];show Ø _⟩,λla y9=>?_⟩;have sa:=sc.updR (o:=.lst ya) y9;have HM:=aa (H:=Hj) (a:=la) (o:=.lst ya);have vn:=vn.same (Â.upd (o:=.lst ya) y9);generalize upd Hj la (.lst ya)=H3 at sa HM vn⊢;have k3:=k2.trans sa;have sH:=s2.trans sa;dsimp only;have gy:=ir (sort:=i) (year:=y) hu h5 okp;have vw:=dO (ss:=ss) (sort:=i) (year:=y) lp;have VR:=ji (sort:=i) js;have hal:=u9 ps ow i;apply aW;show⟨_,O,_,O,_,O,c.getD i 0+(Ý c ps ss ow y i).d,lc,VQ,aK ps ss i y,la,ya,aN ps ow i,O,sa _ _ Ee,MX.same sa,gy,vw,À,HM,vn,λr hr=>(VR r hr).1,À,λt g kk oo sM H4 s4 et ng nk Se sN VS As=>⟨t,_,O,Ñ.of et,O,_,_,O,_,_,O,O,?_⟩⟩;have k4:=k3.trans s4;have VT:=sH.trans s4;have gl:=Br (`f);have kl:=qL (`f);have zl:(`f).length<=80+ow.length:=by rw[ν,à];lia
  have e1:(Ý c ps ss ow y (i+1)).g=(Ý c ps ss ow y i).g++bZ (`f):=O;have e2:(Ý c ps ss ow y (i+1)).k=(Ý c ps ss ow y i).k++bB (`f):=O;have e3:(Ý c ps ss ow y (i+1)).l=(Ý c ps ss ow y i).l++[c.getD i 0+(Ý c ps ss ow y i).d-fj (bZ (`f))]:=O;have e4:(Ý c ps ss ow y (i+1)).d=c.getD i 0+(Ý c ps ss ow y i).d-fj (bZ (`f)):=O;have g4:∀r∈bZ (`f),r.length=4:=λr hr=>by obtain⟨p,_,rfl⟩:=Ù.mp hr;rfl
  rw[e1,e2,e3,e4]at BF;generalize bZ (`f)=GG at sN g4 gl BF⊢;generalize bB (`f)=KK at As kl BF⊢;dsimp only;show aW (aQ ?_);show⟨_,O,_,O,g,oo,GG,O,Se,sN,g4,À,λH5 s5=>⟨_,_,O,O,?_⟩⟩;apply aD;dsimp only;have k5:=k4.trans s5;have EH:=VT.trans s5;have ngl:g≠lg:=(az (sH _ _ eg) ng).symm;have VU:kk≠lg:=(az (sH _ _ eg) nk).symm;have Sf:=EH _ _ eg;have VW:=EH _ _ ek;have el5:=EH _ _ el;apply aW;show⟨_,O,_,O,lg,g,xg,oo,O,O,Sf,s5 _ _ Se,by rw[elg.1,sN.1,sizeLine_eq];have:i*(80+ow.length)<=3*(80+ow.length):=Nat.mul_le_mul_right _ À;lia,?_⟩;dsimp only;have MZ:∀b z,H5 b=some (.tup z)->upd H5 lg (.lst (xg++oo)) b=some (.tup z):=λb z e=>by rw[au λw=>by rw[w,Sf]at e;cases e];show e
  have k6:Â H (upd H5 lg (.lst (xg++oo))):=λb o e=>by rw[au (az e VJ)];show k5 _ _ e
  have Sg:=aa (H:=H5) (a:=lg) (o:=.lst (xg++oo));have EI:=((elg.same EH).app (sN.same s5)).keep MZ;have M0:upd H5 lg (.lst (xg++oo)) lk=some (.lst xk):=by rw[au Sa.symm];show VW
  have EJ:upd H5 lg (.lst (xg++oo)) kk=some (.lst sM):=by rw[au VU];show s5 _ _ VS
  have Sh:upd H5 lg (.lst (xg++oo)) ll=some (.lst ((Ý c ps ss ow y i).l.map V.int)):=by rw[au Sd.symm];show el5
  have ot:=(fz.same EH).keep MZ;have vF:=(As.same s5).keep MZ;generalize upd H5 lg (.lst (xg++oo))=H6 at k6 Sg EI M0 EJ Sh ot vF⊢;apply aW;show⟨_,O,_,O,lk,kk,xk,sM,O,O,M0,EJ,by rw[fz.1,As.1,sizeLine_eq];have:i*(80+ow.length)<=3*(80+ow.length):=Nat.mul_le_mul_right _ À;lia,?_⟩;dsimp only;have Si:∀b z,H6 b=some (.tup z)->upd H6 lk (.lst (xk++sM)) b=some (.tup z):=λb z e=>by rw[au λw=>by rw[w,M0]at e;cases e];show e
  have k7:Â H (upd H6 lk (.lst (xk++sM))):=λb o e=>by rw[au (az e zI)];show k6 _ _ e
  have Sj:upd H6 lk (.lst (xk++sM)) lg=some (.lst (xg++oo)):=by rw[au Sa];show Sg
  have EK:=EI.keep Si;have Sk:=aa (H:=H6) (a:=lk) (o:=.lst (xk++sM));have EL:=(ot.app vF).keep Si;have vS:upd H6 lk (.lst (xk++sM)) ll=some (.lst ((Ý c ps ss ow y i).l.map V.int)):=by rw[au Sb.symm];show Sh
  generalize upd H6 lk (.lst (xk++sM))=H7 at k7 Sj EK Sk EL vS⊢;show⟨_,O,.inl ⟨O,_,Ë.of vS⟩,_,O,ll,_,_,O,O,vS,by rw[Ï,VO,sizeLine_eq];lia,?_⟩;have Sl:∀{o:HO}b z,H7 b=some (.tup z)->upd H7 ll o b=some (.tup z):=λb z e=>by rw[au λw=>by rw[w,vS]at e;cases e];show e
  show BF _ _ ⟨_,_,_,_,_,_,xg++oo,xk++sM,O,λb o e=>?_,?_,EK.keep Sl,?_,EL.keep Sl,?_⟩;.rw[au (az e VL)];show k7 _ _ e
  .rw[au Sd];show Sj
  .rw[au Sb];show Sk
  .rw[aa,é];rfl
 .rintro σ Hc⟨cq,cb,eC,eI,cK,cS,xg,xk,rfl,k,eg,elg,ek,fz,el⟩;obtain⟨VX,VY⟩:=Z0f (c:=c) (ps:=ps) (ss:=ss) (ow:=ow) (y:=y) 3;have q:∀t g k tl xg xk H',Â H H'->H' t=some (.tup [.ref g,.ref k,.ref tl])->H g=none->H k=none->(g≠sysModules/\k≠sysModules)->H' g=some (.lst xg)->ß H' xg (ĥ (Ý c ps ss ow y 3).g)->H' k=some (.lst xk)->ß H' xk (ĥ (Ý c ps ss ow y 3).k)->H' tl=some (.tup ((Ý c ps ss ow y 3).l.map V.int))->Q (.ref t) H':=q;have elg:ß Hc xg (Ý c ps ss ow y 3).g:=elg;have fz:ß Hc xk (Ý c ps ss ow y 3).k:=fz;have el:Hc ll=some (.lst ((Ý c ps ss ow y 3).l.map V.int)):=el;obtain⟨ag,VZ,Sn,So⟩:=lQ elg;obtain⟨ak,V0,A7,Sr⟩:=lQ fz;subst VZ V0;dsimp only;have nn:∀{rs:UV}{ads:ø},rs=ads.map (iu Hc)->(∀r∈rs,r.length=4)->∀a∈ads,iu Hc a≠[]:=λ{rs ads}h h4 a ha z=>by have:=h4 (iu Hc a) (by rw[h];show List.mem_map_of_mem ha);rw[z]at this;cases this
  show⟨_,O,lg,ag,iu Hc,O,Ë.of eg,λa ha=>⟨Ñ.of (So a ha),nn Sn VX a ha⟩,λg l1 hg Na fy V1=>?_⟩;have sg:=Â.upd (o:=.lst (l1.map V.ref)) hg;show⟨_,O,lk,ak,iu Hc,O,Ë.of (sg _ _ ek),λa ha=>⟨Ñ.of (sg _ _ (Sr a ha)),nn A7 VY a ha⟩,λkk l2 hk V2 h8 BG=>?_⟩;have sk:=sg.updR (o:=.lst (l2.map V.ref)) hk;show⟨_,O,ll,_,O,.inl ⟨Ë.of (sk _ _ el),λtl HP=>?_⟩⟩;have sl:=sk.updR (o:=.tup ((Ý c ps ss ow y 3).l.map V.int)) HP;show⟨zL,λt ht=>?_⟩;have st:=sl.updR (o:=.tup [.ref g,.ref kk,.ref tl]) ht;have u1:=Â.upd (o:=.lst (l2.map V.ref)) hk;have u2:=Â.upd (o:=.tup ((Ý c ps ss ow y 3).l.map V.int)) HP;have u3:=Â.upd (o:=.tup [.ref g,.ref kk,.ref tl]) ht;have HU:l1.map (iu Hc)=ĥ (Ý c ps ss ow y 3).g:=gQ (by rw[Sn];show fy.map _) (ň.mpr V1);have V3:l2.map (iu Hc)=ĥ (Ý c ps ss ow y 3).k:=gQ (by rw[A7];show h8.map _) (ň.mpr BG);show q t g kk tl _ _ _ (k.trans st) aa (k.free hg) (k.free (sg.free hk)) ⟨Na,V2⟩ (u3 _ _ (u2 _ _ (u1 _ _ aa))) ?_ (u3 _ _ (u2 _ _ aa)) ?_ (u3 _ _ aa);.rw[<-HU];show GK λa ha=>st _ _ (So a (fy.mem_iff.mp ha))
  .rw[<-V3];show GK λa ha=>st _ _ (Sr a (h8.mem_iff.mp ha))
def cnt(ps ow:UV):Nat->Nat|0=>0|n+1=>cnt ps ow n+(aN ps ow n).length
theorem ό(ps:UV):∀n,cnt ps [] n=0|0=>rfl|n+1=>by unfold cnt;rw[ό ps n];rfl
theorem Β(ps ow:UV)(r:VV):∀n,cnt ps (r::ow) n=cnt ps ow n+(if 0<=fl (ps.getD (fl r 1).toNat []) 1/\fl (ps.getD (fl r 1).toNat []) 1<n then 1 else 0)
 |0=>by rw[Ç À];rfl;|n+1=>by
  show cnt ps (r::ow) n+(aN ps (r::ow) n).length=cnt ps ow n+(aN ps ow n).length+_;rw[Β ps ow r n];unfold aN;by_cases h:fl (ps.getD (fl r 1).toNat []) 1=n;.rw[μ (p:=λ(r:VV)=>decide (fl (ps.getD (fl r 1).toNat []) 1=(n:Int))) (ç h),İ,Ç À,Ê À];lia
  .rw[δ (p:=λ(r:VV)=>decide (fl (ps.getD (fl r 1).toNat []) 1=(n:Int))) (by rw[Ĥ];show h)];by_cases h2:0<=fl (ps.getD (fl r 1).toNat []) 1/\fl (ps.getD (fl r 1).toNat []) 1<n;.rw[Ê h2,Ê À];lia
   .rw[Ç h2,Ç À];lia
theorem GQ(ps:UV)(n:Nat):∀ow,cnt ps ow n<=ow.length|[]=>by rw[ό];exact Ø _;|r::ow=>by rw[Β,İ];have:=GQ ps n ow;split<;>lia
theorem Kp(hl:ps.length<=10):∀n,(Ý c ps ss ow y n).k.length<=80*n+cnt ps ow n|0=>Ė _|n+1=>by have a:=Kp (c:=c) (ss:=ss) (ow:=ow) (y:=y) hl n;have h1:=dO (ss:=ss) (sort:=n) (year:=y) hl;have h3:=qL ((aK ps ss n y++aN ps ow n).zip (Ę (c.getD n 0+(Ý c ps ss ow y n).d) (aK ps ss n y) (aN ps ow n)));show((Ý c ps ss ow y n).k++bB _).length<=80*(n+1)+(cnt ps ow n+(aN ps ow n).length);rw[à];rw[ν,à]at h3;have h3:=ř h3 (Nat.min_le_left ..);lia
theorem P0{ps ss ow:UV}(hu:un ps ss=none)(h5:∀s∈ss,s.length=5)(okp:∀r∈ps,okP r)(ho:∀r∈ow,ϻ ps r):∀n,∀r∈(Ý c ps ss ow y n).k,ϻ ps r
 |0,r,hr=>by cases hr;|n+1,r,hr=>by
  rcases è.mp (show r∈(Ý c ps ss ow y n).k++bB _ from hr)with z|z;.exact P0 (c:=c) (y:=y) hu h5 okp ho n r z
  .obtain⟨p,hp,rfl⟩:=Ù.mp z;obtain⟨h1,h2⟩:=ķ.mp hp;have h2:=ŕ h2;have hm:p.1∈aK ps ss n y++aN ps ow n:=(ϴ (show(p.1,p.2)∈_ from h1)).1;have hn:0<=fl p.1 1/\fl p.1 1<ps.length:=by
    rcases è.mp hm with w|w;.obtain⟨_,_,_,_,a,b⟩:=Ko (sort:=n) (year:=y) hu h5 okp ps.length (Ø _) p.1 w;show⟨a,b⟩
    .have:=ji ho p.1 w;show⟨this.2.1,this.2.2.1⟩
   show⟨O,hn.1,hn.2,?_⟩;show 1<=fl p.1 3-p.2;lia
def fW(cs ps ss:UV):Nat->UV|0=>[]|n+1=>ĥ (Ý (cs.getD n []) ps ss (fW cs ps ss n) n 3).k
theorem uc(hl:ps.length<=10)(hu:un ps ss=none)(h5:∀s∈ss,s.length=5)(okp:∀r∈ps,okP r):∀n,(∀r∈fW cs ps ss n,ϻ ps r)/\(fW cs ps ss n).length<=240*n|0=>⟨λr hr=>(by cases hr),Ø _⟩|n+1=>by obtain⟨a,b⟩:=uc (cs:=cs) hl hu h5 okp n;have pm:=Zbg (Ý (cs.getD n []) ps ss (fW cs ps ss n) n 3).k Ŏ;show⟨λr hr=>P0 (c:=cs.getD n []) (y:=n) hu h5 okp a 3 r (pm.mem_iff.mp hr),?_⟩;show(ĥ (Ý (cs.getD n []) ps ss (fW cs ps ss n) n 3).k).length<=_;unfold ĥ;rw[pm.length_eq];have:=Kp (c:=cs.getD n []) (ss:=ss) (ow:=fW cs ps ss n) (y:=n) hl 3;have:=GQ ps 3 (fW cs ps ss n);lia
def fX(cs ps ss:UV)(j:Nat):Yr:=Ý (cs.getD j []) ps ss (fW cs ps ss j) j 3
def YAt(H0:Hp)(l:Addr)(cs ps ss:UV)(H:Hp)(a:Addr)(j:Nat):Prop:=∃g k tl xg xk,H a=some (.tup [.ref g,.ref k,.ref tl])/\H0 g=none/\H0 k=none/\g≠l/\k≠l/\H g=some (.lst xg)/\ß H xg (ĥ (fX cs ps ss j).g)/\H k=some (.lst xk)/\ß H xk (fW cs ps ss (j+1))/\H tl=some (.tup ((fX cs ps ss j).l.map V.int))/\(g≠sysModules/\k≠sysModules)
theorem YAt.keep(h:YAt H0 l cs ps ss H a j)(k:∀b o,b≠l->H b=some o->H' b=some o)(hl:∃xs,H l=some (.lst xs)):YAt H0 l cs ps ss H' a j:=by
 obtain⟨xs,hl⟩:=hl;obtain⟨g,kk,tl,xg,xk,e1,n1,n2,d1,d2,e2,e3,e4,e5,e6,e7⟩:=h;have nt:∀b z,H b=some (.tup z)->b≠l:=λb z e w=>by rw[w,hl]at e;cases e
 show⟨g,kk,tl,xg,xk,k _ _ (nt _ _ e1) e1,n1,n2,d1,d2,k _ _ d1 e2,e3.keep λb z e=>k _ _ (nt _ _ e) e,k _ _ d2 e4,e5.keep λb z e=>k _ _ (nt _ _ e) e,k _ _ (nt _ _ e6) e6,e7⟩
inductive Κ(vs:List V)(H:Hp)(Q:VK):Prop|mk:∀bk y ac xc cs ap xp ps ah xs ss,(vs=[.ref bk,.int y])->(H bk=some (.tup [.ref ac,.ref ap,.ref ah]))->(RowsAt H ac xc cs)->((∀r∈cs,r.length=3/\∀x∈r,0<=x))->(cs.length<=20)->(0<=y)->(y<cs.length)->(RowsAt H ap xp ps)->(ps.length<=10)->((∀r∈ps,okP r))->(RowsAt H ah xs ss)->(ss.length<=12)->((∀s∈ss,s.length=5))->(un ps ss=none)->(∀l(ts:ø)H',Â H H'->H l=none->H' l=some (.lst (ts.map V.ref))->(ts.length:Int)=y+1->(∀j a,ts[j]?=some a->YAt H l cs ps ss H' a j)->Q (.ref l) H')->Κ  vs H Q
def Bs:Sp:=λvs H Q _=>Κ  vs H Q
theorem ο:Å ["book","year","years","owed","at","gifts","left"] ["book","year"] (aG (top 51)):=ċ
theorem GR(F:ü K "years_given" "years_given" (top 51) f fd)(Tr:mg "range"=none)(c1:í P w K mg base 9 "year_given" ["book","year","owed"] GP):Ú P w K mg base ù 10 f fd ["book","year"] Bs:=by
 show F.oq ο `b;obtain⟨bk,y,ac,xc,cs,ap,xp,ps,ah,xs,ss,rfl,eb,rc,okc,lc,y0,y1,rp,lp,okp,rs,ls,h5,hu,q⟩:=h;show⟨_,aB (Ĝ 2 ο.nd (dC aj)) (aB (Ĝ 3 ο.nd (dC aj)) (aB (bR Ń O (cH O Tr (aq (aU cA (pv 1) aA) aj)) (Ó 4 ο.nd) (aB (cP (aJ c1 hr (aq (pv 0) (aq (pv 4) (aq (pv 3) aj)))) (bF O (ao (Ó 5 ο.nd) (ao (Ó 3 ο.nd) (ao (Ó 6 ο.nd) aR))))) (aC (dJ (jB zBe zBg zBf di (pv 2) (aq (bh (aq (pv 5) (aq (pv 3) (aq (pv 6) aj)))) aj)))))) (aC (aV (pv 2))))),?_⟩;show aW (aQ ?_);show⟨zL,λl hl=>?_⟩;apply aD;dsimp only;show aW (aQ ?_);show⟨zL,λNd fE=>?_⟩;apply aD;dsimp only;have s1:=Â.upd (o:=.lst []) hl;have s2:=Â.upd (o:=.lst []) fE;have V4:Nd≠l:=λz=>by rw[z,aa]at fE;cases fE
 show vy (λH1=>Â H H1/\H1 l=some (.lst [])/\H1 Nd=some (.lst [])) ⟨s1.trans s2,s2 _ _ aa,aa⟩ λH1=>?_;rintro⟨k1,ĝ,V5⟩;apply aW;show⟨_,O,_,_,O,O,y+1,O,À,À,?_⟩;show dh (lo:=0) (λi σ Hc=>Xe6 λx4 x5 x6 lo xo(ts:ø)=>Xa8 (σ=[some (.ref bk),some (.int y),some (.ref l),some (.ref lo),x4,x5,x6]) (Â H Hc) (Hc l=some (.lst (ts.map V.ref))) (ts.length=i) ((∀j a,ts[j]?=some a->YAt H l cs ps ss Hc a j)) (lo≠l) (Hc lo=some (.lst xo)) (ß Hc xo (fW cs ps ss i))) ?_ ?_ ?_;.exact⟨none,none,none,Nd,[],[],O,k1,ĝ,O,λj a e=>(by simp at e),V4,V5,ß.nil⟩
 .rintro i σ Hc hi⟨x4,x5,x6,lo,xo,ts,rfl,k,el,lt,hy,dl,eo,sv⟩;obtain⟨js,Nl⟩:=uc (cs:=cs) lp hu h5 okp i;apply aD;have z0:(0:Int)+(i:Int)=i:=À;rw[z0];apply aW;show⟨_,O,_,O,_,O,bk,i,lo,ac,xc,cs,ap,xp,ps,ah,xs,ss,xo,fW cs ps ss i,O,k _ _ eb,rc.same k,okc,À,À,rp.same k,lp,okp,rs.same k,ls,h5,hu,eo,sv,js,À,λt g kk tl xg xk H2 s2 et ng nk Na eg elg ek fz EM=>?_⟩;rw[Ž]at elg fz EM;show⟨t,_,O,Ñ.of et,O,_,_,O,_,_,O,_,_,O,O,?_⟩;dsimp only;have k2:=k.trans s2;have Č:=s2 _ _ el;have dg:g≠l:=(az el ng).symm;have dk:kk≠l:=(az el nk).symm;show⟨_,O,.inl ⟨O,_,Ë.of Č⟩,_,O,_,O,_,O,zL,λtt HV=>⟨l,_,_,O,O,Â.upd HV _ _ Č,by rw[Ï,lt,sizeLine_eq];lia,?_⟩⟩;have s3:=Â.upd (o:=.tup [.ref g,.ref kk,.ref tl]) HV;have nt:tt≠l:=λz=>by rw[z,Č]at HV;cases HV
  have kp:∀{o:HO}b u,b≠l->H2 b=some u->upd (upd H2 tt (.tup [.ref g,.ref kk,.ref tl])) l o b=some u:=λb u n e=>by rw[au n];show s3 _ _ e
  have ke:∀{o:HO}b z,H2 b=some (.tup z)->upd (upd H2 tt (.tup [.ref g,.ref kk,.ref tl])) l o b=some (.tup z):=λb z e=>kp b _ (λw=>by rw[w,Č]at e;cases e) e;show⟨_,_,_,kk,xk,ts++[tt],O,λb o e=>?_,?_,by rw[à,lt];rfl,λj a e=>?_,dk,kp _ _ dk ek,fz.keep ke⟩;.exact kp _ _ (az e hl) (k2 _ _ e)
  .rw[aa,é];rfl
  .by_cases hj:j<ts.length;.rw[ŭ hj]at e;show(hy j a e).keep (λb o n z=>kp _ _ n (s2 _ _ z)) ⟨_,el⟩
   .have iO:j=i:=by have:=(ĉ.mp e).1;rw[à]at this;simp at this;lia
    subst iO;rw[Ů À,lt,Zbx]at e;cases e;show⟨g,kk,tl,xg,xk,by rw[au nt];show aa,k.free ng,k.free nk,dg,dk,kp _ _ dg eg,elg.keep ke,kp _ _ dk ek,fz.keep ke,ke _ _ EM,Na⟩
 .rintro σ Hc⟨x4,x5,x6,lo,xo,ts,rfl,k,el,lt,hy,dl,eo,sv⟩;show⟨_,O,q l ts Hc k hl el (by rw[lt];lia) hy⟩
inductive ϔ(vs:List V)(H:Hp)(Q:VK):Prop|mk:∀S v d,(vs=[v])->(Ü S H v d)->(sz d<=4000)->(tX d=true)->(∀H',Â H H'->Q .non H')->ϔ  vs H Q
def GX:Sp:=λvs H Q _=>ϔ  vs H Q
theorem Pa:Å ["thing","least","most"] ["thing","least","most"] (aG (top 11)):=ċ
theorem rR(F:ü K "is_whole_from" "is_whole_from" (top 11) f fd)(c1:í P w K mg base 1 "is_whole" ["thing"] (Ŗ dD)):Ú P w K mg base ù 2 f fd ["thing","least","most"] (qy xj):=by refine F.oq Pa λav A outer s H vs Q E hr h=>?_;obtain⟨S,v,d,n,m,rfl,th,hz,q⟩:=h;refine⟨_,aC (aV (cO (aJ c1 hr (aO (pv 0) aj)) (fJ (d9 cN cN (pv 1) (pv 0) (pv 2))))),?_⟩;refine⟨_,O,S,v,d,O,th,hz,λH1 s1=>⟨_,O,?_⟩⟩;have fin:=q H1 s1;unfold xj at fin;cases e:dD d with|false=>rw[e]at fin;exact bG fin;|true=>rw[e]at fin;obtain⟨i,rfl,rfl⟩:=mV th e;show bM (cW (gC O) (gC O) (gC O) _ fin)
theorem Pb:Å ["thing"] ["thing"] (aG (top 35)):=ċ
theorem JP(F:ü K "refuse_no_book" "refuse_no_book" (top 35) f fd)(c1:í P w K mg base 6 "is_book" ["thing"] (Ŗ tX)):Ú P w K mg base ù 7 f fd ["thing"] GX:=by show F.oq Pb `b;obtain⟨S,v,d,rfl,th,hz,hb,q⟩:=h;show⟨_,aC (cM (dY (fZ (aJ c1 hr (aO (pv 0) aj)))) (aC iW) bz),?_⟩;show⟨_,O,S,v,d,O,th,hz,λH1 s1=>⟨_,O,?_⟩⟩;rw[hb];show bG (q _ s1)
structure Ć(H:Hp)(bk ac:Addr)(xc:List V)(cs:UV)(ap:Addr)(xp:List V)(ps:UV)(ah:Addr)(xs:List V)(ss:UV):Prop where
 e:H bk=some (.tup [.ref ac,.ref ap,.ref ah])rc:RowsAt H ac xc cs
 okc:∀r∈cs,r.length=3/\∀x∈r,0<=x
 lc:cs.length<=20
 rp:RowsAt H ap xp ps
 lp:ps.length<=10
 okp:∀r∈ps,okP r
 rs:RowsAt H ah xs ss
 ls:ss.length<=12
 h5:∀s∈ss,s.length=5
 un:un ps ss=none
theorem Ć.same(b:Ć H bk ac xc cs ap xp ps ah xs ss)(s:Â H H'):Ć H' bk ac xc cs ap xp ps ah xs ss:=⟨s _ _ b.e,b.rc.same s,b.okc,b.lc,b.rp.same s,b.lp,b.okp,b.rs.same s,b.ls,b.h5,b.un⟩
theorem JQ{P:List (VV×Int)}{r:VV}(h:r∈bZ P):∃p∈P,fl r 0=fl p.1 0/\fl r 1=fl p.1 1/\fl r 2=fl p.1 2/\r.length=4:=by obtain⟨p,hp,rfl⟩:=Ù.mp h;show⟨p,(ķ.mp hp).1,O,O,O,O⟩
theorem GZ{P:List (VV×Int)}{r:VV}(h:r∈bB P):∃p∈P,fl r 0=fl p.1 0/\fl r 1=fl p.1 1/\fl r 2=fl p.1 2/\r.length=4:=by obtain⟨p,hp,rfl⟩:=Ù.mp h;show⟨p,(ķ.mp hp).1,O,O,O,O⟩
def Src(ps ss ow:UV)(y:Int)(n:Nat)(r:VV):Prop:=∃s q,s<n/\(q∈aK ps ss (s:Nat) y\/q∈aN ps ow (s:Nat))/\fl r 0=fl q 0/\fl r 1=fl q 1/\fl r 2=fl q 2/\r.length=4
section
variable{ps ss ow:UV}
theorem Hg:∀n,(∀r∈(Ý c ps ss ow y n).g,Src ps ss ow y n r)/\∀r∈(Ý c ps ss ow y n).k,Src ps ss ow y n r
 |0=>⟨λr h=>(by cases h),λr h=>(by cases h)⟩|n+1=>by
  obtain⟨a,b⟩:=Hg n;have up:∀{r},Src ps ss ow y n r->Src ps ss ow y (n+1) r:=λ⟨s,q,h,z⟩=>⟨s,q,À,z⟩;have zp:∀{sh:VV}{p:VV×Int},p∈(aK ps ss (n:Nat) y++aN ps ow (n:Nat)).zip sh->p.1∈aK ps ss (n:Nat) y\/p.1∈aN ps ow (n:Nat):=λ{sh p}h=>è.mp (ϴ h).1;show⟨λr h=>?_,λr h=>?_⟩
  .rcases è.mp (show r∈(Ý c ps ss ow y n).g++bZ _ from h)with z|z;.exact up (a r z)
   .obtain⟨p,hp,e⟩:=JQ z;show⟨n,p.1,ϰ _,zp hp,e⟩
  .rcases è.mp (show r∈(Ý c ps ss ow y n).k++bB _ from h)with z|z;.exact up (b r z)
   .obtain⟨p,hp,e⟩:=GZ z;show⟨n,p.1,ϰ _,zp hp,e⟩
theorem xM:∀k,∀r∈gP ps ss sort y k,fl (ps.getD (fl r 1).toNat []) 1=sort/\fl r 0=y/\0<=fl r 1/\fl r 1<k/\0<=fl r 2/\fl r 2<8
 |0,r,h=>by cases h;|k+1,r,h=>by
  rcases è.mp (show r∈gP ps ss sort y k++ik ps ss sort y k from h)with z|z;.obtain⟨a,b,c,d,e⟩:=xM k r z;show⟨a,b,c,À,e⟩
  .unfold ik at z;split at z;.rename_i hs;obtain⟨q,hq,rfl⟩:=Ù.mp z;obtain⟨j,hh,rfl⟩:=Ù.mp hq;have:=ı.mp (ķ.mp hh).1;have e1:fl (y::(k:Int)::[(j:Int),(bV (ps.getD k []) ss k y).getD j 0]) 1=(k:Int):=O;have e2:fl (y::(k:Int)::[(j:Int),(bV (ps.getD k []) ss k y).getD j 0]) 2=(j:Int):=O;rw[e1,e2,Ž];show⟨hs,O,À,À,À,À⟩
   .cases z
def ω(N:Nat)(Y:Int)(r:VV):Prop:=r.length=4/\0<=fl r 0/\fl r 0<Y/\0<=fl r 1/\fl r 1<N/\0<=fl r 2/\fl r 2<8
theorem Hh(y0:0<=y)(ho:∀r∈ow,ω ps.length y r)(h:Src ps ss ow y n r):ω ps.length (y+1) r/\fl (ps.getD (fl r 1).toNat []) 1<n:=by
 obtain⟨s,q,hs,hq,e0,e1,e2,e3⟩:=h;unfold ω;rw[e0,e1,e2];rcases hq with z|z;.obtain⟨a,b,c,d,e,f⟩:=xM ps.length q z;show⟨⟨e3,À,À,c,d,e,f⟩,À⟩
 .obtain⟨hm,hd⟩:=ķ.mp z;have hd:=ŕ hd;obtain⟨_,a,b,c,d,e,f⟩:=ho q hm;show⟨⟨e3,a,À,c,d,e,f⟩,À⟩
end
theorem Hl:∀n,∀r∈fW cs ps ss n,ω ps.length n r|0,r,h=>by cases h;|n+1,r,h=>by have pm:=Zbg (Ý (cs.getD n []) ps ss (fW cs ps ss n) n 3).k Ŏ;have:=(Hh (Int.natCast_nonneg n) (Hl n) ((Hg 3).2 r (pm.mem_iff.mp h))).1;rw[show((n+1:Nat):Int)=(n:Int)+1 by lia];show this
theorem qM(n:Nat):∀r∈ĥ (fX cs ps ss n).g,ω ps.length (n+1) r:=λr h=>by have pm:=Zbg (fX cs ps ss n).g Ŏ;show(Hh (Int.natCast_nonneg n) (Hl n) ((Hg 3).1 r (pm.mem_iff.mp h))).1
def Bk(H:Hp)(bk:Addr)(cs ps ss:UV):Prop:=∃ac xc ap xp ah xs,Ć H bk ac xc cs ap xp ps ah xs ss
inductive ϖ(vs:List V)(H:Hp)(Q:VK):Prop|mk:∀a xs m,(vs=[.ref a,.int m])->(H a=some (.tup xs))->((xs.length:Int)<m)->(Q .non H)->ϖ  vs H Q
def Hm:Sp:=λvs H Q _=>ϖ  vs H Q
inductive Z06(vs:List V)(H:Hp)(Q:VK):Prop|mk:∀bk cs ps ss,(vs=[.ref bk])->(Bk H bk cs ps ss)->(1<=cs.length)->(∀l,∀gs:ø,∀H',Â H H'->H l=none->H' l=some (.lst (gs.map V.ref))->gs.length=cs.length->(∀j g,gs[j]?=some g->∃xg,H g=none/\H' g=some (.lst xg)/\ß H' xg (ĥ (fX cs ps ss j).g))->Q (.ref l) H')->Z06  vs H Q
def Kq:Sp:=λvs H Q _=>Z06  vs H Q
theorem Qw:Å ["rows","most"] ["rows","most"] (aG (top 29)):=ċ
theorem JR(F:ü K "refuse_one_more" "refuse_one_more" (top 29) f fd)(T:Mg mg):Ú P w K mg base ù 1 f fd ["rows","most"] Hm:=by show F.oq Qw `b;obtain⟨a,xs,m,rfl,e,hl,q⟩:=h;show⟨_,aC (cM (bj zJ (aM cj O T.len PySem.boot_len (aq (pv 0) aj)) (pv 1) (bx _)) (aC iW) bz),?_⟩;show⟨_,O,a,xs,O,.inr (Ñ.of e),_,O,_,_,O,O,_,O,?_⟩;rw[č (show¬((xs.length:Int)≥m)by lia)];show bG q
theorem Mw:(["gifts","owed","left"]:Đ).Nodup:=`j
theorem Qx:Å ["book"] ["book"] (aG (top 52)):=ċ
theorem Mx(F:ü K "gifts_by_year" "gifts_by_year" (top 52) f fd)(T:Mg mg)(c1:í P w K mg base 10 "years_given" ["book","year"] Bs):Ú P w K mg base ù 11 f fd ["book"] Kq:=by
 show F.oq Qx `b;obtain⟨bk,cs,ps,ss,rfl,b,l1,q⟩:=h;obtain⟨ac,xc,ap,xp,ah,xs,B⟩:=b;show⟨_,aC (aV (bI (g:=jE K 3 (bL (bu 0) (bL (bu 1) (bL (bu 2) jU)))) ["gifts","owed","left"] [none,none,none] O (bO (aJ c1 hr (aq (pv 0) (aq (aU eQ (aM cj O T.len PySem.boot_len (aq (pX bT (pv 0) aA) aj)) aA) aj)))) (λC fp Á s₂ Í=>⟨du O O (ao (Ó 0 Mw) (ao (Ó 1 Mw) (ao (Ó 2 Mw) aR))),bD,pv 0⟩) (λC=>trivial) ⟨O,O,O,O⟩)),?_⟩;have lcx:=B.rc.l;show⟨_,O,_,O,bk,_,0,.ref ac,O,O,Ñ.of B.e,O,ac,xc,O,.inr (Ñ.of B.rc.e),_,_,O,O,bk,_,ac,xc,cs,ap,xp,ps,ah,xs,ss,O,B.e,B.rc,B.okc,B.lc,À,À,B.rp,B.lp,B.okp,B.rs,B.ls,B.h5,B.un,λl ts H2 s2 nl el lt hy=>?_⟩;have ax:ts.length=cs.length:=À;show⟨l,O,⟨_,Ë.of el⟩,comp_gen ts.length (λi ys σ Hc=>Â H2 Hc/\(∃o1 o2 o3,σ=[o1,o2,o3])/\∃gs:ø,ys=gs.map V.ref/\gs.length=i/\∀(j:Nat)g,gs[j]?=some g->∃xg,H g=none/\H2 g=some (.lst xg)/\ß H2 xg (ĥ (fX cs ps ss j).g)) ⟨Â.refl _,⟨_,_,_,O⟩,[],O,O,λj g e=>(by cases e)⟩ (by rw[sizeLine_eq];have:=B.lc;lia) ?_ ?_⟩
 .rintro i ys σ Hc hi EN⟨sc,⟨o1,o2,o3,rfl⟩,gs,rfl,lg,hg⟩;obtain⟨g,k,tl,xg,xk,e1,n1,n2,d1,d2,e2,e3,e4,e5,e6⟩:=hy i ts[i] (Ô hi);have ex:(ts.map V.ref)[i]?=some (.ref ts[i]):=by rw[ì,Ô hi];rfl
  show⟨⟨_,_,Ë.of (sc _ _ el),ex⟩,λv H' y R hR=>?_⟩;obtain⟨rfl,y⟩:=y;have hv:=y _ (Ë.of (sc _ _ el));rw[ex]at hv;cases hv;show⟨ts[i],_,O,Ñ.of (sc _ _ e1),O,_,_,O,_,_,O,_,_,O,O,_,O,hR _ _ _ ⟨sc,⟨_,_,_,O⟩,gs++[g],by rw[é];rfl,by rw[à,lg];rfl,λj g' ej=>?_⟩⟩;by_cases hj:j<gs.length;.rw[ŭ hj]at ej;show hg j g' ej
  .have iO:j=i:=by have:=(ĉ.mp ej).1;rw[à]at this;simp at this;lia
   subst iO;rw[Ů À,lg,Zbx]at ej;cases ej;show⟨xg,n1,e2,e3⟩
 rintro ys σ Hc EN⟨sc,_,gs,rfl,lg,hg⟩;show⟨⟨_,Ë.of (sc _ _ el),by rw[Ï];show Ø _⟩,λD hD=>?_⟩;have u:=sc.updR (o:=.lst (gs.map V.ref)) hD;show q D gs _ (s2.trans u) ((s2.trans sc).free hD) aa À λj g ej=>by obtain⟨xg,n,a,b⟩:=hg j g ej;show⟨xg,n,u _ _ a,b.same u⟩
def bY(r:VV):List Key:=[.inl (fl r 0),.inl (fl r 1),.inl (fl r 2)]
def eG(rs:UV):List (List Key×V):=rs.foldl (λÄ r=>â Ä (bY r) (.int (fl r 3))) []
theorem dX(rs:UV)(r:VV):eG (rs++[r])=â (eG rs) (bY r) (.int (fl r 3)):=by unfold eG;rw[Zbj];rfl
theorem õ{α:Type}{p:List α->Prop}(h0:p [])(hs:∀l a,p l->p (l++[a])):∀l,p l:=λl=>by
 have:∀r:List α,p r.reverse:=λr=>by induction r with|nil=>exact h0;|cons a r ih=>rw[List.reverse_cons];show hs _ _ ih
 have:=this l.reverse;rwa[List.reverse_reverse]at this
theorem Hn:∀rs,(eG rs).length<=rs.length:=õ (Ø _) λl a h=>by rw[dX,à];have:=dU (eG l) (bY a) (.int (fl a 3));show _<=l.length+1;lia
theorem xN{p:List Key×V}(h:p∈â Ä k v):p.1=k\/p∈Ä:=by
 unfold â at h;split at h
 .obtain⟨q,hq,e⟩:=Ù.mp h;by_cases z:q.1=k;.rw[Ê z]at e;rw[<-e];show .inl z
  .rw[Ç z]at e;rw[<-e];show .inr hq
 .rcases è.mp h with z|z;.exact .inr z
  .rw[ĸ.mp z];show .inl O
theorem xO:∀rs,∀p∈eG rs,∃r∈rs,p.1=bY r:=õ (λp hp=>by cases hp) λl a h p hp=>by
 rw[dX]at hp;rcases xN hp with z|z;.exact⟨a,by simp,z⟩
 .obtain⟨r,hr,e⟩:=h p z;show⟨r,Zav _ hr,e⟩
theorem Ho:∀rs,∀p∈eG rs,∃i,p.2=V.int i:=õ (λp hp=>by cases hp) λl a h p hp=>by
 rw[dX]at hp;unfold â at hp;split at hp
 .obtain⟨q,hq,e⟩:=Ù.mp hp;by_cases z:q.1=bY a;.rw[Ê z]at e;rw[<-e];show`i
  .rw[Ç z]at e;rw[<-e];show h q hq
 .rcases è.mp hp with z|z;.exact h p z
  .rw[ĸ.mp z];show`i
theorem Pg(hN:N<=10)(hY:Y<=20)(h:ω N Y r):St.UK (bY r):=by obtain⟨_,a,b,c,d,e,f⟩:=h;show⟨(fl r 0).toNat,(fl r 1).toNat,(fl r 2).toNat,À,À,À,?_⟩;unfold bY;rw[show(((fl r 0).toNat:Nat):Int)=fl r 0 by lia,show(((fl r 1).toNat:Nat):Int)=fl r 1 by lia,show(((fl r 2).toNat:Nat):Int)=fl r 2 by lia]
def Ph(k:List Key):Nat:=match k with|[.inl a,.inl b,.inl c]=>80*a.toNat+8*b.toNat+c.toNat|_=>0
theorem Α(a:m<10)(b:h<8)(c:m'<10)(d:h'<8)(e:80*y+8*m+h=80*y'+8*m'+h'):y=y'/\m=m'/\h=h':=by have e1:10*y+m=10*y'+m':=À;have e2:y=y':=À;lia
theorem Bt(l:y<n)(a:m<10)(b:h<8):80*y+8*m+h<80*n:=À
theorem Hq{L:List (List Key)}(nd:L.Nodup)(hu:∀k∈L,St.UK k):L.length<=1600:=by
 have nd2:(L.map Ph).Nodup:=by rw[List.Nodup,ň];show nd.imp_of_mem λ{a b}ha hb n e=>n ?_;obtain⟨y,m,h,hy,hm,hh,rfl⟩:=hu a ha;obtain⟨y',m',h',me,lS,D4,rfl⟩:=hu b hb;obtain⟨rfl,rfl,rfl⟩:=Α hm hh lS D4 e;rfl
 have:=St.nodup_le (s:=List.range 1600) nd2 λx hx=>by obtain⟨k,hk,rfl⟩:=Ù.mp hx;obtain⟨y,m,h,hy,hm,hh,rfl⟩:=hu k hk;show ı.mpr (Bt (n:=20) hy hm hh)
 rwa[Ï,Zay]at this
theorem Do{Fin:Hp->Prop}(n:Nat)(Pv:Nat->L2.St->Hp->Prop)(h0:Pv 0 cy H0)(step:∀i σ H,i<n->Pv i σ H->J.go i H/\∀x H',J.yld i H x H'->∀R,(∀ay H4,Pv (i+1) ay H4->R ay H4)->g x σ H' λay H2=>tm ay H2 R)(fin:∀σ H,Pv n σ H->J.stop n H/\Fin H):Am J g qZ tm Fin cy H0:=by
 show⟨λi m σ H=>m=n-i/\i<=n/\Pv i σ H,⟨_,O,Ė _,h0⟩,?_⟩;rintro i m σ H⟨rfl,hi,p⟩;by_cases ax:i<n;.obtain⟨go,st⟩:=step i σ H ax p;show .inr ⟨go,λx H' y=>st x H' y _ λay H4 p2=>⟨n-(i+1),À,O,ax,p2⟩⟩
 .have e:i=n:=À;subst e;show .inl (fin σ H p)
inductive Z04(vs:List V)(H:Hp)(Q:VK):Prop|mk:∀l xs rs,(vs=[.ref l])->(H l=some (.lst xs))->(ß H xs rs)->((∀r∈rs,r.length=4))->(rs.length<=100000)->(∀d H',Â H H'->H d=none->H' d=some (.dT (eG rs))->Q (.ref d) H')->Z04  vs H Q
def Kr:Sp:=λvs H Q _=>Z04  vs H Q
theorem Qy:Å ["gifts"] ["gifts"] (aG (top 54)):=ċ
theorem My(F:ü K "sacks_by_claim" "sacks_by_claim" (top 54) f fd):Ú P w K mg base ù 1 f fd ["gifts"] Kr:=by
 show F.oq Qy `b;obtain⟨l,xs,rs,rfl,el,bg,h4,hz,q⟩:=h;show⟨_,aC (aV (Fl (g:=jE K 4 (bL (bu 0) (bL (bu 1) (bL (bu 2) (bL (bu 3) jU))))) ["due","number","holder","sacks"] [none,none,none,none] O (bO (pv 0)) (λC fp Á s₂ Í=>⟨du O O (ao (Ó 0 nd4) (ao (Ó 1 nd4) (ao (Ó 2 nd4) (ao (Ó 3 nd4) aR)))),bD,λD=>Og (tk:=_) (tv:=_) hr.units0 (bh (aq (pv 0) (aq (pv 1) (aq (pv 2) aj)))) (pv 3)⟩) (λC=>trivial) ⟨O,O,O,O⟩)),?_⟩;show⟨_,O,l,O,⟨_,Ë.of el⟩,λD hD=>Do rs.length (λi σ Hc=>Â H Hc/\(∃o1 o2 o3 o4,σ=[o1,o2,o3,o4])/\Hc D=some (.dT (eG (rs.take i)))) ⟨Â.upd hD,⟨_,_,_,_,O⟩,aa⟩ ?_ ?_⟩
 .rintro i σ Hc hi⟨s1,⟨o1,o2,o3,o4,rfl⟩,ed⟩;obtain⟨t,ex,et⟩:=bg.2 i rs[i] (Ô hi);rw[bW (h4 _ (ĕ hi))]at et;show⟨⟨_,_,Ë.of (s1 _ _ el),ex⟩,λv H' y R hR=>?_⟩;obtain⟨rfl,y⟩:=y;have hv:=y _ (Ë.of (s1 _ _ el));rw[ex]at hv;cases hv;show⟨t,_,O,Ñ.of (s1 _ _ et),O,_,_,O,_,_,O,_,_,O,_,_,O,O,?_⟩;show⟨_,O,_,O,_,O,by show 3<=sizeLine;decide,λb hb=>⟨_,O,eG (rs.take i),bY rs[i],b,?_,O,aa,?_,hR _ _ ?_⟩⟩;.rw[au λz=>by rw[z,hb]at ed;cases ed];show ed
  .have:=Hn (rs.take i);rw[ė]at this;rw[sizeLine_eq];lia
  .refine⟨λc o e=>?_,⟨_,_,_,_,O⟩,?_⟩;.rw[au (az e hD),au λz=>by rw[<-z,s1 _ _ e]at hb;cases hb];show s1 _ _ e
   .rw[aa,ġ,Ô hi];show _=some (HO.dT (eG (rs.take i++[rs[i]])));rw[dX]
 .rintro σ Hc⟨s1,_,ed⟩;rw[Ņ]at ed;show⟨⟨_,Ë.of (s1 _ _ el),by rw[bg.1];show Ø _⟩,q D Hc s1 hD ed⟩
theorem mY(Ä:List (List Key×V))(k:List Key)(v:V)(h:(Ä.map (·.1)).Nodup):((â Ä k v).map (·.1)).Nodup:=by
 unfold â;split
 .rw[Ě];rw[List.Nodup,ň]at h⊢;show h.imp λ{a b}n=>?_;show(if a.1=k then _ else a).1≠(if b.1=k then _ else b).1;have e:∀p:List Key×V,(if p.1=k then(p.1,v)else p).1=p.1:=λp=>by split<;>rfl
  rw[e,e];show n
 .rename_i hn;rw[é,Za9];show⟨h,by simp,λa ha b hb z=>hn ?_⟩;rw[z,ĸ.mp hb]at ha;obtain⟨p,hp,e⟩:=Ù.mp ha;show Zb8.mpr ⟨p,hp,ç e⟩
theorem vz:∀rs,((eG rs).map (·.1)).Nodup:=õ ϳ λl a h=>by rw[dX];show mY _ _ _ h
def rkK(k:List Key):VV:=k.map λx=>match x with|.inl i=>i|.inr _=>0
theorem mZ(r:VV):rkK (bY r)=[fl r 0,fl r 1,fl r 2]:=rfl
def ĭ(rs:UV)(k:List Key):Int:=match cF (eG rs) k with|some (.int i)=>i|_=>0
theorem ue{k:List Key}(h:cF Ä k=some v):∃p∈Ä,p.2=v:=by unfold cF at h;obtain⟨p,hp,e⟩:=Za5.mp h;show⟨p,List.mem_of_find?_eq_some hp,e⟩
theorem yW(rs:UV)(k:List Key):(cF (eG rs) k).getD (.int 0)=.int (ĭ rs k):=by unfold ĭ;cases e:cF (eG rs) k with|none=>rfl;|some v=>obtain⟨p,hp,e2⟩:=ue e;obtain⟨i,e3⟩:=Ho rs p hp;rw[<-e2,e3];rfl
theorem qN{k x:List Key}(h:x=k\/x∈Ä.map (·.1)):x∈(â Ä k v).map (·.1):=by
 unfold â;split
 .rename_i hk;rw[Ě];rcases h with rfl|h;.obtain⟨p,hp,e⟩:=Zb8.mp hk;show Ù.mpr ⟨p,hp,?_⟩;show(if p.1=x then _ else p).1=x;rw[Ê (ŕ e)];show ŕ e
  .obtain⟨p,hp,e⟩:=Ù.mp h;show Ù.mpr ⟨p,hp,?_⟩;show(if p.1=k then _ else p).1=x;split<;>show e
 .rw[é,è];rcases h with rfl|h;.exact .inr (.head _)
  .exact .inl h
theorem xP:∀rs,∀r∈rs,bY r∈(eG rs).map (·.1):=õ (λr hr=>by cases hr) λl a h r hr=>by
 rw[dX];rcases è.mp hr with z|z;.exact qN (.inr (h r z))
 .exact qN (.inl (by rw[ĸ.mp z]))
def Up(C:UV):Prop:=C.Pairwise λa b=>HT.lexLt a b=true
theorem Ks{α:Type}{row:α->VV}{l:List α}(pw:l.Pairwise λa b=>HT.lexLt (row b) (row a)=false)(nd:(l.map row).Nodup):Up (l.map row):=by unfold Up;rw[List.Nodup,ň]at nd;rw[ň];refine(pw.and nd).imp λ{a b}h=>?_;cases e:HT.lexLt (row a) (row b)with|true=>rfl;|false=>show absurd (lE _ _ e h.1) h.2
def dF(q:VV):VV:=[fl q 0,fl q 1,fl q 2]
def Mz(A B C:UV):Prop:=Up C/\∀k,k∈C↔∃q,(q∈A\/q∈B)/\k=dF q
def ϋ(A:UV)(k:VV):Int:=ĭ A (k.map Sum.inl)
def Ϧ(y:Int)(A B C:UV):UV:=(C.filter λk=>!decide (ϋ A k=ϋ B k)).map λk=>[y,fl k 0,fl k 1,fl k 2,ϋ A k,ϋ B k]
theorem Hr:Ϧ y A B (C++[dF q])=Ϧ y A B C++(if ĭ A (bY q)=ĭ B (bY q)then[]else[[y,fl q 0,fl q 1,fl q 2,ĭ A (bY q),ĭ B (bY q)]]):=by
 unfold Ϧ;rw[Ŵ,é];congr 1;by_cases e:ĭ A (bY q)=ĭ B (bY q);.rw[Ê e,δ (by rw[ç (show ϋ A (dF q)=ϋ B (dF q)from e)];decide)];rfl
 .rw[Ç e,μ (by rw[č (show¬ϋ A (dF q)=ϋ B (dF q)from e)];rfl)];rfl
theorem oJ(y:Int)(A B C:UV):(Ϧ y A B C).length<=C.length:=by unfold Ϧ;rw[Ï];show Ϗ _ _
inductive Z0n(vs:List V)(H:Hp)(Q:VK):Prop|mk:∀y l1 x1 A l2 x2 B,(vs=[.int y,.ref l1,.ref l2])->(H l1=some (.lst x1))->(ß H x1 A)->((∀r∈A,ω 10 20 r))->(A.length<=100000)->(H l2=some (.lst x2))->(ß H x2 B)->((∀r∈B,ω 10 20 r))->(B.length<=100000)->(∀l xs C H',Â H H'->H l=none->H' l=some (.lst xs)->C.length<=3200->Mz A B C->ß H' xs (Ϧ y A B C)->Q (.ref l) H')->Z0n  vs H Q
def Pj:Sp:=λvs H Q _=>Z0n  vs H Q
theorem Γ:bootBuiltins "set"=some (.type "set"):=`j
theorem Ϣ:Å ["year","before","after","old","new","moves","claim","sacks"] ["year","before","after"] (aG (top 55)):=ċ
theorem Pk(F:ü K "moves_in" "moves_in" (top 55) f fd)(V6:mg "sorted"=none)(Ss:mg "set"=none)(c1:í P w K mg base 1 "sacks_by_claim" ["gifts"] Kr):Ú P w K mg base ù 2 f fd ["year","before","after"] Pj:=by
 show F.oq Ϣ `b;obtain⟨y,l1,x1,A1,l2,x2,B1,rfl,e1,ĝ,Nn,V7,e2,Č,Nw,V8,q⟩:=h;show⟨_,aB (Ĝ 3 Ϣ.nd (aJ c1 hr (aq (pv 1) aj))) (aB (Ĝ 4 Ϣ.nd (aJ c1 hr (aq (pv 2) aj))) (aB (Ĝ 5 Ϣ.nd (dC aj)) (aB (bR Ń O (bO (aM (rM O) O V6 Ā (aO (aU (M9 (U:=St.UK) (dG hr) St.uk_inj) (bK (tQ (U:=St.UK) St.uk_inj) O Ss Γ (aq (pv 3) aj)) (bK (tQ (U:=St.UK) St.uk_inj) O Ss Γ (aq (pv 4) aj))) aj))) (Ó 6 Ϣ.nd) (aB (Ĝ 7 Ϣ.nd (bh (aO (kJ (dG hr) (pv 3) (pv 6) aA (by constructor<;>rfl)) (aO (kJ (dG hr) (pv 4) (pv 6) aA (by constructor<;>rfl)) aj)))) (aC (cM (bj zH (pX bT (pv 7) aA) (pX bT (pv 7) aA) (bx _)) (aC (dJ (jB zBe zBg zBf di (pv 5) (aq (aU ou (aU ou (bh (aq (pv 0) aj)) (pv 6)) (pv 7)) aj)))) bz)))) (aC (aV (pv 5)))))),?_⟩;show`e;apply aQ;show⟨_,O,l1,x1,A1,O,e1,ĝ,λr hr=>(Nn r hr).1,V7,λd1 H1 s1 n1 BH=>?_⟩;apply aD;apply ab
 show`e;apply aQ;show⟨_,O,l2,x2,B1,O,s1 _ _ e2,Č.same s1,λr hr=>(Nw r hr).1,V8,λd2 H2 s2 n2 BI=>?_⟩;apply aD;apply ab
 show`e;apply aQ;show⟨zL,λlm kC=>?_⟩;apply aD;apply ab
 have k3:Â H (upd H2 lm (.lst [])):=(s1.trans s2).trans (Â.upd kC);have Au:=Â.upd (o:=.lst []) kC _ _ (s2 _ _ BH);have AB:=Â.upd (o:=.lst []) kC _ _ BI;have jv:=aa (H:=H2) (a:=lm) (o:=.lst []);have EO:H lm=none:=(s1.trans s2).free kC;generalize upd H2 lm (.lst [])=H3 at k3 Au AB jv⊢;clear s1 s2 BH BI kC;have uk:∀{R:UV},(∀r∈R,ω 10 20 r)->∀p∈eG R,St.UK p.1/\∃r:VV,p.1=r.map Sum.inl/\r≠[]:=λ{R}ok p hp=>by obtain⟨r,hr,e⟩:=xO R p hp;rw[e];show⟨Pg (Ø _) (Ϯ _) (ok r hr),[fl r 0,fl r 1,fl r 2],O,by simp⟩
 have len:∀{R:UV},(∀r∈R,ω 10 20 r)->(eG R).length<=1600:=λ{R}ok=>by
  have:=Hq (vz R) λk hk=>by obtain⟨p,hp,rfl⟩:=Ù.mp hk;show(uk ok p hp).1
  rwa[Ï]at this
 show`e;have z1:=len Nn;have z2:=len Nw;have rws:∀{Ha Hb:Hp}{L:List (List Key×Addr)},Â Ha Hb->Rws St.UK Ha L->Rws St.UK Hb L:=λs r x hx=>by obtain⟨a,b,c⟩:=r x hx;show⟨a,b,s _ _ c⟩
 have ul:∀(L M:List (List Key×Addr)),(mQ L M).length<=L.length+M.length:=λL M=>by unfold mQ;rw[à];show Nat.add_le_add_left (Ϗ _ _) _
 have ll:∀{L:List (List Key×Addr)}{R:UV},L.map (·.1)=(eG R).map (·.1)->L.length=(eG R).length:=λh=>by have:=congrArg List.length h;rwa[Ï,Ï]at this
 show⟨_,O,d1,eG A1,O,Au,uk Nn,À,λN1 L1 o1 m1 i1 k1 r1=>⟨_,O,d2,eG B1,O,Â.upd m1 _ _ AB,uk Nw,À,λN2 wa o2 m2 i2 k2 r2=>?_⟩⟩;have s4:=Â.upd (o:=o1) m1;have s5:=Â.upd (o:=o2) m2;have a1:=ll k1;have a2:=ll k2;have V9:=ul L1 wa;show⟨N1,N2,L1,wa,o1,o2,O,O,λz=>?_,s5 _ _ aa,i1,aa,i2,rws (s4.trans s5) r1,rws s5 r2,À,λN3 o3 m3 i3=>?_⟩;.rw[<-z,aa]at m2;cases m2
 have s6:=Â.upd (o:=o3) m3;have rU:∀x∈mQ L1 wa,∃q,(q∈A1\/q∈B1)/\x.1=bY q/\upd (upd (upd H3 N1 o1) N2 o2) N3 o3 x.2=some (.tup (x.1.map kV)):=λx hx=>by
  have mem:∀{L:List (List Key×Addr)}{R:UV},L.map (·.1)=(eG R).map (·.1)->x∈L->∃q∈R,x.1=bY q:=λ{L R}h hx=>by
   have hm:x.1∈(eG R).map (·.1):=by rw[<-h];show Ù.mpr ⟨x,hx,O⟩
   obtain⟨p,hp,e⟩:=Ù.mp hm;obtain⟨q,hq,e2⟩:=xO R p hp;show⟨q,hq,e.symm.trans e2⟩
  rcases è.mp hx with z|z;.obtain⟨q,hq,e⟩:=mem k1 z;show⟨q,.inl hq,e,s6 _ _ (s5 _ _ (s4 _ _ (r1 x z).2.2))⟩
  .have z:=(ķ.mp z).1;obtain⟨q,hq,e⟩:=mem k2 z;show⟨q,.inr hq,e,s6 _ _ (s5 _ _ (r2 x z).2.2)⟩
 show⟨N3,mQ L1 wa,o3,rkK,O,aa,i3,by rw[sizeLine_eq];lia,λx hx=>?_,λlq l' row nq pm pw fT=>?_⟩
 .obtain⟨q,hq,e,et⟩:=rU x hx;show⟨?_,?_,et⟩<;>rw[e];.rfl
  .rw[mZ];simp
 have nU:((mQ L1 wa).map λx=>rkK x.1).Nodup:=by
  have n1:((mQ L1 wa).map (·.1)).Nodup:=by unfold mQ;rw[é,Za9];show⟨by rw[k1];show vz _,(List.filter_sublist.map _).nodup (by rw[k2];show vz _),λa ha b hb e=>?_⟩;obtain⟨x,hx,e2⟩:=Ù.mp hb;exact@of_decide_eq_true _ (_) (ķ.mp hx).2 (by rw[e2,<-e];show ha)
  rw[List.Nodup,ň]at n1⊢;show List.Pairwise.imp_of_mem (λ{a b}ha hb n e=>n ?_) n1;obtain⟨p,_,ep,_⟩:=rU a ha;obtain⟨r,_,er,_⟩:=rU b hb;rw[ep,er]at e⊢;rw[mZ,mZ]at e;show([fl p 0,fl p 1,fl p 2]:VV).map Sum.inl=([fl r 0,fl r 1,fl r 2]:VV).map Sum.inl;rw[e]
 have Wa:Mz A1 B1 (l'.map row):=by
  show⟨Ks pw (pm.nodup_iff.mpr nU),λk=>?_⟩;rw[pm.mem_iff,Ù];constructor;.rintro⟨x,hx,rfl⟩;obtain⟨q,hq,e,_⟩:=rU x hx;show⟨q,hq,by rw[e,mZ];rfl⟩
  .rintro⟨q,hq,rfl⟩;have hk:bY q∈(mQ L1 wa).map (·.1):=by
    unfold mQ;rw[é,è];by_cases z:bY q∈L1.map (·.1);.exact .inl z
    .rcases hq with hq|hq;.exact absurd (by rw[k1];show xP _ q hq) z
     .have:bY q∈wa.map (·.1):=by rw[k2];show xP _ q hq
      obtain⟨x,hx,e⟩:=Ù.mp this;show .inr (Ù.mpr ⟨x,ķ.mpr ⟨hx,@decide_eq_true _ (_) (by rw[e];show z)⟩,e⟩)
   obtain⟨x,hx,e⟩:=Ù.mp hk;show⟨x,hx,by rw[e,mZ];rfl⟩
 have NA:∀a∈l',∃q,(q∈A1\/q∈B1)/\row a=[fl q 0,fl q 1,fl q 2]:=λa ha=>by obtain⟨x,hx,e⟩:=Ù.mp (pm.mem_iff.mp (Ù.mpr ⟨a,ha,O⟩));obtain⟨q,hq,e2,_⟩:=rU x hx;show⟨q,hq,by rw[<-e,e2,mZ]⟩
 have lN:l'.length<=3200:=by have:=pm.length_eq;rw[Ï,Ï]at this;lia
 have s7:=Â.upd (o:=.lst (l'.map V.ref)) nq;have k7:=(k3.trans (s4.trans s5)).trans (s6.trans s7);have f3:∀{b o},H3 b=some o->upd (upd (upd (upd H3 N1 o1) N2 o2) N3 o3) lq (.lst (l'.map V.ref)) b=some o:=λe=>s7 _ _ (s6 _ _ (s5 _ _ (s4 _ _ e)));have BH:=f3 Au;have BI:=f3 AB;have em:=f3 jv;have Wb:lq≠lm:=λz=>by have:=s6 _ _ (s5 _ _ (s4 _ _ jv));rw[<-z,nq]at this;cases this
 have et:∀a∈l',upd (upd (upd (upd H3 N1 o1) N2 o2) N3 o3) lq (.lst (l'.map V.ref)) a=some (.tup ((row a).map V.int)):=λa ha=>s7 _ _ (fT a ha);have eq:=aa (H:=upd (upd (upd H3 N1 o1) N2 o2) N3 o3) (a:=lq) (o:=.lst (l'.map V.ref));show⟨lq,O,⟨_,Ë.of eq⟩,?_⟩;generalize upd (upd (upd (upd H3 N1 o1) N2 o2) N3 o3) lq (.lst (l'.map V.ref))=H7 at k7 BH BI em et eq⊢;clear s4 s5 s6 s7 f3 rU nq fT pm r1 r2 m1 m2 m3 a1 a2 V9;show gb (xs:=l'.map V.ref) (λi σ Hc=>Xe3 λx6 x7 xs=>Xa4 (σ=[some (.int y),some (.ref l1),some (.ref l2),some (.ref d1),some (.ref d2),some (.ref lm),x6,x7]) ((∀b o,b≠lm->H7 b=some o->Hc b=some o)) (Hc lm=some (.lst xs)) (ß Hc xs (Ϧ y A1 B1 ((l'.map row).take i)))) ?_ ?_ ?_ ?_;.exact⟨none,none,[],O,λ_ _ _ e=>e,em,ß.nil⟩
 .rintro i σ Hc hi⟨x6,x7,xs,rfl,kp,_⟩;show Ë.of (kp _ _ Wb eq)
 .rintro i x σ Hc hx⟨x6,x7,xs,rfl,kp,iE,bg⟩;rw[ì]at hx;obtain⟨a,ha,rfl⟩:=Za5.mp hx;have hi:=(ĉ.mp ha).1;have am:=ń ha;obtain⟨k,hk,er⟩:=NA a am;have bq:Ϧ y A1 B1 ((l'.map row).take (i+1))=_:=(congrArg (Ϧ y A1 B1) (show(l'.map row).take (i+1)=(l'.map row).take i++[dF k]by rw[ġ,ì,ha,<-show row a=dF k from er];rfl)).trans Hr;have eta:=et a am;rw[er]at eta;have nm:∀{b:Addr}{o:HO},H7 b=some o->o≠.lst []->b≠lm:=λ{b o}e n z=>by rw[z,em]at e;show n (ģ e).symm
  have ta:=kp _ _ (nm eta Õ) eta;have t1:=kp _ _ (nm BH Õ) BH;have t2:=kp _ _ (nm BI Õ) BI;show aD (aW ?_);apply aQ;show⟨_,O,d1,O,.inr ⟨_,.inl t1⟩,_,O,_,Ă.t (k:=bY k) t1 ta,?_⟩;rw[yW];show⟨_,O,d2,O,.inr ⟨_,.inl t2⟩,_,O,_,Ă.t (k:=bY k) t2 ta,?_⟩;rw[yW];show⟨by show 2<=sizeLine;decide,λt7 h7=>?_⟩;apply aD;dsimp only;have u7:=Â.upd (o:=.tup [V.int (ĭ A1 (bY k)),V.int (ĭ B1 (bY k))]) h7;have e7:=aa (H:=Hc) (a:=t7) (o:=.tup [V.int (ĭ A1 (bY k)),V.int (ĭ B1 (bY k))]);have Su:=u7 _ _ ta;have wb:=u7 _ _ iE;have vS:=bg.same u7;have NC:∀b o,b≠lm->H7 b=some o->upd Hc t7 (.tup [V.int (ĭ A1 (bY k)),V.int (ĭ B1 (bY k))]) b=some o:=λb o n e=>u7 _ _ (kp b o n e);generalize upd Hc t7 (.tup [V.int (ĭ A1 (bY k)),V.int (ĭ B1 (bY k))])=Hd at e7 Su wb vS NC⊢;show⟨_,O,t7,_,0,.int (ĭ A1 (bY k)),O,O,Ñ.of e7,O,_,O,t7,_,1,.int (ĭ B1 (bY k)),O,O,Ñ.of e7,O,O,_,O,?_⟩;by_cases e:ĭ A1 (bY k)=ĭ B1 (bY k);.rw[show(!decide (V.int (ĭ A1 (bY k))=V.int (ĭ B1 (bY k))))=false by rw[e];simp];show bG ⟨_,_,xs,O,NC,wb,by rw[bq,Ê e,Ĕ];show vS⟩
  .rw[show(!decide (V.int (ĭ A1 (bY k))=V.int (ĭ B1 (bY k))))=true by simp[e]];apply bM;show⟨_,O,.inl ⟨O,_,Ë.of wb⟩,_,O,by show 1<=sizeLine;decide,λp1 ND=>?_⟩;have v1:=Â.upd (o:=.tup [.int y]) ND;show⟨_,O,p1,a,_,_,O,O,Ñ.of aa,Ñ.of (v1 _ _ Su),by simp,by show 4<=sizeLine;decide,λz=>(by cases z),λ_ p2 lT=>?_⟩;have v2:=Â.upd (o:=.tup ([.int y]++[fl k 0,fl k 1,fl k 2].map V.int)) lT;show⟨_,O,p2,t7,_,_,O,O,Ñ.of aa,Ñ.of (v2 _ _ (v1 _ _ e7)),by simp,by show 6<=sizeLine;decide,λz=>(by cases z),λ_ p3 Wc=>?_⟩;have v3:=Â.upd (o:=.tup (([.int y]++[fl k 0,fl k 1,fl k 2].map V.int)++[V.int (ĭ A1 (bY k)),V.int (ĭ B1 (bY k))])) Wc;have v:=(v1.trans v2).trans v3;have e9:=aa (H:=upd (upd Hd p1 (.tup [.int y])) p2 (.tup ([.int y]++[fl k 0,fl k 1,fl k 2].map V.int))) (a:=p3) (o:=.tup (([.int y]++[fl k 0,fl k 1,fl k 2].map V.int)++[V.int (ĭ A1 (bY k)),V.int (ĭ B1 (bY k))]));show⟨lm,xs,.ref p3,O,O,v _ _ wb,?_,?_⟩;.rw[bg.1,sizeLine_eq];have:=ř (oJ y A1 B1 _) (List.length_take_le i (l'.map row));lia
   generalize upd (upd (upd Hd p1 (.tup [.int y])) p2 (.tup ([.int y]++[fl k 0,fl k 1,fl k 2].map V.int))) p3 (.tup (([.int y]++[fl k 0,fl k 1,fl k 2].map V.int)++[V.int (ĭ A1 (bY k)),V.int (ĭ B1 (bY k))]))=He at v e9⊢;have tp:∀{o:HO}b z,He b=some (.tup z)->upd He lm o b=some (.tup z):=λb z e=>by rw[au λw=>by rw[w,v _ _ wb]at e;cases e];show e
   show⟨_,_,xs++[.ref p3],O,λb o n e=>?_,aa,?_⟩;.rw[au n];show v _ _ (NC b o n e)
   .rw[bq,Ç e];show((vS.same v).app (ß.one e9)).keep tp
 .rintro σ Hc⟨x6,x7,xs,rfl,kp,iE,bg⟩;rw[θ (by rw[Ï,Ï];show Ø _)]at bg;apply ab;show⟨_,O,q lm xs (l'.map row) Hc (λb o e=>kp b o (az e EO) (k7 _ _ e)) EO iE (by rw[Ï];show lN) Wa bg⟩
abbrev ky(n y:Int):List Key:=[.inl n,.inl y]
theorem vA(h:ky n y=ky n' y'):n=n'/\y=y':=by injection h with h1 h2;injection h2 with h2 _;injection h1 with h1;injection h2 with h2;show⟨h1,h2⟩
def ų(ps:UV)(n y:Int):Prop:=0<=n/\n<ps.length/\fl (ps.getD n.toNat []) 2<=y/\y<=fl (ps.getD n.toNat []) 3
def hl(ps ss:UV)(n y:Int):VV:=bV (ps.getD n.toNat []) ss n y
structure Ķ(fo:Addr)(H0 H:Hp)(dm:Int->Int->Prop)(f:Int->Int->VV)(Ä:List (List Key×V)):Prop where
 sm:Â H0 H
 nf:H0 fo=none
 e:H fo=some (.dT Ä)g:∀n y,dm n y->∃d,cF Ä (ky n y)=some (.ref d)/\H d=some (.lst ((f n y).map V.int))no:∀n y,¬dm n y->cF Ä (ky n y)=none
 i:∀n y n' y' d,cF Ä (ky n y)=some (.ref d)->cF Ä (ky n' y')=some (.ref d)->n=n'/\y=y'
 fr:∀n y d,cF Ä (ky n y)=some (.ref d)->H0 d=none/\d≠fo
 kd:(Ä.map (·.1)).Nodup
 kk:∀k∈Ä.map (·.1),∃n y,k=ky n y/\dm n y
theorem JS{k:List Key}(h:cF Ä k=none):¬k∈Ä.map (·.1):=λhk=>by
 obtain⟨p,hp,e⟩:=Ù.mp hk;have:(cF Ä k).isSome=true:=by rw[<-fB,Zb8];show⟨p,hp,ç e⟩
 rw[h]at this;cases this
theorem Hs{k:List Key}(hn:(Ä.map (·.1)).Nodup)(h:cF Ä k=none):((â Ä k v).map (·.1)).Nodup:=by rw[kI _ h,é,Za9];show⟨hn,Õ,λa ha b hb z=>?_⟩;rw[ĸ.mp hb]at z;have z':a=k:=z;rw[z']at ha;show JS h ha
section
theorem Ķ.same(g:Ķ fo H0 H dm f Ä)(s:Â H H'):Ķ fo H0 H' dm f Ä:=⟨g.sm.trans s,g.nf,s _ _ g.e,λn y h=>by obtain⟨d,e1,e2⟩:=g.g n y h;show⟨d,e1,s _ _ e2⟩,g.no,g.i,g.fr,g.kd,g.kk⟩
theorem Ķ.wr(g:Ķ fo H0 H dm f Ä)(hv:cF Ä (ky N Y)=some (.ref d))(h1:f' N Y=L)(h2:∀n y,dm n y->¬(n=N/\y=Y)->f' n y=f n y):Ķ fo H0 (upd H d (.lst (L.map V.int))) dm f' Ä:=by
 obtain⟨w1,w2⟩:=g.fr _ _ _ hv;show⟨λc o e=>by rw[au (az e w1)];show g.sm _ _ e,g.nf,by rw[au w2.symm];show g.e,λn y hd=>?_,g.no,g.i,g.fr,g.kd,g.kk⟩;by_cases hk:n=N/\y=Y;.obtain⟨rfl,rfl⟩:=hk;show⟨d,hv,by rw[aa,h1]⟩
 .obtain⟨d',q1,q2⟩:=g.g n y hd;have nd:d'≠d:=λz=>hk (g.i _ _ _ _ _ (z▸q1) hv);show⟨d',q1,by rw[au nd,h2 n y hd hk];show q2⟩
theorem Ķ.cast(g:Ķ fo H0 H dm f Ä)(h:∀n y,dm n y->f' n y=f n y):Ķ fo H0 H dm f' Ä:=⟨g.sm,g.nf,g.e,λn y hd=>by obtain⟨d,e1,e2⟩:=g.g n y hd;show⟨d,e1,by rw[h n y hd];show e2⟩,g.no,g.i,g.fr,g.kd,g.kk⟩
theorem Ķ.put(g:Ķ fo H0 H dm f Ä)(sH:Â H H')(ER:H d=none)(ed:H' d=some (.lst (L.map V.int)))(hL:f N Y=L)(hn:¬dm N Y)(ES:∀n y,Sv n y↔(dm n y\/(n=N/\y=Y))):Ķ fo H0 (upd H' fo (.dT (â Ä (ky N Y) (.ref d)))) Sv f (â Ä (ky N Y) (.ref d)):=by
 have Sw:d≠fo:=λz=>by rw[z,g.e]at ER;cases ER
 have kp:∀b o,b≠fo->H b=some o->upd H' fo (.dT (â Ä (ky N Y) (.ref d))) b=some o:=λb o n e=>by rw[au n];show sH _ _ e
 have nn:=g.no N Y hn;show⟨λb o e=>kp b o (az e g.nf) (g.sm _ _ e),g.nf,aa,λn y z=>?_,λn y z=>?_,λn y n' y' d' z z'=>?_,λn y d' z=>?_,Hs g.kd nn,λk hk=>?_⟩
 .by_cases hk:ky n y=ky N Y;.obtain⟨rfl,rfl⟩:=vA hk;show⟨d,by rw[gj,Ê O],by rw[au Sw,hL];show ed⟩
  .have hd:=((ES n y).mp z).resolve_right λw=>hk (by rw[w.1,w.2]);obtain⟨d',q1,q2⟩:=g.g n y hd;show⟨d',by rw[gj,Ç hk];show q1,kp _ _ (g.fr n y d' q1).2 q2⟩
 .have hk:¬ky n y=ky N Y:=λw=>z ((ES n y).mpr (.inr (vA w)));rw[gj,Ç hk];show g.no n y λw=>z ((ES n y).mpr (.inl w))
 .have key:∀{n y},cF Ä (ky n y)=some (.ref d)->False:=λ{n y}w=>by
   by_cases hd:dm n y;.obtain⟨d'',q1,q2⟩:=g.g n y hd;rw[w]at q1;cases q1;rw[q2]at ER;cases ER
   .rw[g.no n y hd]at w;cases w
  rw[gj]at z z';by_cases h1:ky n y=ky N Y<;>by_cases h2:ky n' y'=ky N Y;.obtain⟨rfl,rfl⟩:=vA h1;obtain⟨rfl,rfl⟩:=vA h2;show⟨O,O⟩
  .rw[Ê h1]at z;rw[Ç h2]at z';cases z;show(key z').elim
  .rw[Ç h1]at z;rw[Ê h2]at z';cases z';show(key z).elim
  .rw[Ç h1]at z;rw[Ç h2]at z';show g.i _ _ _ _ _ z z'
 .rw[gj]at z;by_cases h1:ky n y=ky N Y;.rw[Ê h1]at z;cases z;show⟨g.sm.free ER,Sw⟩
  .rw[Ç h1]at z;show g.fr n y d' z
 .rw[kI _ nn,é]at hk;rcases è.mp hk with z|z;.obtain⟨n,y,a,b⟩:=g.kk k z;show⟨n,y,a,(ES n y).mpr (.inl b)⟩
  .rw[ĸ.mp z];show⟨N,Y,O,(ES N Y).mpr (.inr ⟨O,O⟩)⟩
end
inductive ϓ(vs:List V)(H:Hp)(Q:VK):Prop|mk:∀ap xp ps ah xs ss,(vs=[.ref ap,.ref ah])->(RowsAt H ap xp ps)->(ps.length<=10)->((∀r∈ps,okP r))->(RowsAt H ah xs ss)->(ss.length<=100)->((∀s∈ss,s.length=5))->(∀t fo H',Â H H'->H' t=some (.tup [.ref fo,unV (un ps ss)])->(un ps ss=none->∃Ä,Ķ fo H H' (ų ps) (hl ps ss) Ä)->Q (.ref t) H')->ϓ  vs H Q
def spRows:Sp:=λvs H Q _=>ϓ  vs H Q
def Ht(p:VV):VV:=(List.range 8).map λi=>fl p 4*(if((i:Nat):Int)=fl p 0 then 1 else 0)
theorem JT(op:okP (ps.getD n.toNat []))(hy:fl (ps.getD n.toNat []) 2<=y/\y<=fl (ps.getD n.toNat []) 3):hl ps [] n y=Ht (ps.getD n.toNat []):=by unfold hl bV;rw[Ê hy];show Ĩ (ps.getD n.toNat [])=Ht _;generalize ps.getD n.toNat []=p at op;obtain⟨_,⟨a,b⟩,_⟩:=op;unfold Ĩ Ht;obtain⟨h,eh⟩:∃h:Nat,fl p 0=h:=⟨(fl p 0).toNat,À⟩;rw[eh,Ž];have hb:h<8:=À;generalize fl p 4=k;have:h=0\/h=1\/h=2\/h=3\/h=4\/h=5\/h=6\/h=7:=À;rcases this with rfl|rfl|rfl|rfl|rfl|rfl|rfl|rfl<;>simp[List.range_succ,List.replicate]
theorem Hu(ps ss:UV)(n y:Int):(hl ps ss n y).length=8:=eZ _ _ _ _
theorem JV(hd:ų ps n y):hl ps (ss++[s]) n y=ñ n y (hl ps ss n y) s:=by unfold hl bV;rw[Ê hd.2.2,Ê hd.2.2,Zbj];rfl
theorem Ϩ(ea:fl s 0=n)(eb:fl s 1=a)(ec:fl s 2=b)(ed:fl s 3=k)(ee:fl s 4=y):cG ps sa s=true↔(ų ps n y/\(0<=a/\a<8)/\(0<=b/\b<8)/\a≠b/\(1<=k/\k<=99))/\∀z,ų ps n z->y<=z->k<=(hl ps sa n z).getD a.toNat 0:=by
 have em:∀{u v z:Int},z∈years u v↔u<=z/\z<=v:=λ{u v z}=>by
  unfold years;rw[Ù];constructor;.rintro⟨i,hi,rfl⟩;have:=ı.mp hi;lia
  .rintro⟨h1,h2⟩;show⟨(z-u).toNat,ı.mpr À,À⟩
 unfold cG rP nW;rw[ea,eb,ec,ed,ee];simp only[Bool.and_eq_true,Ĥ,Bool.not_eq_true',decide_eq_false_iff_not,List.all_eq_true];unfold ų;constructor;.rintro⟨⟨h1,h2,h3,h4,h5,h6⟩,h7⟩;show⟨⟨⟨h1.1,h1.2,h6.1,h6.2⟩,h2,h3,h4,h5⟩,λz hz hy=>h7 z (em.mpr ⟨hy,hz.2.2.2⟩)⟩
 .rintro⟨⟨h1,h2,h3,h4,h5⟩,h7⟩;show⟨⟨⟨h1.1,h1.2.1⟩,h2,h3,h4,h5,h1.2.2⟩,λz hz=>by obtain⟨q1,q2⟩:=em.mp hz;show h7 z ⟨h1.1,h1.2.1,À,q2⟩ q1⟩
def yk(n y:Int)(p:List Key×V):Option Int:=match p.1 with|[.inl n',.inl z]=>if n'=n/\y<=z then some z else none|_=>none
theorem uf:bootBuiltins "min"=some (.builtin "min"):=`j
theorem Dp:bootBuiltins "max"=some (.builtin "max"):=`j
theorem Qz:([Ū,υ,AAo]:Đ).Nodup:=`j
theorem Pn:(["_law_number_of",Ū,AAk,ū]:Đ).Nodup:=`j
theorem QB:([Ū,AAj,AAk,"_law_seller"]:Đ).Nodup:=`j
theorem Ű:Å [ł,Ω,AAj,AAk,AAo,Ϲ,"_law_first","_law_last",υ,"_law_price",ū,"_law_at","_law_seller","_law_buyer",AAg,"_law_least",Ū] [ł,Ω] (aG (top 63)):=ċ
theorem wT{a b:Int}(h:(if b<a then b else a)<0)(p:0<=a)(q:0<=b):False:=by split at h<;>lia
theorem xL{a b:Int}(h:(if b>a then b else a)>7)(p:a<8)(q:b<8):False:=by split at h<;>lia
theorem x0{a b:Int}(h:¬(if b<a then b else a)<0)(g:¬(if b>a then b else a)>7):(0<=a/\a<8)/\0<=b/\b<8:=by split at h<;>split at g<;>lia
theorem JW(F:ü K "_law_rows" "_law_rows" (top 63) f fd)(T:Mg mg)(Te:mg "enumerate"=none)(Tr:mg "range"=none)(Tn:mg "min"=none)(Tm:mg "max"=none):Ú P w K mg base ù 1 f fd [ł,Ω] spRows:=by
 show F.oq Ű `b;obtain⟨ap,xp,ps,ah,xs,ss,rfl,rp,lp,okp,rs,ls,h5,q⟩:=h;show K60P.ok_b (aH (yu (i:=2) Ű.nd O (Or.inr O) ⟨pJ⟩) (aH ⟨bR Ń O (ZT.pi_enum true O Te (aq (pv 0) aj)) (bF O (ao (bw (i:=3) Ű.nd O (Or.inr O)) (ao (bF O (ao (bw (i:=4) Ű.nd O (Or.inr O)) (ao (Ó 5 Ű.nd) (ao (Ó 6 Ű.nd) (ao (Ó 7 Ű.nd) (ao (bw (i:=8) Ű.nd O (Or.inr O)) (ao (Ó 9 Ű.nd) aR))))))) aR))) (gW (bQ ⟨bR Ń O (rZ O Tr (aq (pv 6) (aq (aU cA (pv 7) aA) aj))) (bw (i:=10) Ű.nd O (Or.inr O)) (gW (bQ ⟨uH (dG hr) (pv 2) (bh (aq (pv 3) (aq (pv 10) aj))) (bI [Ū,υ,AAo] [none,some 8,some 4] O (cH O Tr (aq aA aj)) (λC fp Á s₂ Í=>⟨Ó 0 Qz,bD,aU gM (pv 1) (bK Cp O T.int Δ (aq (jX jV (pv 0) (pv 2) (bx _)) aj))⟩) (λC=>cI (cI trivial)) ⟨O,O,O,O⟩) O⟩))⟩))⟩ (aH ⟨bR Ń O (ZT.pi_enum true O Te (aq (pv 1) aj)) (bF O (ao (Ó 11 Ű.nd) (ao (bF O (ao (bw (i:=3) Ű.nd O (Or.inr O)) (ao (bw (i:=12) Ű.nd O (Or.inr O)) (ao (Ó 13 Ű.nd) (ao (bw (i:=8) Ű.nd O (Or.inr O)) (ao (bw (i:=10) Ű.nd O (Or.inr O)) aR)))))) aR))) (gW (aH ⟨cM (PW.pt (vM (bj jV (pv 12) (pv 13) (bx _)) (vM (bj jA (aM (fY O) O Tn uf (aq (pv 12) (aq (pv 13) aj))) aA (bx _)) (vM (bj jW (aM (jl O) O Tm Dp (aq (pv 12) (aq (pv 13) aj))) aA (bx _)) (xY (Eb (CG (dG hr) (bh (aq (pv 3) (aq (pv 10) aj))) (pv 2)))))))) (aC (aV (bh (aq (pv 2) (aq (pv 11) aj))))) bz⟩ (aH ⟨Ml (gG (i:=14) (g:=jE K 2 (bL (bu 0) (bL (bu 1) jU))) ["_law_number_of",Ū,AAk,ū] [none,none,some 3,some 10] O Ű.nd O (Or.inl O) (Ay (pv 2)) (λC fp Á s₂ Í=>⟨du O O (ao (Ó 0 Pn) (ao (Ó 1 Pn) aR)),gF (PW.pt (ur (bj jV (pv 0) (pv 2) (bx _)) (nY (bj zJ (pv 1) (pv 3) (bx _))))),pv 1⟩) (λC=>cI (cI trivial)) ⟨O,O,O,O⟩)⟩ (aH (gY 15 Ű.nd ⟨aM (rJ O) O Tn uf (aO (bI [Ū,AAj,AAk,"_law_seller"] [none,some 2,some 3,some 12] O (bO (pv 14)) (λC fp Á s₂ Í=>⟨Ó 0 QB,bD,pX (lJ (K:=K) O) (fc (dG hr) (pv 1) (bh (aq (pv 2) (aq (pv 0) aj))) (λ_ _=>rfl)) (pv 3)⟩) (λC=>cI (cI (cI trivial))) ⟨O,O,O,O⟩) aj)⟩) (aH ⟨cM (PW.pt (vM (dY (oW cN cN aA (pv 8) aA)) (xY (bj jA (pv 15) (pv 8) (bx _))))) (aC (aV (bh (aq (pv 2) (aq (pv 11) aj))))) bz⟩ (bQ ⟨bR Ń O (bO (pv 14)) (Ó 16 Ű.nd) (gW (aH ⟨cP (aU eQ (pX cD (fc (dG hr) (pv 2) (bh (aq (pv 3) (aq (pv 16) aj))) (λ_ _=>rfl)) (pv 12)) (pv 8)) (iy (fc (dG hr) (pv 2) (bh (aq (pv 3) (aq (pv 16) aj))) (λ_ _=>rfl)) (pv 12) ê)⟩ (bQ ⟨cP (aU cA (pX cD (fc (dG hr) (pv 2) (bh (aq (pv 3) (aq (pv 16) aj))) (λ_ _=>rfl)) (pv 13)) (pv 8)) (iy (fc (dG hr) (pv 2) (bh (aq (pv 3) (aq (pv 16) aj))) (λ_ _=>rfl)) (pv 13) ê)⟩)))⟩))))))⟩ (bQ (mH ⟨bh (aq (pv 2) (aq oV aj))⟩))))) ?_;show`e;apply aQ;show λfo BM=>?_;apply aD;apply ab
 have d0:Ķ fo H (upd H fo (.dT [])) (λ_ _=>False) (hl ps []) []:=⟨Â.upd BM,BM,aa,λ_ _ z=>z.elim,λ_ _ _=>rfl,λ_ _ _ _ _ z=>(by cases z),λ_ _ _ z=>(by cases z),ϳ,λk hk=>(by cases hk)⟩;generalize upd H fo (.dT [])=H1 at d0⊢;show`e;show⟨_,O,ap,xp,O,Ñ.of (d0.sm _ _ rp.e),?_⟩;show ZT.for_enum true (xs:=xp) (λi σ Hc=>Xe15 λx3 x4 x5 x6 x7 x8 x9 cq cb eC eI cK cS fq Ä=>Xa3 (σ=[some (.ref ap),some (.ref ah),some (.ref fo),x3,x4,x5,x6,x7,x8,x9,cq,cb,eC,eI,cK,cS,fq]) (Ķ fo H Hc (λn y=>ų ps n y/\n<i) (hl ps []) Ä) (Ä.length<=20*i)) ?_ ?_ ?_ ?_;.exact⟨none,none,none,none,none,none,none,none,none,none,none,none,none,none,[],O,⟨d0.sm,d0.nf,d0.e,λn y z=>by have:=z.1.1;have:=z.2;lia,λn y _=>rfl,d0.i,d0.fr,d0.kd,λk hk=>(by cases hk)⟩,Ø _⟩
 .rintro i σ Hc hi⟨x3,x4,x5,x6,x7,x8,x9,cq,cb,eC,eI,cK,cS,fq,Ä,rfl,dt,lk⟩;show Ñ.of (dt.sm _ _ rp.e)
 .rintro i x σ Hc T0 hx⟨x3,x4,x5,x6,x7,x8,x9,cq,cb,eC,eI,cK,cS,fq,Ä,rfl,dt,lk⟩nT;have hi:i<ps.length:=by have:=(ĉ.mp hx).1;rw[rp.l]at this;show this
  obtain⟨tr,fk,fe⟩:=rp.g i ps[i] (Ô hi);have:x=.ref tr:=by rw[hx]at fk;show ģ fk
  subst this;have op:=okp ps[i] (ĕ hi);have ep:ps.getD ((i:Int)).toNat []=ps[i]:=by rw[Ž];show æ hi
  have dT:=dt.same (Â.upd (o:=.tup [V.int i,V.ref tr]) nT);generalize hpi:ps[i]=p at fe op ep;have kD:=dT.sm _ _ fe;rw[six_row op.1]at kD;have We:=op;obtain⟨_,⟨a1,a2⟩,_,⟨c1,c2,c3⟩,⟨e1,e2⟩,_⟩:=op;show⟨T0,_,O,Ñ.of aa,O,_,_,O,_,_,O,?_⟩;show⟨tr,_,O,Ñ.of kD,O,_,_,O,_,_,O,_,_,O,_,_,O,_,_,O,_,_,O,O,O,?_⟩;show rQ λDe ET=>?_;show⟨_,O,_,O,_,_,O,O,fl p 2,fl p 3+1,O,⟨À,À,À,À⟩,?_⟩;generalize upd Hc T0 (.tup [V.int i,V.ref tr])=H2 at dT⊢;show dh (lo:=fl p 2) (n:=(fl p 3+1-fl p 2).toNat) (λj σ Hj=>∃cq Ä,σ=[some (.ref ap),some (.ref ah),some (.ref fo),some (.int i),some (.int (fl p 0)),some (.int (fl p 1)),some (.int (fl p 2)),some (.int (fl p 3)),some (.int (fl p 4)),some (.int (fl p 5)),cq,cb,eC,eI,cK,cS,fq]/\Ķ fo H Hj (λn y=>ų ps n y/\(n<i\/(n=i/\y<fl p 2+j))) (hl ps []) Ä/\Ä.length<=20*i+j) ?_ ?_ ?_
  .refine⟨cq,Ä,O,⟨dT.sm,dT.nf,dT.e,λn y z=>dT.g n y ⟨z.1,?_⟩,λn y z=>dT.no n y λz'=>z ⟨z'.1,.inl z'.2⟩,dT.i,dT.fr,dT.kd,λk hk=>?_⟩,lk⟩
   .rcases z.2 with z2|⟨z2,z3⟩;.exact z2
    .obtain⟨_,_,w1,_⟩:=z.1;rw[z2,ep]at w1;lia
   .obtain⟨n,y,a,b⟩:=dT.kk k hk;show⟨n,y,a,b.1,.inl b.2⟩
  .rintro j σ Hj hj⟨cq,Ä,rfl,dj,lj⟩;apply aD;show rQ λSx xA=>?_;show⟨8,O,by decide,by decide,comp_gen 8 (λi ys σ Hc=>Hc=Hj/\(∃o1,σ=[o1,some (.int (fl p 4)),some (.int (fl p 0))])/\ys=(((List.range i).map λi=>fl p 4*(if((i:Nat):Int)=fl p 0 then 1 else 0)):VV).map V.int) ⟨rfl,⟨_,rfl⟩,rfl⟩ (by rw[sizeLine_eq];decide) ?_ ?_⟩
   .rintro i' ys σ Hc eW hy⟨rfl,⟨o1,rfl⟩,rfl⟩;show⟨eW,λv H' y' R hR=>?_⟩;obtain⟨rfl,rfl⟩:=y';apply aD;have z0:(0:Int)+(i':Int)=i':=À;rw[z0];show⟨_,O,_,O,_,O,O,.inr ⟨_,O,_,_,O,O,.inl ⟨À,À⟩,hR _ _ _ ⟨O,`i,?_⟩⟩⟩;rw[List.range_succ,é,é];congr 1;show[V.int _]=[V.int _];congr 2;dsimp only;by_cases hh:(i':Int)=fl p 0;.rw[Ê hh,ç (by rw[hh])];rfl
    .rw[Ç hh,č (λz=>hh (by injection z))];rfl
   rintro ys σ Hc hy⟨rfl,_,rfl⟩;refine⟨Ø _,λd hd=>?_⟩;have ud:=Â.upd (o:=.lst ((Ht p).map V.int)) hd;have ed:=aa (H:=Hc) (a:=d) (o:=.lst ((Ht p).map V.int));refine⟨_,O,_,O,_,O,zL,λt ht=>⟨fo,_,O,ŷ.t (k:=ky i (fl p 2+j)) (Â.upd ht _ _ (ud _ _ dj.e)) aa ϟ,?_⟩⟩;have u2:=ud.updR (o:=.tup [V.int i,V.int (fl p 2+j)]) ht;refine xA _ _ ⟨_,_,O,dj.put u2 hd (Â.upd ht _ _ ed) (JT (by rw[ep];exact We) (by rw[ep];lia)|>.trans (by rw[ep])) (λz=>by rcases z.2 with z2|⟨z2,z3⟩<;>lia) (λn y=>⟨λz=>?_,λz=>?_⟩),?_⟩
   .rcases z.2 with z2|⟨z2,z3⟩;.exact .inl ⟨z.1,.inl z2⟩
    .by_cases me:y=fl p 2+j;.exact .inr ⟨z2,me⟩
     .exact .inl ⟨z.1,.inr ⟨z2,À⟩⟩
   .rcases z with z|⟨rfl,rfl⟩;.exact⟨z.1,z.2.imp id λw=>⟨w.1,À⟩⟩
    .exact⟨⟨À,À,by rw[ep];lia,by rw[ep];lia⟩,.inr ⟨O,À⟩⟩
   .rw[kI _ (dj.no _ _ λz=>by rcases z.2 with z2|⟨z2,z3⟩<;>lia),à];show Ä.length+1<=20*i+(j+1);lia
  .rintro σ Hj⟨cq,Ä,rfl,dj,lj⟩;show ET _ _ ⟨_,_,_,_,_,_,_,_,_,_,_,_,_,_,Ä,O,⟨dj.sm,dj.nf,dj.e,λn y z=>dj.g n y ⟨z.1,?_⟩,λn y z=>dj.no n y λz'=>z ⟨z'.1,?_⟩,dj.i,dj.fr,dj.kd,λk hk=>?_⟩,À⟩
   .by_cases hn:n<i;.exact .inl hn
    .have Sy:n=i:=À;show .inr ⟨Sy,?_⟩;obtain⟨_,_,_,w⟩:=z.1;rw[Sy,ep]at w;lia
   .rcases z'.2 with w|⟨w,_⟩<;>lia
   .obtain⟨n,y,a,b⟩:=dj.kk k hk;show⟨n,y,a,b.1,?_⟩;rcases b.2 with w|⟨w,_⟩<;>lia
 rintro σ Hc⟨x3,x4,x5,x6,x7,x8,x9,cq,cb,eC,eI,cK,cS,fq,Ē,rfl,dt,lk⟩;have NF:Ķ fo H Hc (ų ps) (hl ps []) Ē:=⟨dt.sm,dt.nf,dt.e,λn y z=>dt.g n y ⟨z,by rw[rp.l];show z.2.1⟩,λn y z=>dt.no n y λw=>z w.1,dt.i,dt.fr,dt.kd,λk hk=>by obtain⟨n,y,a,b⟩:=dt.kk k hk;show⟨n,y,a,b.1⟩⟩;have lk0:Ē.length<=200:=by rw[rp.l]at lk;lia
 clear dt lk d0;apply ab
 show`e;show⟨_,O,ah,xs,O,Ñ.of (NF.sm _ _ rs.e),?_⟩;show ZT.for_enum true (xs:=xs) (λi σ Hc=>Z0x λx3 x4 x5 x6 x7 x8 x9 cq cb eC eI cK cS fq=>Xa3 (σ=[some (.ref ap),some (.ref ah),some (.ref fo),x3,x4,x5,x6,x7,x8,x9,cq,cb,eC,eI,cK,cS,fq]) (Ķ fo H Hc (ų ps) (hl ps (ss.take i)) Ē) (∀j,j<i->cG ps (ss.take j) (ss.getD j [])=true)) ?_ ?_ ?_ ?_;.exact⟨_,_,_,_,_,_,_,_,_,_,_,_,_,_,O,by rw[Zb6];show NF,λj hj=>À⟩
 .rintro i σ Hc hi⟨x3,x4,x5,x6,x7,x8,x9,cq,cb,eC,eI,cK,cS,fq,rfl,dt,hh⟩;show Ñ.of (dt.sm _ _ rs.e)
 .clear NF;rintro i x σ Hc T0 hx⟨x3,x4,x5,x6,x7,x8,x9,cq,cb,eC,eI,cK,cS,fq,rfl,dt,hh⟩nT;have hi:i<ss.length:=by have:=(ĉ.mp hx).1;rw[rs.l]at this;show this
  obtain⟨tr,fk,fe⟩:=rs.g i ss[i] (Ô hi);have:x=.ref tr:=by rw[hx]at fk;show ģ fk
  subst this;have eg:ss.getD i []=ss[i]:=æ hi;have bq:ss.take (i+1)=ss.take i++[ss[i]]:=by rw[ġ,Ô hi];rfl
  have l5:=h5 _ (ĕ hi);have dT:=dt.same (Â.upd (o:=.tup [V.int i,V.ref tr]) nT);have kD:=dT.sm _ _ fe;generalize RO:ss[i]=s at eg bq l5 kD;generalize Wf:ss.take i=sa at dT bq;have hH:cG ps sa s=cG ps (ss.take i) (ss.getD i []):=by rw[Wf,eg]
  obtain⟨n,ea⟩:∃n,fl s 0=n:=`i;obtain⟨a,eb⟩:∃n,fl s 1=n:=`i;obtain⟨b,ec⟩:∃n,fl s 2=n:=`i;obtain⟨k,ed⟩:∃n,fl s 3=n:=`i;obtain⟨y,ee⟩:∃n,fl s 4=n:=`i;have Sz:upd Hc T0 (.tup [V.int i,V.ref tr]) tr=some (.tup [.int n,.int a,.int b,.int k,.int y]):=by rw[kD,lK l5,ea,eb,ec,ed,ee];rfl
  show⟨T0,_,O,Ñ.of aa,O,_,_,O,_,_,O,?_⟩;show⟨tr,_,O,Ñ.of Sz,O,_,_,O,_,_,O,_,_,O,_,_,O,_,_,O,O,O,?_⟩;generalize upd Hc T0 (.tup [V.int i,V.ref tr])=H2 at dT⊢;clear dt nT kD Sz fe;have bad:∀{Hd:Hp},Â H Hd->cG ps sa s=false->∀t,Hd t=none->Q (.ref t) (upd Hd t (.tup [.ref fo,.int i])):=λ{Hd}sd hf t ht=>by have eu:un ps ss=some i:=Bj hh hi (by rw[<-hH];show hf);show q t fo _ (sd.updR ht) (by rw[aa,eu];rfl) λz=>?_;rw[eu]at z;cases z
  have SA:=Ϩ (ps:=ps) (sa:=sa) ea eb ec ed ee;have jI:¬((ų ps n y/\(0<=a/\a<8)/\(0<=b/\b<8)/\a≠b/\(1<=k/\k<=99))/\∀z,ų ps n z->y<=z->k<=(hl ps sa n z).getD a.toNat 0)->cG ps sa s=false:=λh=>by cases z:cG ps sa s with|false=>rfl;|true=>show absurd (SA.mp z) h
  show`e;show⟨_,O,_,O,O,_,O,?_⟩;by_cases qv:a=b;.rw[ç (by rw[qv])];show bM (bM ⟨_,O,_,O,zL,λt ht=>bad dT.sm (jI λh=>h.1.2.2.2.1 qv) t ht⟩)
  rw[č (λz=>qv (by injection z))];show bG ⟨_,O,_,O,_,_,O,_,_,O,O,_,O,?_⟩;by_cases oz:(if b<a then b else a)<0;.rw[ç oz];show bM (bM ⟨_,O,_,O,zL,λt ht=>bad dT.sm (jI λh=>?_) t ht⟩);show wT oz h.1.2.1.1 h.1.2.2.1.1
  rw[č oz];show bG ⟨_,O,_,O,_,_,O,_,_,O,O,_,O,?_⟩;by_cases gi:(if b>a then b else a)>7;.rw[ç gi];show bM (bM ⟨_,O,_,O,zL,λt ht=>bad dT.sm (jI λh=>?_) t ht⟩);show xL gi h.1.2.1.2 h.1.2.2.1.2
  rw[č gi];obtain⟨ha,hb⟩:=x0 oz gi
  show bG ⟨_,O,_,O,zL,λtk qo=>?_⟩;have dK:=dT.same (Â.upd (o:=.tup [V.int n,V.int y]) qo);show⟨_,O,fo,_,O,Ă.t (k:=ky n y) dK.e aa,_,O,?_⟩;generalize upd H2 tk (.tup [V.int n,V.int y])=H3 at dK⊢;by_cases hd:¬ų ps n y;.rw[dK.no n y hd];show bM ⟨_,O,_,O,zL,λt ht=>bad dK.sm (jI λh=>hd h.1.1) t ht⟩
  have hd:=Classical.not_not.mp hd;obtain⟨d1,v1,_⟩:=dK.g n y hd;rw[v1];show bG (eF ?_);apply ab
  clear v1 dT qo;show`e;show⟨fo,Ē,dK.e,λob=>?_⟩;have ez:=aa (H:=H3) (a:=fo) (o:=.frz ob (.dT Ē));have kz:∀b u,b≠fo->H3 b=some u->upd H3 fo (.frz ob (.dT Ē)) b=some u:=λb u n e=>by rw[au n];show e
  generalize upd H3 fo (.frz ob (.dT Ē))=Hz at ez kz⊢;show⟨_,O,fo,ob,_,O,ez,fG Ē.length (λj ys σ Hd=>Â Hz Hd/\(∃o1 o2,σ=[o1,o2,some (.int n),some (.int y)])/\ys=((Ē.take j).filterMap (yk n y)).map V.int) ⟨Â.refl _,⟨_,_,O⟩,O⟩ ϟ ?_ ?_⟩
  .rintro j ys σ Hd hj hy⟨sd,⟨o1,o2,rfl⟩,rfl⟩;show⟨⟨sd _ _ ez,hj⟩,λx H' yv R hR=>?_⟩;obtain⟨rfl,bb,kk,vv,rfl,EU,sQ⟩:=yv;obtain⟨n',z',rfl,AD⟩:=dK.kk kk (Ù.mpr ⟨(kk,vv),ń EU,O⟩);have sQ:H' bb=some (.tup [.int n',.int z']):=sQ;have NG:(Ē.take (j+1)).filterMap (yk n y)=(Ē.take j).filterMap (yk n y)++(if n'=n/\y<=z' then[z']else[]):=by
    rw[ġ,EU,List.filterMap_append];congr 1;have e0:yk n y (ky n' z',vv)=if n'=n/\y<=z' then some z' else none:=O;show[(ky n' z',vv)].filterMap (yk n y)=_;rw[Zbz,e0];by_cases hc:n'=n/\y<=z';.rw[Ê hc,Ê hc];rfl
    .rw[Ç hc,Ç hc];rfl
   show⟨bb,_,O,Ñ.of sQ,O,_,_,O,_,_,O,O,?_⟩;show⟨_,O,_,O,O,_,O,?_⟩;by_cases h1:n'=n
   .rw[ç (by rw[h1])];show bM ⟨_,O,_,O,_,_,O,O,_,O,?_⟩;by_cases h2:z'≥y;.rw[ç h2];show bM ⟨_,O,hR _ _ _ (by rw[à];show _+1<=j+1;lia) ⟨sd,⟨_,_,O⟩,?_⟩⟩;rw[NG,Ê ⟨h1,h2⟩,é];rfl
    .rw[č h2];show bG (hR _ _ _ À ⟨sd,⟨_,_,O⟩,?_⟩);rw[NG,Ç (λw=>h2 w.2),Ĕ]
   .rw[č (λz=>h1 (by injection z))];show bG (bG (hR _ _ _ À ⟨sd,⟨_,_,O⟩,?_⟩));rw[NG,Ç (λw=>h1 w.1),Ĕ]
  rintro ys σ Hd hy⟨sd,_,rfl⟩;rw[Ņ];show⟨⟨sd _ _ ez,Ø _⟩,λLy sR=>⟨Â.upd sR _ _ (sd _ _ ez),?_⟩⟩;obtain⟨zs,EV⟩:∃zs,zs=Ē.filterMap (yk n y):=`i;have AE:∀z,z∈zs↔ų ps n z/\y<=z:=λz=>by
   rw[EV,Zch];constructor
   .rintro⟨⟨kk,vv⟩,hp,e⟩;obtain⟨n',z',rfl,AD⟩:=dK.kk kk (Ù.mpr ⟨_,hp,O⟩);have e:(if n'=n/\y<=z' then some z' else none)=some z:=e;by_cases hc:n'=n/\y<=z';.rw[Ê hc]at e;cases e;obtain⟨rfl,h2⟩:=hc;show⟨AD,h2⟩
    .rw[Ç hc]at e;cases e
   .rintro⟨h1,h2⟩;obtain⟨d,v,_⟩:=dK.g n z h1;have:(ky n z)∈Ē.map (·.1):=by
     have hs:(cF Ē (ky n z)).isSome=true:=by rw[v];rfl
     rw[<-fB,Zb8]at hs;obtain⟨p,hp,e⟩:=hs;show Ù.mpr ⟨p,hp,ŕ e⟩
    obtain⟨p,hp,e⟩:=Ù.mp this;show⟨p,hp,?_⟩;unfold yk;rw[show p.1=ky n z from e];show(if n=n/\y<=z then some z else none)=some z;rw[Ê ⟨O,h2⟩]
  have Wg:zs.Nodup:=by
   rw[EV];have:∀{l:List (List Key×V)},(l.map (·.1)).Nodup->(∀k∈l.map (·.1),∃n y,k=ky n y)->(l.filterMap (yk n y)).Nodup:=λ{l}=>by induction l with|nil=>exact λ_ _=>ϳ;|cons p l ih=>intro nd kk;rw[Ľ,Za7]at nd;have i1:=ih nd.2 λk hk=>kk k (Ù.mpr (by obtain⟨q,hq,e⟩:=Ù.mp hk;exact⟨q,.tail _ hq,e⟩));rw[Zbz];obtain⟨n',z',e'⟩:=kk p.1 (Ù.mpr ⟨p,.head _,O⟩);cases e:yk n y p with|none=>exact i1;|some z=>
      show Za7.mpr ⟨λhm=>?_,i1⟩;obtain⟨q,hq,eq⟩:=Zch.mp hm;obtain⟨n2,z2,e2⟩:=kk q.1 (Ù.mpr ⟨q,.tail _ hq,O⟩);have key:∀{r:List Key×V}{n3 z3 z:Int},r.1=ky n3 z3->yk n y r=some z->n3=n/\z3=z:=λ{r n3 z3 z}h1 h2=>by
       unfold yk at h2;rw[h1]at h2;have h2:(if n3=n/\y<=z3 then some z3 else none)=some z:=h2;by_cases hc:n3=n/\y<=z3;.rw[Ê hc]at h2;cases h2;show⟨hc.1,O⟩
       .rw[Ç hc]at h2;cases h2
      obtain⟨w1,w2⟩:=key e' e;obtain⟨w3,w4⟩:=key e2 eq;show nd.1 (Ù.mpr ⟨q,hq,by show q.1=p.1;rw[e',e2,w1,w2,w3,w4]⟩)
   show this dK.kd λk hk=>by obtain⟨n,y,a,_⟩:=dK.kk k hk;show⟨n,y,a⟩
  have lzs:zs.length<=200:=by rw[EV];have:=List.length_filterMap_le (yk n y) Ē;lia
  rw[<-EV];have nD:Ly≠fo:=λz=>by rw[z,sd _ _ ez]at sR;cases sR
  have S6:Â H3 (upd (upd Hd Ly (.lst (zs.map V.int))) fo (.dT Ē)):=λb u e=>by
   by_cases BN:b=fo;.subst BN;rw[dK.e]at e;cases e;show aa
   .rw[au BN];show Â.upd sR _ _ (sd _ _ (kz _ _ BN e))
  have AF:upd (upd Hd Ly (.lst (zs.map V.int))) fo (.dT Ē) Ly=some (.lst (zs.map V.int)):=by rw[au nD];show aa
  have d6:=dK.same S6;have Wh:H Ly=none:=by cases z:H Ly with|none=>rfl;|some o=>
    by_cases BN:Ly=fo;.exact absurd BN nD
    .rw[sd _ _ (kz _ _ BN (dK.sm _ _ z))]at sR;cases sR
  have NH:∀m z d,cF Ē (ky m z)=some (.ref d)->d≠Ly:=λm z d hv w=>by
   by_cases hm:ų ps m z;.obtain⟨d',q1,q2⟩:=dK.g m z hm;rw[hv]at q1;cases q1;rw[w]at q2;rw[sd _ _ (kz _ _ nD q2)]at sR;cases sR
   .rw[dK.no m z hm]at hv;cases hv
  generalize upd (upd Hd Ly (.lst (zs.map V.int))) fo (.dT Ē)=H6 at S6 AF d6⊢;clear S6 dK sR sd ez kz hy EV;apply ab
  show`e;apply aQ;show⟨_,O,Ly,O,⟨_,Ë.of AF⟩,comp_gen zs.length (λj ys σ Hc=>Â H6 Hc/\(∃o1,σ=[o1,some (.ref fo),some (.int n),some (.int a)])/\ys=(((zs.take j).map λz=>(hl ps sa n z).getD a.toNat 0):VV).map V.int) ⟨Â.refl _,`i,O⟩ ϟ ?_ ?_⟩
  .rintro j ys σ Hc hj hy⟨sc,⟨o1,rfl⟩,rfl⟩;have ex:(zs.map V.int)[j]?=some (.int zs[j]):=by rw[ì,Ô hj];rfl
   show⟨⟨_,_,Ë.of (sc _ _ AF),ex⟩,λv H' y' R hR=>?_⟩;obtain⟨rfl,y'⟩:=y';have hv:=y' _ (Ë.of (sc _ _ AF));rw[ex]at hv;cases hv;apply aD;obtain⟨AD,_⟩:=(AE zs[j]).mp (ĕ hj);obtain⟨d,v1,v2⟩:=(d6.same sc).g n zs[j] AD;show⟨_,O,_,O,_,O,zL,λtk qo=>?_⟩;have u:=Â.upd (o:=.tup [V.int n,V.int zs[j]]) qo;have nV:ς ((hl ps sa n zs[j]).map V.int) a=some (.int ((hl ps sa n zs[j]).getD a.toNat 0)):=by
    have HG:=Hu ps sa n zs[j];have:((hl ps sa n zs[j]).map V.int)[a.toNat]?=some (.int ((hl ps sa n zs[j]).getD a.toNat 0)):=by rw[ì,ě,Ô À];rfl
    have:=dZ this;rw[show((a.toNat:Nat):Int)=a by lia]at this;show this
   show⟨fo,.ref d,O,v1▸Ă.t (k:=ky n zs[j]) (u _ _ (sc _ _ d6.e)) aa,_,O,d,_,a,_,O,O,Ë.of (u _ _ v2),nV,hR _ _ _ ⟨sc.updR qo,`i,?_⟩⟩;rw[ġ,Ô hj,é,é];rfl
  rintro ys σ Hc hy⟨sc,_,rfl⟩;rw[Ņ];show⟨⟨_,Ë.of (sc _ _ AF),by rw[Ï];show Ø _⟩,λD hD=>⟨D,_,O,Ë.of aa,?_,λM hM Wi=>aD ?_⟩⟩;.have:=(AE y).mpr ⟨hd,Ϯ _⟩;intro z;rw[List.map_eq_nil_iff]at z;rw[z]at this;cases this
  have d7:=(d6.same sc).same (Â.upd (o:=.lst (((zs.map λz=>(hl ps sa n z).getD a.toNat 0):VV).map V.int)) hD);have AG:=Â.upd (o:=.lst (((zs.map λz=>(hl ps sa n z).getD a.toNat 0):VV).map V.int)) hD _ _ (sc _ _ AF);generalize upd Hc D (.lst (((zs.map λz=>(hl ps sa n z).getD a.toNat 0):VV).map V.int))=H7 at d7 AG⊢;clear d6 sc hD AF hy;apply ab
  refine aF λc_ ab=>?_;refine cW (p:=λi j=>decide (i<=j)) (q:=λi j=>decide (i<=j)) (i:=1) (j:=k) (k:=99) iH (gC O) iH _ ⟨_,O,?_⟩;dsimp only;cases ek:(decide (1<=k)&&decide (k<=99))with|false=>refine bM (bM ⟨_,O,_,O,zL,λt ht=>bad d7.sm (jI λh=>?_) t ht⟩);rw[ç h.1.2.2.2.2.1,ç h.1.2.2.2.2.2]at ek;cases ek;|true=>
  obtain⟨k1,k2⟩:=Bool.and_eq_true_iff.mp ek;have k1:=ŕ k1;have k2:=ŕ k2;show bG ⟨_,O,_,O,_,_,O,O,_,O,?_⟩;by_cases SD:M<k;.rw[ç SD];show bM ⟨_,O,_,O,zL,λt ht=>bad d7.sm (jI λh=>?_) t ht⟩;obtain⟨z,hz,rfl⟩:=Ù.mp hM;have:=h.2 z ((AE z).mp hz).1 ((AE z).mp hz).2;lia
  rw[č SD];show bG (eF ?_);apply ab
  have good:cG ps sa s=true:=SA.mpr ⟨⟨hd,ha,hb,qv,k1,k2⟩,λz h1 h2=>by have:=Wi _ (Ù.mpr ⟨z,(AE z).mpr ⟨h1,h2⟩,O⟩);lia⟩;clear bad jI;have fmD:∀(j:Nat),∃fm:Int->Int->VV,fm=λn' z'=>if n'=n/\z'∈zs.take j then ñ n z' (hl ps sa n z') s else hl ps sa n' z':=λj=>`i;show⟨_,O,Ly,O,⟨_,Ë.of AG⟩,?_⟩;show gb (xs:=zs.map V.int) (λj σ Hd=>∃fq,σ=[some (.ref ap),some (.ref ah),some (.ref fo),some (.int n),x4,x5,x6,x7,some (.int k),x9,some (.int y),some (.int i),some (.int a),some (.int b),some (.ref Ly),some (.int M),fq]/\Ķ fo H Hd (ų ps) (λn' z'=>if n'=n/\z'∈zs.take j then ñ n z' (hl ps sa n z') s else hl ps sa n' z') Ē/\Hd Ly=some (.lst (zs.map V.int))) ?_ ?_ ?_ ?_;.refine⟨_,O,d7.cast λn' z' _=>?_,AG⟩;rw[Zb6,Ç (λw=>by cases w.2)]
  .rintro j σ Hd hj⟨fq,rfl,dj,eL⟩;show Ë.of eL
  .rintro j v σ Hd hv⟨fq,rfl,dj,eL⟩;have hj:j<zs.length:=by have:=(ĉ.mp hv).1;rw[Ï]at this;show this
   have ev:v=.int zs[j]:=by rw[ì,Ô hj]at hv;show(ģ hv).symm
   subst ev;obtain⟨AD,SE⟩:=(AE zs[j]).mp (ĕ hj);have SF:¬(zs[j]∈zs.take j):=λhm=>by obtain⟨j',iO,e⟩:=Zaw hm;rw[ė]at iO;rw[Zbe]at e;show ϲ.mp Wg j' j À hj À e
   generalize hz:zs[j]=z at AD SE SF⊢;obtain⟨L,NI⟩:∃L,L=hl ps sa n z:=`i;have l8:L.length=8:=by rw[NI];show Hu _ _ _ _
   obtain⟨d,v1,v2⟩:=dj.g n z AD;rw[Ç (λw=>SF w.2),<-NI]at v2;have SI:=NH n z d v1;have Bz:∀{c:Int}{L:VV},L.length=8->0<=c/\c<8->ϧ (L.map V.int).length c=some c.toNat/\ς (L.map V.int) c=some (.int (L.getD c.toNat 0)):=λ{c L}l8 hc=>by
    show⟨?_,?_⟩;.unfold ϧ;rw[Ï,l8,Ê hc.1,Ê À]
    .have:(L.map V.int)[c.toNat]?=some (.int (L.getD c.toNat 0)):=by rw[ì,ě,Ô À];rfl
     have:=dZ this;rw[show((c.toNat:Nat):Int)=c by lia]at this;show this
   apply aD;show rQ λDe ET=>?_;show`e;apply aQ;show⟨_,O,_,O,_,O,zL,λt1 h1=>?_⟩;have w1:=Â.upd (o:=.tup [V.int n,V.int z]) h1;show⟨fo,.ref d,O,v1▸Ă.t (k:=ky n z) (w1 _ _ dj.e) aa,_,O,d,_,a,_,O,O,Ë.of (w1 _ _ v2),(Bz l8 ha).2,_,O,_,_,O,O,?_⟩;have d1:=dj.same w1;have NJ:=w1 _ _ v2;have Bi:=w1 _ _ eL;generalize upd Hd t1 (.tup [V.int n,V.int z])=Ha at d1 NJ Bi⊢;show⟨_,O,_,O,_,O,zL,λt2 h2=>?_⟩;have w2:=Â.upd (o:=.tup [V.int n,V.int z]) h2;show⟨fo,.ref d,O,v1▸Ă.t (k:=ky n z) (w2 _ _ d1.e) aa,_,O,d,_,a,_,O,O,w2 _ _ NJ,(Bz l8 ha).1,?_⟩;have d2:=d1.same w2;have NL:=w2 _ _ Bi;generalize upd Ha t2 (.tup [V.int n,V.int z])=Hb at d2 NL⊢;rw[show(L.map V.int).set a.toNat (.int (L.getD a.toNat 0-k))=(ie L a (-k)).map V.int by unfold ie;rw[List.map_set];rfl];obtain⟨L1,AH⟩:∃L1,L1=ie L a (-k):=`i;rw[<-AH];have SJ:L1.length=8:=by rw[AH,jf];show l8
   have d3:=d2.wr (f':=λn' z'=>if n'=n/\z'=z then L1 else if n'=n/\z'∈zs.take j then ñ n z' (hl ps sa n z') s else hl ps sa n' z') (L:=L1) v1 (by rw[Ê ⟨O,O⟩]) λn' z' _ gx=>by rw[Ç gx]
   have e3:=aa (H:=Hb) (a:=d) (o:=.lst (L1.map V.int));have SK:upd Hb d (.lst (L1.map V.int)) Ly=some (.lst (zs.map V.int)):=by rw[au SI.symm];show NL
   generalize upd Hb d (.lst (L1.map V.int))=Hc at d3 e3 SK⊢;clear d1 d2 NJ Bi NL w1 w2 h1 h2 dj v2 eL;apply ab
   apply aQ;show⟨_,O,_,O,_,O,zL,λt1 h1=>?_⟩;have w1:=Â.upd (o:=.tup [V.int n,V.int z]) h1;show⟨fo,.ref d,O,v1▸Ă.t (k:=ky n z) (w1 _ _ d3.e) aa,_,O,d,_,b,_,O,O,Ë.of (w1 _ _ e3),(Bz SJ hb).2,_,O,_,_,O,O,?_⟩;have d4:=d3.same w1;have e4:=w1 _ _ e3;have SM:=w1 _ _ SK;generalize upd Hc t1 (.tup [V.int n,V.int z])=Ha at d4 e4 SM⊢;show⟨_,O,_,O,_,O,zL,λt2 h2=>?_⟩;have w2:=Â.upd (o:=.tup [V.int n,V.int z]) h2;show⟨fo,.ref d,O,v1▸Ă.t (k:=ky n z) (w2 _ _ d4.e) aa,_,O,d,_,b,_,O,O,w2 _ _ e4,(Bz SJ hb).1,?_⟩;have d5:=d4.same w2;have SN:=w2 _ _ SM;generalize upd Ha t2 (.tup [V.int n,V.int z])=Hb at d5 SN⊢;rw[show(L1.map V.int).set b.toNat (.int (L1.getD b.toNat 0+k))=(ie L1 b k).map V.int by unfold ie;rw[List.map_set]];have hs:ñ n z L s=ie L1 b k:=by unfold ñ;rw[ea,eb,ec,ed,ee,Ê ⟨O,SE⟩,AH]
   show ET _ _ ⟨_,O,d5.wr (L:=ie L1 b k) v1 ?_ λn' z' _ gx=>?_,by rw[au SI.symm];show SN⟩;.rw[Ê ⟨O,by rw[ġ,Ô hj,hz];show è.mpr (.inr (.head _))⟩,<-hs,NI]
   .rw[Ç gx];have:(n'=n/\z'∈zs.take (j+1))↔(n'=n/\z'∈zs.take j):=by
     rw[ġ,Ô hj,hz];constructor
     .rintro⟨g1,g2⟩;show⟨g1,?_⟩;rcases è.mp g2 with w|w;.exact w
      .exact absurd ⟨g1,ĸ.mp w⟩ gx
     .rintro⟨g1,g2⟩;show⟨g1,è.mpr (.inl g2)⟩
    by_cases hc:n'=n/\z'∈zs.take j;.rw[Ê hc,Ê (this.mpr hc)]
    .rw[Ç hc,Ç λw=>hc (this.mp w)]
  .rintro σ Hd⟨fq,rfl,dj,eL⟩;rw[Ï,Ņ]at dj;show⟨_,_,_,_,_,_,_,_,_,_,_,_,_,_,O,dj.cast λn' z' F7=>?_,λj' iO=>?_⟩
   .rw[bq,JV F7];by_cases hc:n'=n/\z'∈zs;.obtain⟨rfl,hc⟩:=hc;rw[Ê ⟨O,hc⟩]
    .rw[Ç hc];unfold ñ;rw[ea,ee,Ç λw=>hc ⟨w.1.symm,(AE z').mpr ⟨by rw[w.1];show F7,w.2⟩⟩]
   .by_cases ax:j'<i;.exact hh j' ax
    .have:j'=i:=À;rw[this,<-hH];show good
 rintro σ Hc⟨x3,x4,x5,x6,x7,x8,x9,cq,cb,eC,eI,cK,cS,fq,rfl,dt,hh⟩;have hu:un ps ss=none:=vm λj hj=>hh j (by rw[rs.l];show hj);apply ab
 show⟨_,O,zL,λt ht=>?_⟩;show q t fo _ (dt.sm.updR ht) (by rw[aa,hu];rfl) λ_=>⟨Ē,?_⟩;have:=dt.same (Â.upd (o:=.tup [V.ref fo,V.non]) ht);rw[rs.l,Ņ]at this;show this
end K60
namespace K60Q
open PySem L2 K60P
def okC(r:VV):Prop:=r.length=3/\∀x∈r,0<=x/\x<1000
def smR(s:VV):Prop:=s.length=5/\∀i∈s,-10<=i/\i<=2000000
inductive Υ(vs:List V)(H:Hp)(Q:VK):Prop|mk:∀st n,(vs=[.ref st,.int n])->(StAt H st)->(1<=n)->(n<=20)->(∀ac xc cs H',Dr st H H'->K60.RowsAt H' ac xc cs->1<=cs.length->(cs.length:Int)<=n->(∀r∈cs,okC r)->Q (.ref ac) H')->Υ  vs H Q
def Bu:Sp:=λvs H Q _=>Υ  vs H Q
inductive ϕ(vs:List V)(H:Hp)(Q:VK):Prop|mk:∀st y,(vs=[.ref st,.int y])->(StAt H st)->(0<=y)->(y<=1000)->(∀t r H',Dr st H H'->H' t=some (.tup (r.map V.int))->K60.okP r->Q (.ref t) H')->ϕ  vs H Q
def spProm:Sp:=λvs H Q _=>ϕ  vs H Q
inductive ϒ(vs:List V)(H:Hp)(Q:VK):Prop|mk:∀st ap xp ps,(vs=[.ref st,.ref ap])->(StAt H st)->(K60.RowsAt H ap xp ps)->(ps.length<=10)->((∀r∈ps,K60.okP r))->(∀t s H',Dr st H H'->H' t=some (.tup (s.map V.int))->smR s->Q (.ref t) H')->ϒ  vs H Q
def Hv:Sp:=λvs H Q _=>ϒ  vs H Q
inductive Ϛ(vs:List V)(H:Hp)(Q:VK):Prop|mk:∀(st:Addr)y m,(vs=[.ref st,.int y,.int m])->(StAt H st)->(1<=y)->(y<=20)->(0<=m)->(m<=10)->(∀a ac xc cs ap xp ps ah xs ss H',Dr st H H'->H' a=some (.tup [.ref ac,.ref ap,.ref ah])->K60.RowsAt H' ac xc cs->1<=cs.length->(cs.length:Int)<=y->(∀r∈cs,okC r)->K60.RowsAt H' ap xp ps->(ps.length:Int)<=m->(∀r∈ps,K60.okP r)->K60.RowsAt H' ah xs ss->ss.length<=6->(∀s∈ss,smR s)->K60.un ps ss=none->Q (.ref a) H')->Ϛ  vs H Q
def spBook:Sp:=λvs H Q _=>Ϛ  vs H Q
theorem _root_.K60P.Dr.new(g:Dr st H H1)(hp:H1 p=none):Dr st H (upd H1 p o):=g.same (Â.upd hp)
theorem _root_.K60P.Dr.rows{rs:UV}(g:Dr st H H')(h0:StAt H st)(r:K60.RowsAt H a xs rs):K60.RowsAt H' a xs rs:=r.keep (g.tups h0)
theorem jj{a b c p q r pos}:BE X (.List [.Constant (.int i) a p,.Constant (.int j) b q,.Constant (.int k) c r] pos) (IK (Kh [i,j,k])):=⟨dC (oE (.cons (.cons (.cons .nil))))⟩
section
theorem ndC:([ū,ī,"_law_wide"]:Đ).Nodup:=`j
theorem scC:Å [ī,AAn,"_law_wide",AAp] [ī,AAn] (aG (top 67)):=ċ
theorem ok_clips(F:ü K "_law_clips" "_law_clips" (top 67) f fd)(T:Mg mg)(Tr:mg "range"=none)(c1:í P w K mg base 1 AAr [ī,AAp] jh):Ú P w K mg base ù 2 f fd [ī,AAn] Bu:=by
 show F.oq scC `b;obtain⟨st,n,rfl,iF,n0,n1,q⟩:=h;show ok_b (aH (yu (i:=2) scC.nd O (Or.inr O) (Es cD (uN (fD jj (fD jj (fD jj (fD jj (fD jj fK)))))) ⟨aJ c1 hr (aq (pv 0) (aq aA aj))⟩ (λ_ _=>rfl))) (aH ⟨Ĝ 3 scC.nd (aU cA aA (aJ c1 hr (aq (pv 0) (aq (pv 1) aj))))⟩ (bQ ⟨aV (bK cz O T.tuple å (aq (bI [ū,ī,"_law_wide"] [none,some 0,some 2] O (cH O Tr (aq (pv 3) aj)) (λC fp Á s₂ Í=>⟨Ó 0 ndC,bD,bK (qH (K:=K) O) O T.tuple å (aq (bI [Ū,ī] [none,some 1] O (Gu (K:=K) O (pv 2)) (λC fp Á s₂ Í=>⟨bw (i:=0) (nd2 _ _ á) O (Or.inl O),bD,aJ c1 hr (aq (pv 1) (aq (pv 0) aj))⟩) (λC=>cI trivial) ⟨O,O,O,O⟩) aj)⟩) (λC=>cI (cI trivial)) ⟨O,O,O,O⟩) aj))⟩))) ?_;show`e;apply aQ;show⟨zL,λl1 h1=>⟨zL,λl2 h2=>⟨zL,λl3 h3=>⟨zL,λl4 h4=>⟨zL,λl5 h5=>⟨zL,λL hL=>?_⟩⟩⟩⟩⟩⟩;have m1:=Â.upd (o:=.lst (([3,3,3]:VV).map V.int)) h1;have m2:=Â.upd (o:=.lst (([12,30,30]:VV).map V.int)) h2;have m3:=Â.upd (o:=.lst (([60,3,200]:VV).map V.int)) h3;have m4:=Â.upd (o:=.lst (([1,1,1]:VV).map V.int)) h4;have m5:=Â.upd (o:=.lst (([1000,1000,1000]:VV).map V.int)) h5;have m6:=Â.upd (o:=.lst [V.ref l1,V.ref l2,V.ref l3,V.ref l4,V.ref l5]) hL;have f5:=m6 _ _ (aa (a:=l5) (o:=.lst (([1000,1000,1000]:VV).map V.int)));have f4:=m6 _ _ (m5 _ _ (aa (a:=l4) (o:=.lst (([1,1,1]:VV).map V.int))));have f3:=m6 _ _ (m5 _ _ (m4 _ _ (aa (a:=l3) (o:=.lst (([60,3,200]:VV).map V.int)))));have f2:=m6 _ _ (m5 _ _ (m4 _ _ (m3 _ _ (aa (a:=l2) (o:=.lst (([12,30,30]:VV).map V.int))))));have f1:=m6 _ _ (m5 _ _ (m4 _ _ (m3 _ _ (m2 _ _ (aa (a:=l1) (o:=.lst (([3,3,3]:VV).map V.int)))))));have ms:=m1.trans (m2.trans (m3.trans (m4.trans (m5.trans m6))));have fL:upd (upd (upd (upd (upd (upd H l1 (.lst (([3,3,3]:VV).map V.int))) l2 (.lst (([12,30,30]:VV).map V.int))) l3 (.lst (([60,3,200]:VV).map V.int))) l4 (.lst (([1,1,1]:VV).map V.int))) l5 (.lst (([1000,1000,1000]:VV).map V.int))) L (.lst [V.ref l1,V.ref l2,V.ref l3,V.ref l4,V.ref l5]) L=some (.lst [V.ref l1,V.ref l2,V.ref l3,V.ref l4,V.ref l5]):=aa;have old:∀b o,H b=some o->b≠l1/\b≠l2/\b≠l3/\b≠l4/\b≠l5/\b≠L:=λb o e=>⟨az e h1,az (m1 _ _ e) h2,az (m2 _ _ (m1 _ _ e)) h3,az (m3 _ _ (m2 _ _ (m1 _ _ e))) h4,az (m4 _ _ (m3 _ _ (m2 _ _ (m1 _ _ e)))) h5,az (m5 _ _ (m4 _ _ (m3 _ _ (m2 _ _ (m1 _ _ e))))) hL⟩;obtain⟨a0,b0,c0,Wj,_⟩:=id iF;obtain⟨v1,v2,v3,v4,v5,v6⟩:=old _ _ Wj;generalize upd (upd (upd (upd (upd (upd H l1 _) l2 _) l3 _) l4 _) l5 _) L _=H1 at f1 f2 f3 f4 f5 fL ms⊢;clear m1 m2 m3 m4 m5 m6 h1 h2 h3 h4 h5 hL old;have AI:StAt H1 st:=by obtain⟨a,b,c,e,h⟩:=iF;show⟨a,b,c,ms _ _ e,h⟩
 have g1:Dr st H H1:=⟨λb o e _=>ms _ _ e,AI⟩;show⟨_,O,st,5,O,AI,by decide,by decide,λr a b c r0 r1 a0 b0 b1=>?_⟩;have EW:∃wd ws,([V.ref l1,V.ref l2,V.ref l3,V.ref l4,V.ref l5]:List V)[r.toNat]?=some (.ref wd)/\H1 wd=some (.lst ((ws:VV).map V.int))/\wd≠st/\ws.length=3/\∀x∈ws,1<=x/\x<=1000:=by
  have:r.toNat=0\/r.toNat=1\/r.toNat=2\/r.toNat=3\/r.toNat=4:=À;rcases this with z|z|z|z|z<;>rw[z];.exact⟨l1,_,O,f1,v1.symm,O,by decide⟩
  .exact⟨l2,_,O,f2,v2.symm,O,by decide⟩
  .exact⟨l3,_,O,f3,v3.symm,O,by decide⟩
  .exact⟨l4,_,O,f4,v4.symm,O,by decide⟩
  .exact⟨l5,_,O,f5,v5.symm,O,by decide⟩
 obtain⟨wd,ws,ei,SO,EX,Wl,bws⟩:=EW;have g2:Dr st H (upd H1 st (.lst [.int a,.int b,.int c])):=g1.draw a0 b0 b1;show⟨L,_,r,.ref wd,O,O,Ë.of (by rw[au v6.symm];show fL),?_,?_⟩;.have:=dZ ei;rw[show((r.toNat:Nat):Int)=r by lia]at this;show this
 have AJ:upd H1 st (.lst [.int a,.int b,.int c]) wd=some (.lst (ws.map V.int)):=by rw[au EX];show SO
 generalize upd H1 st (.lst [.int a,.int b,.int c])=H2 at g2 AJ⊢;clear f1 f2 f3 f4 f5 fL ms g1 AI SO ei;apply aD;apply ab
 show`e;show⟨_,O,_,O,st,n,O,g2.sa,n0,À,λm a b c m0 m1 a0 b0 b1=>⟨_,_,O,O,?_⟩⟩;have g3:=g2.draw (c:=c) a0 b0 b1;have E1:upd H2 st (.lst [.int a,.int b,.int c]) wd=some (.lst (ws.map V.int)):=by rw[au EX];show AJ
 generalize upd H2 st (.lst [.int a,.int b,.int c])=H3 at g3 E1⊢;clear g2 AJ;apply ab
 apply jM;show⟨_,O,1+m,O,À,À,?_⟩;have lz:(1+m).toNat<sizeLine:=by rw[sizeLine_eq];lia
 show comp_gen (1+m).toNat (λi ys σ Hc=>Dr st H3 Hc/\(∃o,σ=[o,some (.ref st),some (.ref wd)])/\∃rows:UV,rows.length=i/\(∀r∈rows,okC r)/\Ð (λ_=>False) Hc ys (rows.map K60.rowD)) ⟨Dr.refl g3.sa,`i,[],O,λ_ h=>(List.not_mem_nil h).elim,.nil⟩ lz ?_ ?_
 .rintro i ys σ Hc hi hy⟨g4,⟨o,rfl⟩,rows,kF,E2,it⟩;show⟨hi,λv H' y R hR=>?_⟩;obtain⟨eH,rfl⟩:=y;subst H';apply aD;have AK:=g4.bt _ _ E1 EX;show⟨_,O,wd,O,⟨_,Ë.of AK⟩,comp_gen 3 (λj zs σ H5=>Dr st Hc H5/\(∃o,σ=[o,some (.ref st)])/\∃r:VV,r.length=j/\(∀n∈r,0<=n/\n<1000)/\zs=r.map V.int) ⟨Dr.refl g4.sa,`i,[],O,λ_ h=>(List.not_mem_nil h).elim,O⟩ á ?_ ?_⟩
  .rintro j zs σ H5 hj hz⟨g5,⟨o,rfl⟩,r,lr,br,rfl⟩;have E3:=g5.bt _ _ AK EX;have SR:j<ws.length:=À;have ex:(ws.map V.int)[j]?=some (.int ws[j]):=by rw[ì,Ô SR];rfl
   show⟨⟨_,_,Ë.of E3,ex⟩,λv H' y R hR=>?_⟩;obtain⟨eH,y⟩:=y;subst H';have hv:=y _ (Ë.of E3);rw[ex]at hv;cases hv;have hb:=bws _ (ĕ SR);apply aD;show⟨_,O,_,O,st,_,O,g5.sa,hb.1,À,λt a b c t0 t1 a0 b0 b1=>hR _ _ _ ⟨g5.draw a0 b0 b1,`i,r++[t],by rw[à,lr];rfl,λn hn=>?_,by rw[é];rfl⟩⟩;rcases è.mp hn with z|z;.exact br n z
   .rw[ĸ.mp z];lia
  .rintro zs σ H5 hz⟨g5,_,r,lr,br,rfl⟩;show⟨⟨_,Ë.of (g5.bt _ _ AK EX),by rw[Ï,Wl];show Ø _⟩,λD hD=>⟨D,_,O,.inl ⟨Ë.of aa,λt ht=>?_⟩⟩⟩;have s6:=(Â.upd (o:=.lst (r.map V.int)) hD).updR (o:=.tup (r.map V.int)) ht;show hR _ _ _ ⟨(g4.trans g5).same s6,`i,rows++[r],by rw[à,kF];rfl,λx hx=>?_,?_⟩
   .rcases è.mp hx with z|z;.exact E2 x z
    .rw[ĸ.mp z];show⟨lr,br⟩
   .rw[é];show((g5.ths g4.sa it).same s6).append (.cons (.tup aa (Ð.ints r)) .nil)
 .rintro ys σ Hc hy⟨g4,_,rows,kF,E2,it⟩;show⟨Ø _,λD hD=>⟨D,_,O,.inl ⟨Ë.of aa,λt ht=>?_⟩⟩⟩;have s6:=(Â.upd (o:=.lst ys) hD).updR (o:=.tup ys) ht;obtain⟨ac,xc,ev,rr⟩:=K60.th_rows (rs:=rows) (.tup aa (it.same s6));cases ev;show q _ xc rows _ ((g3.trans g4).same s6) rr À À E2
end
section
theorem scP:Å [ī,AAg,"_law_first","_law_last",υ,"_law_price"] [ī,AAg] (aG (top 68)):=ċ
theorem ok_prom(F:ü K AAu AAu (top 68) f fd)(Tm:mg "min"=none)(c1:í P w K mg base 1 AAr [ī,AAp] jh):Ú P w K mg base ù 2 f fd [ī,AAg] spProm:=by
 show F.oq scP `b;obtain⟨st,y,rfl,iF,y0,y1,q⟩:=h;show ok_b (aH ⟨Ĝ 2 scP.nd (aM (fY O) O Tm tY (aq aA (aq (aJ c1 hr (aq (pv 0) (aq (aU cA (pv 1) aA) aj))) aj)))⟩ (aH ⟨Ĝ 3 scP.nd (aM (fY O) O Tm tY (aq aA (aq (aU cA (pv 2) (pX cD (Je (Jd aA (Jd (aJ c1 hr (aq (pv 0) (aq aA aj))) (Jd (aJ c1 hr (aq (pv 0) (aq aA aj))) fK)))) (aJ c1 hr (aq (pv 0) (aq aA aj))))) aj)))⟩ (aH ⟨xZ (i:=4) (j:=5) O scP.nd O O á O O (aq (aU cA aA (aJ c1 hr (aq (pv 0) (aq (pX cD (dC (oE (by repeat constructor))) (aJ c1 hr (aq (pv 0) (aq aA aj)))) aj)))) (aq (aJ c1 hr (aq (pv 0) (aq aA aj))) aj)) O⟩ (bQ ⟨aV (zV (pO (fD ⟨aJ c1 hr (aq (pv 0) (aq aA aj))⟩ (fD ⟨aJ c1 hr (aq (pv 0) (aq aA aj))⟩ (fD ⟨pv 2⟩ (fD ⟨pv 3⟩ (fD ⟨pv 4⟩ (fD ⟨pv 5⟩ fK))))))))⟩)))) ?_;have g0:Dr st H H:=Dr.refl iF;show`e;apply aQ;show⟨_,O,_,O,_,_,O,O,st,_,O,iF,À,À,λr1 a1 b1 wc r10 r11 k1 k2 k3=>⟨_,_,O,?_⟩⟩;have g1:=g0.draw (c:=wc) k1 k2 k3;obtain⟨fi,Wm,Wn,fi1⟩:∃fi:Int,fi=(if r1<19 then r1 else 19)/\0<=fi/\fi<=19:=⟨_,O,by split<;>lia,by split<;>lia⟩;rw[<-Wm];generalize upd H st (.lst [.int a1,.int b1,.int wc])=H1 at g1⊢;apply aD;apply ab
 show`e;apply aQ;show⟨_,O,_,O,st,4,O,g1.sa,by decide,by decide,λr2 a2 b2 c2 Wo r21 k4 k5 k6=>⟨_,O,st,20,O,(g1.draw k4 k5 k6).sa,by decide,by decide,λr3 a3 b3 c3 Wq Wr k7 k8 k9=>⟨zL,λp hp=>?_⟩⟩⟩;have g3:=(g1.draw (c:=c2) k4 k5 k6).draw (c:=c3) k7 k8 k9;have np:=g3.ne hp;have g4:=g3.new (o:=.lst [V.int 0,V.int r2,V.int r3]) hp;have ep:upd (upd (upd H1 st (.lst [.int a2,.int b2,.int c2])) st (.lst [.int a3,.int b3,.int c3])) p (.lst [V.int 0,V.int r2,V.int r3]) p=some (.lst [V.int 0,V.int r2,V.int r3]):=aa;generalize upd (upd (upd H1 st (.lst [.int a2,.int b2,.int c2])) st (.lst [.int a3,.int b3,.int c3])) p (.lst [V.int 0,V.int r2,V.int r3])=H2 at g4 ep⊢;show⟨_,O,st,3,O,g4.sa,by decide,by decide,λr4 a4 b4 c4 r40 r41 k1 k2 k3=>?_⟩;obtain⟨d,hd,d0,d1⟩:∃d:Int,ς [V.int 0,V.int r2,V.int r3] r4=some (.int d)/\0<=d/\d<20:=by
  have:r4=0\/r4=1\/r4=2:=À;rcases this with rfl|rfl|rfl;.exact⟨_,O,by decide,by decide⟩
  .exact⟨_,O,Wo,À⟩
  .exact⟨_,O,Wq,Wr⟩
 show⟨p,_,r4,.int d,O,O,Ë.of (by rw[au np];show ep),hd,_,_,O,O,_,_,O,?_⟩;have g5:=g4.draw (c:=c4) k1 k2 k3;obtain⟨la,HM,Ws,E4⟩:∃la:Int,la=(if fi+d<19 then fi+d else 19)/\fi<=la/\la<=19:=⟨_,O,by split<;>lia,by split<;>lia⟩;rw[<-HM];clear ep np g3;generalize upd H2 st (.lst [.int a4,.int b4,.int c4])=H3 at g5⊢;apply aD;apply ab
 show`e;show⟨_,O,zL,λp2 lT=>?_⟩;have Wt:=g5.ne lT;have g6:=g5.new (o:=.lst (([4,12,99]:VV).map V.int)) lT;have D3:upd H3 p2 (.lst (([4,12,99]:VV).map V.int)) p2=some (.lst (([4,12,99]:VV).map V.int)):=aa;generalize upd H3 p2 (.lst (([4,12,99]:VV).map V.int))=H4 at g6 D3⊢;show⟨_,O,st,3,O,g6.sa,by decide,by decide,λr5 a5 b5 c5 r50 r51 k4 k5 k6=>?_⟩;obtain⟨wd,hw,w1,w2⟩:∃wd:Int,ς (([4,12,99]:VV).map V.int) r5=some (.int wd)/\1<=wd/\wd<=99:=by
  have:r5=0\/r5=1\/r5=2:=À;rcases this with rfl|rfl|rfl;.exact⟨4,O,by decide,by decide⟩
  .exact⟨12,O,by decide,by decide⟩
  .exact⟨99,O,by decide,by decide⟩
 have g7:=g6.draw (c:=c5) k4 k5 k6;show⟨p2,_,r5,.int wd,O,O,Ë.of (by rw[au Wt];show D3),hw,st,wd,O,g7.sa,w1,À,λr6 a6 b6 c6 r60 r61 k7 k8 k9=>⟨_,_,O,O,?_⟩⟩;have g8:=g7.draw (c:=c6) k7 k8 k9;generalize upd (upd H4 st (.lst [.int a5,.int b5,.int c5])) st (.lst [.int a6,.int b6,.int c6])=H5 at g8⊢;show⟨_,O,st,500,O,g8.sa,by decide,by decide,λr7 a7 b7 c7 Wu r71 k1 k2 k3=>⟨_,_,O,?_⟩⟩;have g9:=g8.draw (c:=c7) k1 k2 k3;generalize upd H5 st (.lst [.int a7,.int b7,.int c7])=H6 at g9⊢;apply ab
 apply jM;show⟨_,O,st,8,O,g9.sa,by decide,by decide,λr8 a8 b8 c8 Wv Ww k4 k5 k6=>⟨_,O,st,3,O,(g9.draw k4 k5 k6).sa,by decide,by decide,λr9 a9 b9 c9 Wx Wy k7 k8 k9=>⟨_,O,_,O,_,O,_,O,zL,λt ht=>?_⟩⟩⟩;have ga:=((g9.draw (c:=c8) k4 k5 k6).draw (c:=c9) k7 k8 k9).new (o:=.tup [V.int r8,V.int r9,V.int fi,V.int la,V.int (1+r6),V.int r7]) ht;show q t [r8,r9,fi,la,1+r6,r7] _ ga aa ⟨O,⟨Wv,Ww⟩,⟨Wx,Wy⟩,⟨Wn,Ws,E4⟩,⟨by show 1<=1+r6;lia,by show 1+r6<=99;lia⟩,⟨Wu,by show r7<=1000000;lia⟩⟩
theorem scS:Å [ī,ł,AAk,AAo,Ϲ,"_law_first","_law_last",υ,"_law_price","_law_seller",ū] [ī,ł] (aG (top 69)):=ċ
theorem ok_sale(F:ü K "_law_sale" "_law_sale" (top 69) f fd)(T:K60.Mg mg)(Tm:mg "max"=none)(c1:í P w K mg base 1 AAr [ī,AAp] jh):Ú P w K mg base ù 2 f fd [ī,ł] Hv:=by
 show F.oq scS `b;obtain⟨st,ap,xp,ps,rfl,iF,rp,lp,okp,q⟩:=h;show⟨_,aB (Ĝ 2 scS.nd (aJ c1 hr (aq (pv 0) (aq (aM (jl O) O Tm mX (aq aA (aq (aM cj O T.len PySem.boot_len (aq (pv 1) aj)) aj))) aj)))) (aB (cM (bj (CJ (K60.room_un hr)) (pv 1) (zU fK) (bx _)) (aC (aV (bh (oE (by repeat constructor))))) bz) (aB (cP (pX bT (pv 1) (pv 2)) (bF O (ao (Ó 3 scS.nd) (ao (Ó 4 scS.nd) (ao (Ó 5 scS.nd) (ao (Ó 6 scS.nd) (ao (Ó 7 scS.nd) (ao (Ó 8 scS.nd) aR)))))))) (aB (Ĝ 9 scS.nd (pX cD (dC (aq (pv 3) (aq (pv 3) (aq (aJ c1 hr (aq (pv 0) (aq aA aj))) aj)))) (aJ c1 hr (aq (pv 0) (aq aA aj))))) (aB (Ĝ 10 scS.nd (aU cA (pv 5) (aJ c1 hr (aq (pv 0) (aq (aU cA (aU eQ (pv 6) (pv 5)) aA) aj))))) (aC (aV (zV (pO (fD ⟨pv 2⟩ (fD ⟨pv 9⟩ (fD ⟨aJ c1 hr (aq (pv 0) (aq aA aj))⟩ (fD ⟨aU cA aA (aJ c1 hr (aq (pv 0) (aq (pv 7) aj)))⟩ (fD ⟨pv 10⟩ fK))))))))))))),?_⟩;have g0:Dr st H H:=Dr.refl iF;have hxl:xp.length<=10:=by rw[rp.l];show lp
 show`e;apply aQ;show⟨_,O,_,O,ap,xp,O,.inr (Ñ.of rp.e),_,_,O,st,_,O,iF,?_,?_,λr1 a1 b1 wc r0 rn k1 k2 k3=>?_⟩;.split<;>lia
 .split<;>lia
 have g1:=g0.draw (c:=wc) k1 k2 k3;have HZ:=g1.rows iF rp;generalize upd H st (.lst [.int a1,.int b1,.int wc])=H1 at g1 HZ⊢;apply aD;apply ab
 show`e;show⟨_,O,zL,λe0 BO=>?_⟩;have g2:=g1.new (o:=.tup []) BO;have m2:=Â.upd (o:=.tup []) BO;have SS:upd H1 e0 (.tup []) e0=some (.tup []):=aa;have Ic:=HZ.same m2;generalize upd H1 e0 (.tup [])=H2 at g2 m2 SS Ic⊢;show⟨ap,e0,xp,O,O,Ñ.of Ic.e,Ñ.of SS,_,O,J3 (λhb=>?_) λhb=>?_⟩;.refine⟨zL,λt ht=>?_⟩;show q t [0,0,1,1,0] _ (g2.new ht) aa ⟨O,by decide⟩
 have px:0<xp.length:=by cases xp with|nil=>exact absurd O hb;|cons a l=>show Nat.succ_pos _
 have rn2:r1.toNat<xp.length:=by split at rn<;>lia
 apply ab
 show`e;obtain⟨p,hp,_,op⟩:=K60.prom_ok (n:=r1) okp r0 (by rw[<-rp.l];lia);obtain⟨tp,nV,iS⟩:=K60.rows_at Ic r0 hp;rw[K60.six_row op.1]at iS;obtain⟨_,⟨p1,p2⟩,_,⟨p3,p4,p5⟩,⟨p6,p7⟩,_⟩:=id op;show⟨_,O,_,O,ap,_,r1,.ref tp,O,O,Ñ.of Ic.e,nV,?_⟩;show⟨tp,_,O,Ñ.of iS,O,_,_,O,_,_,O,_,_,O,_,_,O,_,_,O,_,_,O,O,?_⟩;apply ab
 show`e;apply aQ;show⟨_,O,_,O,_,O,st,8,O,g2.sa,by decide,by decide,λr2 a2 b2 c2 i0 i1 k4 k5 k6=>⟨zL,λl1 fI=>?_⟩⟩;have g4:=(g2.draw (c:=c2) k4 k5 k6).new (o:=.lst [V.int (K60.fl p 0),V.int (K60.fl p 0),V.int r2]) fI;have n4:=(g2.draw k4 k5 k6).ne fI;show⟨_,O,st,3,O,g4.sa,by decide,by decide,λr3 a3 b3 c3 i2 i3 k7 k8 k9=>?_⟩;obtain⟨sl,Wz,sl1,xi⟩:∃sl:Int,ς [V.int (K60.fl p 0),V.int (K60.fl p 0),V.int r2] r3=some (.int sl)/\0<=sl/\sl<8:=by
  have:r3=0\/r3=1\/r3=2:=À;rcases this with rfl|rfl|rfl;.exact⟨_,O,p1,p2⟩
  .exact⟨_,O,p1,p2⟩
  .exact⟨_,O,i0,i1⟩
 have g5:=g4.draw (c:=c3) k7 k8 k9;show⟨l1,_,r3,.int sl,O,O,Ë.of (by rw[au n4];show aa),Wz,?_⟩;apply aD;apply ab
 show`e;apply aQ;show⟨_,O,_,O,_,O,_,O,_,_,O,O,_,_,O,O,st,_,O,g5.sa,À,À,λr5 a5 b5 c5 i6 i7 m4 m5 m6=>⟨_,_,O,O,?_⟩⟩;have g7:=g5.draw (c:=c5) m4 m5 m6;apply aD;apply ab
 show⟨_,O,_,O,_,O,st,8,O,g7.sa,by decide,by decide,λr4 a4 b4 c4 i4 i5 m1 SU m3=>⟨_,O,_,O,st,_,O,(g7.draw m1 SU m3).sa,p6,À,λr6 a6 b6 c6 i8 i9 m7 m8 m9=>⟨_,_,O,O,_,O,zL,λt ht=>?_⟩⟩⟩;have g8:=(g7.draw (c:=c4) m1 SU m3).draw (c:=c6) m7 m8 m9;show q t [r1,sl,r4,1+r6,K60.fl p 2+r5] _ (g8.new ht) aa ⟨O,λi hi=>?_⟩;simp only[List.mem_cons,List.not_mem_nil,or_false]at hi;lia
end
theorem op_catU:Ī X (binaryOp .Add) (λx y H Q=>Xe4 λa b xs ys=>Xa7 (x=.ref a) (y=.ref b) (H a=some (.tup xs)) (H b=some (.tup ys)) (ys≠[]) (xs.length+ys.length<=sizeLine) (∀c H',Â H H'->H' c=some (.tup (xs++ys))->Q (.ref c) H')):=by intro Á s σ H x y v u Q I rx ry h;obtain⟨a,b,xs,ys,rfl,rfl,ha,hb,hy,hz,q⟩:=h;show Ew Á s σ H _ _ v u Q I rx ry ⟨a,b,xs,ys,O,O,Ñ.of ha,Ñ.of hb,hy,hz,λe=>q b H (Â.refl H) (by rw[e];show hb),λ_ p hp=>q p _ (Â.upd hp) aa⟩
theorem rows_snoc{rs:UV}{r:VV}(h:K60.RowsAt H a xs rs)(et:H t=some (.tup (r.map V.int)))(eb:H b=some (.tup (xs++[V.ref t]))):K60.RowsAt H b (xs++[V.ref t]) (rs++[r]):=by
 show⟨eb,by rw[à,à,h.l];rfl,λi r' e=>?_⟩;by_cases hi:i<rs.length;.rw[ŭ hi]at e;rw[ŭ (by rw[h.l];show hi)];show h.g i r' e
 .rw[Ů À]at e;rw[Ů (by rw[h.l];lia),h.l];cases hj:i-rs.length with|zero=>rw[hj]at e;injection e with e;subst e;exact⟨t,O,et⟩;|succ k=>rw[hj]at e;simp at e
theorem Hw(h:decide (K60.unV u=.non)=true):u=none:=by have:=ŕ h;cases u with|none=>rfl;|some n=>cases this
theorem rT(hK:X.K=K):cZ X (.builtin "len") (λxs H Q=>∃p ys,xs=[.ref p]/\(Ë K H p ys\/Ñ K H p ys)/\Q (.int ys.length) H):=by subst hK;show cj
section
theorem ndB:(["_law_turn",ī,Ϻ]:Đ).Nodup:=`j
theorem scB:Å [ī,AAg,AAn,Ϻ,ł,Ω,"_law_turn","_law_sale_here"] [ī,AAg,AAn] (aG (top 70)):=ċ
theorem ok_book(F:ü K "_law_book" "_law_book" (top 70) f fd)(T:Mg mg)(Tr:mg "range"=none)(Tl:mg "len"=none)(c1:í P w K mg base 1 AAr [ī,AAp] jh)(c2:í P w K mg base 2 "_law_clips" [ī,AAn] Bu)(c3:í P w K mg base 2 AAu [ī,AAg] spProm)(c4:í P w K mg base 2 "_law_sale" [ī,ł] Hv)(c5:í P w K mg base 1 "_law_rows" [ł,Ω] K60.spRows):Ú P w K mg base ù 3 f fd [ī,AAg,AAn] spBook:=by
 show F.oq scB `b;obtain⟨st,y,m,rfl,iF,y1,y2,m1,m2,q⟩:=h;show⟨_,aB (lZ (i:=3) scB.nd O (Or.inr O) (aJ c2 hr (aq (pv 0) (aq (pv 1) aj)))) (aB (Ĝ 4 scB.nd (bK cz O T.tuple å (aq (bI ["_law_turn",ī,Ϻ] [none,some 0,some 3] O (cH O Tr (aq (aJ c1 hr (aq (pv 0) (aq (aU cA (pv 2) aA) aj))) aj)) (λC fp Á s₂ Í=>⟨Ó 0 ndB,bD,aJ c3 hr (aq (pv 1) (aq (aM (rT (K:=K) O) O Tl PySem.boot_len (aq (pv 2) aj)) aj))⟩) (λC=>cI (cI trivial)) ⟨O,O,O,O⟩) aj))) (aB (Ĝ 5 scB.nd (zU fK)) (aB (bR Ń O (cH O Tr (aq (aJ c1 hr (aq (pv 0) (aq aA aj))) aj)) (Ó 6 scB.nd) (aB (Ĝ 7 scB.nd (aJ c4 hr (aq (pv 0) (aq (pv 4) aj)))) (aC (cM (bj Ei (pX bT (aJ c5 hr (aq (pv 4) (aq (aU op_catU (pv 5) (bh (aq (pv 7) aj))) aj))) aA) oV (bx _)) (aC (Ĝ 5 scB.nd (aU op_catU (pv 5) (bh (aq (pv 7) aj))))) bz)))) (aC (aV (bh (aq (pv 3) (aq (pv 4) (aq (pv 5) aj)))))))))  ,?_⟩;show`e;apply aQ;show⟨_,O,_,O,st,y,O,iF,y1,y2,λac xc cs H1 d1 rc we SV okc=>?_⟩;apply aD;apply ab
 show aW (aQ ?_);show⟨_,O,_,O,_,_,O,O,st,m+1,O,d1.sa,À,À,λr a1 b1 wc k0 kn k1 k2 k3=>⟨r,O,À,À,?_⟩⟩;have d2:=(Dr.refl d1.sa).draw (c:=wc) k1 k2 k3;have Iq:=d2.rows d1.sa rc;have NM:=d1.trans d2;generalize upd H1 st (.lst [.int a1,.int b1,.int wc])=H2 at d2 NM Iq⊢;have lz:r.toNat<sizeLine:=by rw[sizeLine_eq];lia
 show comp_gen r.toNat (λi ys σ Hc=>Dr st H2 Hc/\(∃o,σ=[o,some (.ref st),some (.ref ac)])/\∃rows:UV,rows.length=i/\(∀r∈rows,K60.okP r)/\Ð (λ_=>False) Hc ys (rows.map K60.rowD)) ⟨Dr.refl d2.sa,`i,[],O,λ_ h=>(List.not_mem_nil h).elim,.nil⟩ lz ?_ ?_
 .rintro i ys σ Hc hi hy⟨g4,⟨o,rfl⟩,rows,kF,E2,it⟩;show⟨hi,λv H' y R hR=>?_⟩;obtain⟨eH,rfl⟩:=y;subst H';apply aD;have WC:=g4.rows d2.sa Iq;have:=rc.l;show⟨_,O,_,O,ac,xc,O,.inr (Ñ.of WC.e),st,_,O,g4.sa,À,À,λt SW H5 d5 et WG=>hR _ _ _ ⟨g4.trans d5,`i,rows++[SW],by rw[à,kF];rfl,λx hx=>?_,?_⟩⟩
  .rcases è.mp hx with z|z;.exact E2 x z
   .rw[ĸ.mp z];show WG
  .rw[é];show(d5.ths g4.sa it).append (.cons (.tup et (Ð.ints SW)) .nil)
 rintro ys σ Hc hy⟨g4,_,ps,lps,okp,it⟩;show⟨Ø _,λD hD=>⟨D,_,O,.inl ⟨Ë.of aa,λt ht=>?_⟩⟩⟩;have s6:=(Â.upd (o:=.lst ys) hD).updR (o:=.tup ys) ht;obtain⟨ap,xp,ev,rp⟩:=K60.th_rows (rs:=ps) (.tup aa (it.same s6));cases ev;have SX:=(g4.rows d2.sa Iq).same s6;have SY:=(NM.trans g4).same s6;generalize upd (upd Hc D (.lst ys)) t (.tup ys)=H3 at rp SX SY⊢;clear Iq d2 g4 it s6 ht hD NM rc d1;apply aD;dsimp only;show`e;apply aQ;show⟨zL,λe0 BO=>?_⟩;have d6:=SY.new (o:=.tup []) BO;have r6:K60.RowsAt (upd H3 e0 (.tup [])) e0 [] []:=⟨aa,O,λi r e=>by simp at e⟩;have S5:=rp.same (Â.upd (o:=.tup []) BO);have E5:=SX.same (Â.upd (o:=.tup []) BO);generalize upd H3 e0 (.tup [])=H4 at d6 r6 S5 E5⊢;apply aD;apply ab
 apply aW;show⟨_,O,st,7,O,d6.sa,by decide,by decide,λr2 a2 b2 S8 q0 qn q1 q2 q3=>⟨r2,O,À,À,?_⟩⟩;have d7:=(Dr.refl d6.sa).draw (c:=S8) q1 q2 q3;have S9:=d7.rows d6.sa S5;have Ta:=d7.rows d6.sa E5;have r7:=d7.rows d6.sa r6;have Tf:=d6.trans d7;generalize upd H4 st (.lst [.int a2,.int b2,.int S8])=H5 at Tf S9 Ta r7⊢;show dh (lo:=0) (n:=r2.toNat) (λi σ Hc=>Xe5 λa xs ss x6 x7=>Xa8 (σ=[some (.ref st),some (.int y),some (.int m),some (.ref ac),some (.ref t),some (.ref a),x6,x7]) (Dr st H Hc) (K60.RowsAt Hc ac xc cs) (K60.RowsAt Hc t xp ps) (K60.RowsAt Hc a xs ss) (ss.length<=i) ((∀s∈ss,smR s)) (K60.un ps ss=none)) ?_ ?_ ?_;.exact⟨e0,[],[],none,none,O,Tf,Ta,S9,r7,Ø _,(λ_ h=>nomatch h),O⟩
 .rintro i σ Hc hi⟨a,xs,ss,x6,x7,rfl,g,rcc,Iy,NN,ls,fN,qB⟩;apply aD;show`e;apply aQ;show⟨_,O,_,O,st,t,xp,ps,O,g.sa,Iy,À,okp,λt' s' H6 d8 et sm=>?_⟩;have Tg:=d8.rows g.sa rcc;have NO:=d8.rows g.sa Iy;have BQ:=d8.rows g.sa NN;have gd:=g.trans d8;apply aD;apply ab
  have Th:∀s∈ss++[s'],smR s:=λs hs=>by
   rcases è.mp hs with z|z;.exact fN s z
   .rw[ĸ.mp z];show sm
  have l5:(ss++[s']).length<=i+1:=by rw[à];show ss.length+1<=_;lia
  have EA:=BQ.l;show⟨_,O,_,O,_,O,zL,λt1 tf=>?_⟩;have m4:=Â.upd (o:=.tup [V.ref t']) tf;show⟨a,t1,xs,_,O,O,m4 _ _ BQ.e,aa,by simp,by rw[EA,sizeLine_eq];show _+1<=_;lia,λc H7 s7 ec=>?_⟩;have WH:=rows_snoc ((BQ.same m4).same s7) (s7 _ _ (m4 _ _ et)) ec;show⟨t,xp,ps,c,_,ss++[s'],O,(NO.same m4).same s7,À,okp,WH,À,λs hs=>(Th s hs).1,λtt fo H8 s8 IA _=>?_⟩;have BU:=(m4.trans s7).trans s8;show⟨tt,_,1,K60.unV (K60.un ps (ss++[s'])),O,O,Ñ.of IA,O,O,_,O,J3 (λhb=>?_) λ_=>?_⟩;.apply aQ;show⟨_,O,_,O,zL,λt2 MU=>?_⟩;have m9:=Â.upd (o:=.tup [V.ref t']) MU;show⟨a,t2,xs,_,O,O,m9 _ _ (BU _ _ BQ.e),aa,by simp,by rw[EA,sizeLine_eq];show _+1<=_;lia,λc' H9 s9 WI=>?_⟩;have E6:=(BU.trans m9).trans s9;show⟨c',_,ss++[s'],_,_,O,gd.same E6,Tg.same E6,NO.same E6,rows_snoc (BQ.same E6) (E6 _ _ et) WI,l5,Th,Hw hb⟩
  .exact⟨a,xs,ss,_,_,O,gd.same BU,Tg.same BU,NO.same BU,BQ.same BU,À,fN,qB⟩
 .rintro σ Hc⟨a,xs,ss,x6,x7,rfl,g,rcc,Iy,NN,ls,fN,qB⟩;show⟨_,O,_,O,_,O,zL,λb hb=>?_⟩;have mb:=Â.upd (o:=.tup [V.ref ac,V.ref t,V.ref a]) hb;show q b ac xc cs t xp ps a xs ss _ (g.new hb) aa (rcc.same mb) we SV okc (Iy.same mb) À okp (NN.same mb) À fN qB
end
theorem qO{ws:VV}{Fin:List V->Hp->Prop}(f:Int->Int)(ep:H0 p=some (.lst (ws.map V.int)))(hl:ws.length<sizeLine)(mS:∀z Q,z∈ws->Q (.int (f z)) H0->te (cy.set 0 (some (.int z))) H0 Q)(fin:Fin ((ws.map f).map V.int) H0):km (Itl K p) (bu 0) qZ te Fin cy H0:=by
 show comp_gen ws.length (λi ys σ H=>H=H0/\(∀o,σ.set 0 o=cy.set 0 o)/\ys=((ws.take i).map f).map V.int) ⟨O,λ_=>rfl,O⟩ hl ?_ ?_
 .rintro i ys σ H hi hy⟨rfl,iA,rfl⟩;have hz:(ws.map V.int)[i]?=some (.int ws[i]):=by rw[ì,Ô hi];rfl
  show⟨⟨_,_,Ë.of ep,hz⟩,λv H' y' R hR=>?_⟩;obtain⟨rfl,y'⟩:=y';have hv:=y' _ (Ë.of ep);rw[hz]at hv;cases hv;show te (σ.set 0 (some (.int ws[i]))) _ _;rw[iA];show mS ws[i] _ (ĕ hi) (hR _ _ _ ⟨O,λo=>by rw[List.set_set],?_⟩);rw[ġ,Ô hi,é,é];rfl
 .rintro ys σ H hy⟨rfl,iA,rfl⟩;show⟨⟨_,Ë.of ep,by rw[Ï];show Ø _⟩,?_⟩;rw[Ņ];show fin
inductive ŧ(vs:List V)(H:Hp)(Q:VK):Prop|mk:∀n p ws,(vs=[.int n,.ref p])->(H p=some (.lst (ws.map V.int)))->(OkW ws)->(0<=n)->(n<=ws.sum)->(∀H' q,Â H H'->H' q=some (.tup ((res n ws).map V.int))->Q (.ref q) H')->ŧ  vs H Q
def spLParts:Sp:=λvs H Q _=>ŧ  vs H Q
section
theorem Pq:([Ū,υ,"_law_whole"]:Đ).Nodup:=`j
theorem ϣ:Å [υ,AAv,"_law_whole","_law_parts","_law_rests","_law_turn","_law_at"] [υ,AAv] (aG (top 62)):=ċ
theorem ok_lparted(F:ü K "_law_parted" "_law_parted" (top 62) f fd)(T:Mg mg)(Ts:mg "sum"=none)(Tr:mg "range"=none)(Tm:mg "max"=none):Ú P w K mg base ù 1 f fd [υ,AAv] spLParts:=by
 show F.oq ϣ `b;obtain⟨n,p,ws,rfl,ep,ok,n0,n1,q⟩:=h;show⟨_,aB (lZ (i:=2) ϣ.nd O (Or.inr O) (aM (cY O) O Ts ö (aq (pv 1) aj))) (aB (gG (i:=3) [Ū,υ,"_law_whole"] [none,some 0,some 2] O ϣ.nd O (Or.inl O) (bO (pv 1)) (λC fp Á s₂ Í=>⟨Ó 0 Pq,bD,aU nZ (aU gM (pv 1) (pv 0)) (pv 2)⟩) (λC=>cI (cI trivial)) ⟨O,O,O,O⟩) (aB (gG (i:=4) [Ū,υ,"_law_whole"] [none,some 0,some 2] O ϣ.nd O (Or.inl O) (bO (pv 1)) (λC fp Á s₂ Í=>⟨Ó 0 Pq,bD,aU iZ (aU gM (pv 1) (pv 0)) (pv 2)⟩) (λC=>cI (cI trivial)) ⟨O,O,O,O⟩) (aB (bR Ń O (cH O Tr (aq (aU eQ (pv 0) (aM (cY O) O Ts ö (aq (pv 3) aj))) aj)) (Ó 5 ϣ.nd) (aB (Ĝ 6 ϣ.nd (jB zBe PySem.F.slot_list_index PySem.F.type_list_index Fi (pv 4) (aq (aM (rK O) O Tm mX (aq (pv 4) aj)) aj))) (aC (cP (bh (aq (aU cA (pX cD (pv 3) (pv 6)) aA) (aq (K9 Eg aA) aj))) (bF O (ao (iy (pv 3) (pv 6) ê) (ao (iy (pv 4) (pv 6) ê) aR))))))) (aC (aV (bK cz O T.tuple å (aq (pv 3) aj))))))),?_⟩;have hp:=ok.pos;have ht:=ok.top;have vw:=Gy ok;show`e;show⟨_,O,p,ws,O,.inl (Ë.of ep),?_⟩;apply ab
 show`e;show⟨_,O,p,O,⟨_,Ë.of ep⟩,qO (λz=>n*z/ws.sum) ep vw (λz Q hz h=>⟨_,O,_,O,_,_,O,O,.inl ⟨À,À⟩,_,O,_,_,O,O,⟨À,À⟩,h⟩) ?_⟩;rw[show ws.map (λz=>n*z/ws.sum)=fs n ws from O];intro l1 fI;have s1:=Â.upd (o:=.lst ((fs n ws).map V.int)) fI;have ĝ:=aa (H:=H) (a:=l1) (o:=.lst ((fs n ws).map V.int));generalize upd H l1 _=H1 at s1 ĝ⊢;apply ab
 show`e;show⟨_,O,p,O,⟨_,Ë.of (s1 _ _ ep)⟩,qO (λz=>n*z%ws.sum) (s1 _ _ ep) vw (λz Q hz h=>⟨_,O,_,O,_,_,O,O,.inl ⟨À,À⟩,_,O,_,_,O,O,(by show 0<ws.sum;lia),h⟩) ?_⟩;rw[show ws.map (λz=>n*z%ws.sum)=rs n ws from O];intro l2 gu;have s2:=s1.updR (o:=.lst ((rs n ws).map V.int)) gu;have Č:=aa (H:=H1) (a:=l2) (o:=.lst ((rs n ws).map V.int));have gp:=Â.upd (o:=.lst ((rs n ws).map V.int)) gu _ _ ĝ;have Bn:H l1=none:=fI;have WJ:H l2=none:=s1.free gu;have Ti:l1≠l2:=λz=>by rw[<-z,ĝ]at gu;cases gu
 clear fI gu;generalize upd H1 l2 _=H2 at s2 Č gp⊢;clear ĝ s1;apply ab
 have VA:=Bm (n:=n) ok;have VB:=Gw (n:=n) ok;have l80:=ok.2.1;apply aW;show⟨_,O,_,O,l1,fs n ws,O,.inl (Ë.of gp),_,_,O,O,lf n ws,O,À,À,?_⟩;obtain⟨pl,ord⟩:=iK (rs n ws);have fin:=Gx ord;have MM:=ord.len;rw[gO]at MM;have HC:=Km (n:=n) ok;show dh (lo:=0) (λi σ Hc=>∃o5 o6,σ=[some (.int n),some (.ref p),some (.int ws.sum),some (.ref l1),some (.ref l2),o5,o6]/\Â H Hc/\Hc l1=some (.lst ((cQ (fs n ws) (pl.take i)).map V.int))/\Hc l2=some (.lst ((fQ (rs n ws) (pl.take i)).map V.int))) ?_ ?_ ?_;.exact⟨none,none,O,s2,gp,Č⟩
 .rintro i σ Hc hi⟨o5,o6,rfl,s5,e1,e2⟩;have IB:i<pl.length:=À;have hj:=ord.lt _ (ĕ IB);rw[gO]at hj;apply aD;show`e;show⟨_,O,.inl ⟨O,_,Ë.of e2⟩,_,O,l2,_,O,Ë.of e2,λc=>?_,λM hM gi=>?_⟩;.have:=congrArg List.length c;rw[ju,gO,Zbu]at this;have:=ok.1;lia
  obtain⟨WK,WL⟩:=pick ord HC IB hM gi;show⟨l2,_,M,pl[i],O,O,e2,WK,WL,?_⟩;apply ab
  have ax:pl[i]<(cQ (fs n ws) (pl.take i)).length:=by rw[jt,qJ];show hj
  have nr:pl[i]<(fQ (rs n ws) (pl.take i)).length:=by rw[ju,gO];show hj
  have hx:((cQ (fs n ws) (pl.take i)).map V.int)[pl[i]]?=some (.int ((cQ (fs n ws) (pl.take i)).getD pl[i] 0)):=by rw[ì,Ô ax,ě,Ô ax];rfl
  show⟨_,O,_,O,l1,_,(pl[i]:Int),_,O,O,Ë.of e1,dZ hx,_,_,O,O,_,O,zL,λt1 tf=>?_⟩;have s6:=s5.updR (o:=.tup [.int ((cQ (fs n ws) (pl.take i)).getD pl[i] 0+1),.int (-1)]) tf;have m6:=Â.upd (o:=.tup [.int ((cQ (fs n ws) (pl.take i)).getD pl[i] 0+1),.int (-1)]) tf;show⟨t1,_,O,Ñ.of aa,O,?_⟩;have Tj:=m6 _ _ e1;have Tq:=m6 _ _ e2;generalize upd Hc t1 _=H6 at s6 Tj Tq⊢;show⟨_,_,O,_,O,_,O,l1,_,(pl[i]:Int),pl[i],O,O,Tj,vp (by rw[Ï];show ax),?_⟩;show⟨_,_,O,_,O,_,O,l2,_,(pl[i]:Int),pl[i],O,O,by rw[au Ti.symm];show Tq,vp (by rw[Ï];show nr),O,?_⟩;show⟨_,_,O,?_,?_,?_⟩;.intro b u e;rw[au (az e WJ),au (az e Bn)];show s6 _ _ e
  .rw[au Ti,aa,ġ,Ô IB];show _=some (HO.lst ((cQ (fs n ws) (pl.take i++[pl[i]])).map V.int));rw[qI,List.map_set]
  .rw[aa,ġ,Ô IB];show _=some (HO.lst ((fQ (rs n ws) (pl.take i++[pl[i]])).map V.int));rw[yQ,List.map_set]
 .rintro σ Hc⟨o5,o6,rfl,s5,e1,e2⟩;rw[fin]at e1;dsimp only;apply jM;show⟨_,O,l1,_,O,.inl ⟨Ë.of e1,λt ht=>q _ t (s5.updR ht) aa⟩⟩
end
end K60Q
namespace K60
open PySem L2
inductive ő(vs:List V)(H:Hp)(Q:VK):Prop|mk:∀ap xp ps fo H0 Ä ss sort year,(vs=[.ref ap,.ref fo,.int year,.int sort])->(RowsAt H ap xp ps)->(ps.length<=10)->((∀r∈ps,okP r))->(Ķ fo H0 H (ų ps) (hl ps ss) Ä)->(∀l xl H',Â H H'->H' l=some (.lst xl)->ß H' xl ((aK ps ss sort year).map List.tail)->Q (.ref l) H')->ő  vs H Q
def ug:Sp:=λvs H Q _=>ő  vs H Q
theorem Dq(ps ss:UV)(sort year:Int)(i:Nat):((gP ps ss sort year i).map List.tail).length<=8*i:=by rw[Ï];show lO ps ss sort year i
theorem yX(i:Nat):dN (List.replicate 8 0) i=[]:=by unfold dN;rw[Zb1.mpr,List.map_nil];intro a _;rw[Ĥ,ě,List.getElem?_replicate];split<;>simp
variable{P:Program}
theorem QC:([AAo,AAk,"_law_row"]:Đ).Nodup:=`j
theorem Ϥ:Å [ł,AAj,ū,Ϲ,AAm,AAk,"_law_promise_here","_law_row"] [ł,AAj,ū,Ϲ] (aG (top 64)):=ċ
theorem yZ(F:ü K "_law_claims" "_law_claims" (top 64) f fd)(Te:mg "enumerate"=none)(Tr:mg "range"=none):Ú P w K mg base ù 1 f fd [ł,AAj,ū,Ϲ] ug:=by
 show F.oq Ϥ `b;obtain⟨ap,xp,ps,fo,H0,Ä,ss,sort,year,rfl,rp,lp,okp,dt,q⟩:=h;show⟨_,aB (Ĝ 4 Ϥ.nd (dC aj)) (aB (bR Ń O (ZT.pi_enum true O Te (aq (pv 0) aj)) (bF O (ao (bw (i:=5) Ϥ.nd O (Or.inr O)) (ao (Ó 6 Ϥ.nd) aR))) (aC (cM (PW.pt (ur (bj jV (pX bT (pv 6) aA) (pv 3) (bx _)) (nY (Eb (Lr (dG hr) (bh (aq (pv 5) (aq (pv 2) aj))) (pv 1)))))) (aB (lZ (i:=7) Ϥ.nd O (Or.inr O) (fc (dG hr) (pv 1) (bh (aq (pv 5) (aq (pv 2) aj))) (λ_ _=>rfl))) (aC (Ĝ 4 Ϥ.nd (aU uz (pv 4) (bI [AAo,AAk,"_law_row"] [none,some 5,some 7] O (cH O Tr (aq aA aj)) (λC fp Á s₂ Í=>⟨Ó 0 QC,gF (bj jW (pX (lJ (K:=K) O) (pv 2) (pv 0)) aA (bx _)),bh (aq (pv 1) (aq (pv 0) (aq (pX (lJ (K:=K) O) (pv 2) (pv 0)) aj)))⟩) (λC=>cI (cI trivial)) ⟨O,O,O,O⟩))))) bz))) (aC (aV (pv 4)))),?_⟩;show aW (aQ ?_);show⟨zL,λl G0=>?_⟩;apply aD;dsimp only;apply aW;have s0:=Â.upd (o:=.lst []) G0;show⟨_,O,ap,xp,O,Ñ.of (s0 _ _ rp.e),?_⟩;show ZT.for_enum true (xs:=xp) (λi σ Hc=>Xe5 λl x5 x6 x7 xl=>Xa4 (σ=[some (.ref ap),some (.ref fo),some (.int year),some (.int sort),some (.ref l),x5,x6,x7]) (Â H Hc) (Hc l=some (.lst xl)) (ß Hc xl ((gP ps ss sort year i).map List.tail))) ?_ ?_ ?_ ?_;.exact⟨l,none,none,none,[],O,s0,aa,ß.nil⟩
 .rintro i σ Hc hi⟨l,x5,x6,x7,xl,rfl,k,el,ht⟩;show Ñ.of (k _ _ rp.e)
 .rintro i x σ Hc T0 hx⟨l,x5,x6,x7,xl,rfl,k,el,ht⟩nT;have hi:i<ps.length:=by have:=(ĉ.mp hx).1;rw[rp.l]at this;show this
  obtain⟨tr,fk,fe⟩:=rp.g i ps[i] (Ô hi);have:x=.ref tr:=by rw[hx]at fk;show ģ fk
  subst this;have op:=okp ps[i] (ĕ hi);have ep:ps.getD i []=ps[i]:=æ hi;rw[six_row op.1]at fe;have sT:=Â.upd (o:=.tup [V.int i,V.ref tr]) nT;have kT:=k.trans sT;have oj:=sT _ _ el;have zw:=ht.same sT;have eT:=aa (H:=Hc) (a:=T0) (o:=.tup [V.int i,V.ref tr]);generalize upd Hc T0 (.tup [V.int i,V.ref tr])=H1 at kT oj zw eT⊢;show⟨T0,_,O,Ñ.of eT,O,_,_,O,_,_,O,O,?_⟩;dsimp only;have Tt:(gP ps ss sort year (i+1)).map List.tail=(gP ps ss sort year i).map List.tail++(ik ps ss sort year i).map List.tail:=by show(gP ps ss sort year i++ik ps ss sort year i).map List.tail=_;rw[é]
  have om:(ik ps ss sort year i).map List.tail=if fl ps[i] 1=sort then(dN (bV ps[i] ss i year) 8).map (λr=>(i:Int)::r)else[]:=by
   unfold ik;rw[ep];split;.rw[Ě];rfl
   .rfl
  rw[Tt,om];clear Tt om;show⟨_,O,tr,_,1,.int (fl ps[i] 1),O,O,Ñ.of (kT _ _ fe),O,_,O,O,_,O,?_⟩;by_cases hs:fl ps[i] 1=sort
  .rw[ç (by rw[hs]),Ê hs];show bM ⟨_,O,_,O,zL,λkk hk=>?_⟩;have s8:=Â.upd (o:=.tup [.int i,.int year]) hk;have E7:=dt.same (kT.trans s8);show⟨_,O,fo,_,O,Ă.t (k:=ky i year) E7.e aa,_,O,?_⟩;have k8:=kT.trans s8;have NR:=s8 _ _ oj;have AL:=zw.same s8;generalize upd H1 kk (.tup [V.int i,V.int year])=H2 at E7 k8 NR AL⊢;by_cases hd:ų ps i year
   .obtain⟨dr,v1,NS⟩:=E7.g i year hd;rw[v1];apply bM;have eL:hl ps ss i year=bV ps[i] ss i year:=by unfold hl;rw[Ž,ep]
    rw[eL]at NS;have HG:=eZ ps[i] ss i year;generalize bV ps[i] ss i year=L at NS HG⊢;show aW (aQ ?_);show⟨_,O,_,O,_,O,zL,λWM yb=>?_⟩;have s9:=Â.upd (o:=.tup [.int i,.int year]) yb;show⟨fo,_,O,by rw[<-v1];show Ă.t (k:=ky i year) (s9 _ _ E7.e) aa,?_⟩;have k9:=k8.trans s9;have Tu:=s9 _ _ NR;have Tv:=AL.same s9;have E8:=s9 _ _ NS;generalize upd H2 WM (.tup [V.int i,V.int year])=H3 at k9 Tu Tv E8⊢;apply aD;dsimp only;apply aQ;show⟨_,O,8,O,by decide,by decide,?_⟩;show fG 8 (λj ys σ Hj=>Â H3 Hj/\(∃o1,σ=[o1,some (.int i),some (.ref dr)])/\ß Hj ys ((dN L j).map (λr=>(i:Int)::r))) ⟨Â.refl _,`i,ß.nil⟩ á ?_ ?_
    .rintro j ys σ Hj hj hy⟨sc,⟨o1,rfl⟩,kX⟩;show⟨hj,λx H' yv R hR=>?_⟩;obtain⟨eH,rfl⟩:=yv;subst H';have Tw:=sc _ _ E8;have hx:ς (L.map V.int) ((0:Int)+(j:Int))=some (.int (L.getD j 0)):=by
      have:(L.map V.int)[j]?=some (.int (L.getD j 0)):=by rw[ì,ě,Ô À];rfl
      rw[Int.zero_add];show dZ this
     have e0:((0:Int)+(j:Int))=(j:Int):=Int.zero_add _;apply aD;show⟨_,O,_,O,dr,_,_,_,O,O,Ë.of Tw,hx,_,_,O,O,_,O,?_⟩;by_cases aT:0<L.getD j 0;.rw[ç aT];show bM ⟨_,O,_,O,_,O,_,O,dr,_,_,_,O,O,Ë.of Tw,hx,zL,λt fS=>hR _ _ _ (by rw[à];show ys.length+1<=j+1;lia) ⟨sc.updR fS,`i,?_⟩⟩;rw[gK,Ê aT,é];show(kX.same (Â.upd fS)).app (ß.one ?_);rw[aa,e0];rfl
     .rw[č aT];show bG (hR _ _ _ À ⟨sc,`i,?_⟩);rw[gK,Ç aT,Ĕ];show kX
    .rintro ys σ Hj hy⟨sc,_,kX⟩;show⟨Ø _,λD hD=>?_⟩;have sD:=sc.updR (o:=.lst ys) hD;have ll:=Dq ps ss sort year i;have:=ht.1;show⟨l,D,xl,ys,O,O,sD _ _ Tu,aa,by rw[sizeLine_eq];lia,λp hp=>?_⟩;have sp:=Â.upd (o:=.lst (xl++ys)) hp;show⟨p,_,_,_,xl++ys,O,(k9.trans sD).trans sp,aa,(((Tv.same sD).app (kX.same (Â.upd (o:=.lst ys) hD))).same sp)⟩
   .rw[E7.no i year hd];apply bG;have e0:bV ps[i] ss i year=List.replicate 8 0:=by unfold bV;rw[Ç λw=>hd ⟨À,À,by rw[Ž,ep];show w.1,by rw[Ž,ep];show w.2⟩]
    rw[e0,yX,List.map_nil,Ĕ];show⟨l,_,_,_,xl,O,k8,NR,AL⟩
  .rw[č (λz=>hs (by injection z)),Ç hs,Ĕ];show bG ⟨l,_,_,_,xl,O,kT,oj,zw⟩
 .rintro σ Hc⟨l,x5,x6,x7,xl,rfl,k,el,ht⟩;rw[show xp.length=ps.length from rp.l]at ht;show⟨_,O,q l xl Hc k el ht⟩
def cJ(M:UV):UV:=M.filter λr=>decide (0<fl r 3)
def aP(ps:UV)(r:VV):Int:=fl (ps.getD (fl r 1).toNat []) 1
def keyOf(r:VV):VV:=[fl r 0,fl r 1,fl r 2]
def iV(p:VV×Int):VV:=[fl p.1 0,fl p.1 1,fl p.1 2,fl p.1 3-p.2]
def Ds(p:VV×Int):VV:=[fl p.1 0,fl p.1 1,fl p.1 2,p.2]
theorem dz(a b:UV):cJ (a++b)=cJ a++cJ b:=Ŵ ..
theorem lU(Z:List (VV×Int)):cJ (Z.map Ds)=bZ Z:=by unfold cJ bZ;rw[List.filter_map];rfl
theorem oK(Z:List (VV×Int)):cJ (Z.map iV)=bB Z:=by unfold cJ bB;rw[List.filter_map];congr 1;show Zbf λp _=>?_;show decide (0<fl p.1 3-p.2)=decide (p.2<fl p.1 3);show decide_eq_decide.mpr ⟨λh=>by lia,λh=>by lia⟩
theorem oM(a b:List (VV×Int)):bZ (a++b)=bZ a++bZ b:=by unfold bZ;rw[Ŵ,é]
theorem lV(a b:List (VV×Int)):bB (a++b)=bB a++bB b:=by unfold bB;rw[Ŵ,é]
theorem zb:∀{w:Int}{S:UV},0<=w->(∀r∈S,0<=fl r 3)->bZ (S.zip (aX w S))=bZ ((cJ S).zip (aX w (cJ S)))/\bB (S.zip (aX w S))=bB ((cJ S).zip (aX w (cJ S)))/\(aX w S).sum=(aX w (cJ S)).sum
 |w,[],_,_=>⟨O,O,O⟩|w,r::S,hw,h=>by
  have h0:=h r (.head _);have hS:∀r∈S,0<=fl r 3:=λq hq=>h q (.tail _ hq);by_cases hp:0<fl r 3
  .have e:cJ (r::S)=r::cJ S:=μ (p:=λr=>decide (0<fl r 3)) (ç hp);obtain⟨a,b,c⟩:=zb (w:=w-(if w<fl r 3 then w else fl r 3)) (S:=S) (by split<;>lia) hS;rw[e];unfold aX;rw[Zb2,Zb2];show⟨?_,?_,?_⟩;.rw[<-Zbp,oM,a,<-oM,Zbp]
   .rw[<-Zbp,lV,b,<-lV,Zbp]
   .rw[š,š,c]
  .have e:cJ (r::S)=cJ S:=δ (p:=λr=>decide (0<fl r 3)) (by rw[Ĥ];show hp);have hm:(if w<fl r 3 then w else fl r 3)=0:=by split<;>lia
   obtain⟨a,b,c⟩:=zb (w:=w) (S:=S) hw hS;rw[e];have em:aX w (r::S)=0::aX w S:=by show(if w<fl r 3 then w else fl r 3)::aX (w-(if w<fl r 3 then w else fl r 3)) S=_;rw[hm,Int.sub_zero]
   rw[em,Zb2];show⟨?_,?_,?_⟩;.rw[<-Zbp,oM,a,show bZ [(r,0)]=[]from O,Zce]
   .rw[<-Zbp,lV,b];have:bB [(r,0)]=[]:=by unfold bB;rw[δ (by rw[Ĥ];show¬0<fl r 3;show hp)];rfl
    rw[this,Zce]
   .rw[š,c,Int.zero_add]
theorem Hx(rs:UV):(ĥ rs).Pairwise (λa b=>HT.lexLt b a=false):=(Zcj yV vq rs).imp λ{a b}h=>by unfold Ŏ at h;rw[Zba]at h;show h
theorem iR(rs:UV):(ĥ rs).Perm rs:=Zbg rs Ŏ
theorem zc(p:VV->Bool)(M:UV):(ĥ M).filter p=ĥ (M.filter p):=gQ ((iR M).filter p) ((Hx M).filter p)
theorem zf:∀{k:Nat}{r:VV},r∈gP ps ss sort year k->∃(j h:Nat)(x:Int),j<k/\h<8/\fl (ps.getD j []) 1=sort/\r=[year,j,h,x]
 |0,r,hr=>by cases hr;|k+1,r,hr=>by
  rcases è.mp (show r∈gP ps ss sort year k++ik ps ss sort year k from hr)with z|z;.obtain⟨j,h,x,a,b⟩:=zf z;show⟨j,h,x,À,b⟩
  .unfold ik at z;split at z;.rename_i hs;obtain⟨q,hq,rfl⟩:=Ù.mp z;unfold dN at hq;obtain⟨h,hh,rfl⟩:=Ù.mp hq;have:=ı.mp (ķ.mp hh).1;show⟨k,h,_,À,this,hs,O⟩
   .cases z
theorem HB:∀k,((gP ps ss sort year k).map keyOf).Nodup
 |0=>ϳ|k+1=>by
  show((gP ps ss sort year k++ik ps ss sort year k).map keyOf).Nodup;rw[é,Za9];show⟨HB k,?_,λa ha b hb e=>?_⟩
  .unfold ik;split;.unfold dN;rw[Ě,Ě];show List.Pairwise.map _ (R:=λa b=>a≠b) (λa b h e=>h ?_) (Zb7.filter _);have e:[year,(k:Int),(a:Int)]=[year,(k:Int),(b:Int)]:=e;injection e with _ e;injection e with _ e;injection e with e;lia
   .exact ϳ
  .subst e;obtain⟨r,hr,e1⟩:=Ù.mp ha;obtain⟨j,h,x,a1,a2,a3,rfl⟩:=zf hr;obtain⟨r',mh,e2⟩:=Ù.mp hb;unfold ik at mh;split at mh;.obtain⟨q,hq,rfl⟩:=Ù.mp mh;rw[<-e1]at e2;have e2:[year,(k:Int),_]=[year,(j:Int),(h:Int)]:=e2;injection e2 with _ e2;injection e2 with e2;lia
   .cases mh
theorem jx{r:VV}(hr:r∈aK ps ss sort year):fl r 0=year/\aP ps r=sort/\0<=fl r 1/\fl r 1<ps.length/\0<=fl r 2/\fl r 2<8:=by
 obtain⟨j,h,x,a1,a2,a3,rfl⟩:=zf hr;show⟨O,?_,?_,?_,?_,?_⟩;.show fl (ps.getD ((j:Int)).toNat []) 1=sort;rw[Ž];show a3
 .show(0:Int)<=j;lia
 .show(j:Int)<ps.length;lia
 .show(0:Int)<=h;lia
 .show(h:Int)<8;lia
theorem Dt(h:∀p∈Z,aP ps p.1=n):∀r∈bB Z,aP ps r=n:=λr hr=>by obtain⟨p,hp,rfl⟩:=Ù.mp hr;show h p (ķ.mp hp).1
theorem JX:∀r∈aN ps ow n,aP ps r=n:=λr hr=>ŕ (ķ.mp hr).2
theorem zg:∀n,∀r∈(Ý c ps ss ow y n).k,aP ps r<n
 |0,r,hr=>by cases hr;|n+1,r,hr=>by
  rcases è.mp (show r∈(Ý c ps ss ow y n).k++bB _ from hr)with z|z;.have:=zg (c:=c) (y:=y) n r z;lia
  .have:=Dt (n:=n) (λp hp=>by
    rcases è.mp (ϴ (show(p.1,p.2)∈_ from hp)).1 with z|z;.exact(jx z).2.1
    .exact JX _ z) r z;lia
structure Ι(c:VV)(ps ss ow:UV)(y:Int)(n:Nat)(M G:UV):Prop where
 kd:(M.map keyOf).Nodup
 ok:∀r∈M,r.length=4/\0<=fl r 1/\fl r 1<ps.length/\0<=fl r 3
 yr:∀r∈M,fl r 0<y\/(fl r 0=y/\aP ps r<n)pm:(cJ M).Perm ((Ý c ps ss ow y n).k++ow.filter λr=>decide ((n:Int)<=aP ps r))gn:cJ G=(Ý c ps ss ow y n).g
 g4:∀r∈G,r.length=4
 len:M.length<=240*y.toNat+80*n
 glen:G.length<=n*(240*y.toNat+400)
def ë(ps M:UV)(n:Nat):UV:=ĥ (M.filter λr=>decide (aP ps r=n))
def Ċ(ps M:UV)(n:Nat):UV:=M.filter λr=>!decide (aP ps r=n)
theorem fH{S:UV}{m:VV}{f:VV×Int->VV}(hk:∀p,keyOf (f p)=keyOf p.1)(hl:m.length=S.length):((S.zip m).map f).map keyOf=S.map keyOf:=by
 rw[Ě];have:(keyOf∘f)=keyOf∘Prod.fst:=by funext p;show hk p
 rw[this,<-Ě,List.map_fst_zip À]
theorem HD(ps ow:UV)(n:Nat):(ow.filter λr=>decide ((n:Int)<=aP ps r)).filter (λr=>decide (aP ps r=n))=aN ps ow n:=by
 rw[Zbo];unfold aN;show Zbf λr _=>?_;show(decide (aP ps r=n)&&decide ((n:Int)<=aP ps r))=decide (aP ps r=n);by_cases h:aP ps r=n;.rw[ç h,ç À];rfl
 .rw[č h];rfl
theorem Du(ps ow:UV)(n:Nat):(ow.filter λr=>decide ((n:Int)<=aP ps r)).filter (λr=>!decide (aP ps r=n))=ow.filter λr=>decide (((n+1:Nat):Int)<=aP ps r):=by
 rw[Zbo];show Zbf λr _=>?_;show(!decide (aP ps r=n)&&decide ((n:Int)<=aP ps r))=decide (((n+1:Nat):Int)<=aP ps r);by_cases h:aP ps r=n;.rw[ç h,č (p:=((n+1:Nat):Int)<=aP ps r) À];rfl
 .rw[č h];show decide ((n:Int)<=aP ps r)=_;show decide_eq_decide.mpr ⟨λz=>by lia,λz=>by lia⟩
theorem Ι.elder_pos(g:Ι c ps ss ow y n M G)(so:ow.Pairwise (λa b=>HT.lexLt b a=false)):cJ (ë ps M n)=aN ps ow n:=by
 unfold ë cJ;rw[zc,Zbo];have e:(M.filter λr=>decide (0<fl r 3)&&decide (aP ps r=n))=(cJ M).filter λr=>decide (aP ps r=n):=by unfold cJ;rw[Zbo];show Zbf λr _=>Bool.and_comm _ _
 rw[e];show(gQ ?_ (so.filter _)).symm;have:=g.pm.symm.filter λr=>decide (aP ps r=n);rw[Ŵ,HD,Zb1.mpr,Zce]at this;.exact this
 .intro r hr;have:=zg n r hr;rw[Ĥ];lia
theorem Ku{w:Int}{cl:UV}(hw:0<=w)(hc:∀r∈cl,r.length=4/\1<=fl r 3/\fl r 3<=99)(hz:cl.length<=80):∀p∈cl.zip (bf w cl),p.2<=fl p.1 3:=λp hp=>by
 obtain⟨i,hi⟩:=List.mem_iff_getElem?.mp hp;obtain⟨h1,h2⟩:=Zbq.mp hi;have e3:(ú cl)[i]?=some (fl p.1 3):=by unfold ú;rw[ì,h1];rfl
 unfold bf at h2;split at h2;.rw[e3]at h2;rw[<-ģ h2];show Ϯ _
 .rename_i hs;have ok:K60P.OkW (ú cl):=by
   show⟨?_,?_,λx hx=>?_⟩;.have:=(ĉ.mp e3).1;lia
   .unfold ú;rw[Ï];show hz
   .obtain⟨r,hr,rfl⟩:=Ù.mp hx;show(hc r hr).2
  show(K60P.res_get ok hw À h2 e3).2
theorem Ι.step(g:Ι c ps ss ow y n M G)(so:ow.Pairwise (λa b=>HT.lexLt b a=false))(hc:∀x∈c,0<=x)(hu:un ps ss=none)(h5:∀s∈ss,s.length=5)(okp:∀r∈ps,okP r)(hl:ps.length<=10)(ho:∀r∈ow,ϻ ps r)(h3:n<3){w:Int}{sh mg:VV}(ew:w=c.getD n 0+(Ý c ps ss ow y n).d)(ec:cl=aK ps ss n y)(es:sh=bf w cl)(em:mg=aX (w-sh.sum) (ë ps M n)):Ι c ps ss ow y (n+1) (Ċ ps M n++((ë ps M n).zip mg).map iV++(cl.zip sh).map iV) (G++(cl.zip sh).map Ds++((ë ps M n).zip mg).map Ds)/\w-sh.sum-mg.sum=(Ý c ps ss ow y (n+1)).d/\0<=w-sh.sum:=by
 have ea:=g.elder_pos so;have hE:∀r∈ë ps M n,r∈M/\aP ps r=n:=λr hr=>by obtain⟨a,b⟩:=ķ.mp ((iR _).mem_iff.mp hr);show⟨a,ŕ b⟩
 have nn:=GJ (y:=y) hc hu h5 okp hl ho n;have hw:0<=w:=by have:=jw hc n;lia
 have gy:=ir (sort:=n) (year:=y) hu h5 okp;have oB:=dO (ss:=ss) (sort:=n) (year:=y) hl;have E9:sh.length=cl.length:=by rw[es];show û
 have WN:mg.length=(ë ps M n).length:=by rw[em,dw]
 have BG:=yU (ow:=[]) hw (by rw[ec];show gy) (by rw[ec];show oB) (λr hr=>by cases hr) (cl:=cl);unfold Ę at BG;rw[<-es,show aX (w-sh.sum) []=[]from O,Ĕ]at BG;have kG:0<=w-sh.sum:=À;obtain⟨m1,m2,m3⟩:=zb (w:=w-sh.sum) (S:=ë ps M n) kG λr hr=>(g.ok r (hE r hr).1).2.2.2;rw[<-em,ea]at m1 m2 m3;have ez:(aK ps ss n y++aN ps ow n).zip (Ę (c.getD n 0+(Ý c ps ss ow y n).d) (aK ps ss n y) (aN ps ow n))=cl.zip sh++(aN ps ow n).zip (aX (w-sh.sum) (aN ps ow n)):=by unfold Ę;rw[<-ew,<-ec,<-es,List.zip_append E9.symm]
 have ln:=(Bq (w:=c.getD n 0+(Ý c ps ss ow y n).d) À gy oB λr hr=>by have:=(ji (sort:=n) ho r hr).2.2.2;lia).1;show⟨⟨?_,?_,?_,?_,?_,?_,?_,?_⟩,?_,kG⟩
 .have p1:(Ċ ps M n++((ë ps M n).zip mg).map iV).map keyOf|>.Perm (M.map keyOf):=by rw[é,fH (f:=iV) (λ_=>rfl) WN,<-é];apply List.Perm.map;show(List.Perm.append_left _ (iR _)).trans (Zbb.trans ?_);show Zck (λr=>decide (aP ps r=n)) M
  rw[é,Za9];show⟨p1.nodup_iff.mpr g.kd,?_,λa ha b hb e=>?_⟩;.rw[fH (f:=iV) (λ_=>rfl) E9,ec];show HB _
  .subst e;obtain⟨r,hr,e1⟩:=Ù.mp (p1.mem_iff.mp ha);rw[fH (f:=iV) (λ_=>rfl) E9,ec]at hb;obtain⟨q,hq,e2⟩:=Ù.mp hb;obtain⟨a1,a2,_⟩:=jx hq;rw[<-e1]at e2;unfold keyOf at e2;injection e2 with e3 e2;injection e2 with e4 e2;have:aP ps r=aP ps q:=by unfold aP;rw[e4]
   rcases g.yr r hr with z|z<;>lia
 .intro r hr;rcases è.mp hr with hr|hr
  .rcases è.mp hr with hr|hr;.exact g.ok r (ķ.mp hr).1
   .obtain⟨p,hp,rfl⟩:=Ù.mp hr;obtain⟨h1,h2⟩:=ϴ (show(p.1,p.2)∈_ from hp);obtain⟨k1,k2,k3,k4⟩:=g.ok _ (hE _ h1).1;refine⟨O,k2,k3,?_⟩;show 0<=fl p.1 3-p.2;have:∀{w:Int}{S:UV},(∀p∈S.zip (aX w S),p.2<=fl p.1 3):=λ{w S}=>by induction S generalizing w with|nil=>intro p hp;cases hp;|cons r S ih=>
      intro p hp;unfold aX at hp;rw[Zb2]at hp;rcases ļ.mp hp with z|z;.rw[z];show(if w<fl r 3 then w else fl r 3)<=fl r 3;split<;>lia
      .exact ih p z
    rw[em]at hp;have:=this p hp;lia
  .obtain⟨p,hp,rfl⟩:=Ù.mp hr;obtain⟨h1,h2⟩:=ϴ (show(p.1,p.2)∈_ from hp);rw[ec]at h1;obtain⟨_,_,k2,k3,_⟩:=jx h1;show⟨O,k2,k3,?_⟩;show 0<=fl p.1 3-p.2;have:=Ku (w:=w) (cl:=cl) hw (by rw[ec];show gy) (by rw[ec];show oB) p (by rw[<-es];show hp);lia
 .intro r hr;rcases è.mp hr with hr|hr
  .rcases è.mp hr with hr|hr
   .rcases g.yr r (ķ.mp hr).1 with z|z;.exact .inl z
    .exact .inr ⟨z.1,À⟩
   .obtain⟨p,hp,rfl⟩:=Ù.mp hr;obtain⟨h1,h2⟩:=ϴ (show(p.1,p.2)∈_ from hp);rcases g.yr p.1 (hE _ h1).1 with z|z;.exact .inl z
    .exact .inr ⟨z.1,by show aP ps p.1<_;lia⟩
  .obtain⟨p,hp,rfl⟩:=Ù.mp hr;obtain⟨h1,h2⟩:=ϴ (show(p.1,p.2)∈_ from hp);rw[ec]at h1;obtain⟨k1,k2,_⟩:=jx h1;show .inr ⟨k1,by show aP ps p.1<_;lia⟩
 .rw[dz,dz,oK,oK,m2];have eo:cJ (Ċ ps M n)=(cJ M).filter λr=>!decide (aP ps r=n):=by unfold cJ Ċ;rw[Zbo,Zbo];show Zbf λr _=>Bool.and_comm _ _
  have po:=g.pm.filter λr=>!decide (aP ps r=n);rw[<-eo,Ŵ,Du,List.filter_eq_self.mpr]at po;.show List.Perm _ (((Ý c ps ss ow y n).k++bB _)++_);rw[ez,lV];show(List.Perm.append_right _ (List.Perm.append_right _ po)).trans ?_;rw[Ġ,Ġ,Ġ];apply List.Perm.append_left;apply Zbb.trans;show List.Perm.append_right _ Zbb
  .intro r hr;have:=zg n r hr;rw[č À];rfl
 .rw[dz,dz,lU,lU,m1,g.gn];show _=(Ý c ps ss ow y n).g++bZ _;rw[ez,oM,Ġ]
 .intro r hr;rcases è.mp hr with hr|hr
  .rcases è.mp hr with hr|hr;.exact g.g4 r hr
   .obtain⟨p,hp,rfl⟩:=Ù.mp hr;rfl
  .obtain⟨p,hp,rfl⟩:=Ù.mp hr;rfl
 .have e1:(Ċ ps M n).length+(ë ps M n).length=M.length:=by have:=(Zck (λr=>decide (aP ps r=n)) M).length_eq;rw[à]at this;have:=(iR (M.filter λr=>decide (aP ps r=n))).length_eq;unfold Ċ ë;lia
  rw[à,à,Ï,Ï,ν,ν];have:=g.len;have:cl.length<=80:=by rw[ec];show oB
  lia
 .have e1:(ë ps M n).length<=M.length:=by unfold ë;rw[(iR (M.filter λr=>decide (aP ps r=n))).length_eq];show Ϗ _ _
  rw[à,à,Ï,Ï,ν,ν];have:=g.len;have:=g.glen;have:cl.length<=80:=by rw[ec];show oB
  rw[Nat.succ_mul];lia
 .show _=c.getD n 0+(Ý c ps ss ow y n).d-fj _;rw[ln,m3];unfold Ę;rw[<-ew,<-ec,<-es,List.sum_append];lia
def ĳ(ps:UV)(r:VV):List Key×V:=((aP ps r::keyOf r).map Sum.inl,.int (fl r 3))
def Ϸ(H:Hp)(d:Addr)(ps M:UV):Prop:=∃Mo:UV,H d=some (.dT (Mo.map (ĳ ps)))/\Mo.Perm M
theorem oN:∀{a b:VV},(a.map (Sum.inl:Int->Key))=b.map Sum.inl->a=b|[],[],_=>rfl|[],_::_,h=>by simp at h;|_::_,[],h=>by simp at h;|x::a,y::b,h=>by rw[Ľ,Ľ]at h;injection h with h1 h2;injection h1 with h1;rw[h1,oN h2]
theorem Ϸ.same(h:Ϸ H d ps M)(s:Â H H'):Ϸ H' d ps M:=by obtain⟨Mo,e,pm⟩:=h;show⟨Mo,s _ _ e,pm⟩
theorem JZ{ps Mo:UV}(h:¬keyOf r∈Mo.map keyOf):â (Mo.map (ĳ ps)) ((aP ps r::keyOf r).map Sum.inl) (.int (fl r 3))=(Mo++[r]).map (ĳ ps):=by
 rw[kI,é];.rfl
 .cases zv:cF (Mo.map (ĳ ps)) ((aP ps r::keyOf r).map Sum.inl)with|none=>rfl;|some v=>
   have h1:(cF (Mo.map (ĳ ps)) ((aP ps r::keyOf r).map Sum.inl)).isSome=true:=by rw[zv];rfl
   rw[<-fB,Zb8]at h1;obtain⟨p,hp,e⟩:=h1;have e:=ŕ e;obtain⟨q,hq,rfl⟩:=Ù.mp hp;have e:=oN (show(aP ps q::keyOf q).map Sum.inl=_ from e);injection e with _ e;show absurd (Ù.mpr ⟨q,hq,e⟩) h
theorem qP{Fin:List V->Hp->Prop}(ep:H0 l=some (.lst xs))(bg:ß H0 xs (cl.map List.tail))(h4:∀r∈cl,r.length=4)(hl:cl.length<sizeLine)(mS:∀t n h x Q,H0 t=some (.tup [.int n,.int h,.int x])->Q (.int x) H0->te (cy.set 0 (some (.ref t))) H0 Q)(fin:Fin ((ú cl).map V.int) H0):km (Itl K l) (bu 0) qZ te Fin cy H0:=by
 show K60.comp_gen cl.length (λj ys σ Hj=>Hj=H0/\(∀o,σ.set 0 o=cy.set 0 o)/\ys=(ú (cl.take j)).map V.int) ⟨O,λ_=>rfl,O⟩ hl ?_ ?_
 .rintro j ys σ Hj hj hy⟨rfl,iA,rfl⟩;obtain⟨t,ex,et⟩:=bg.2 j cl[j].tail (by rw[ì,Ô hj];rfl);have e4:=h4 _ (ĕ hj);have Fc:cl[j].tail=[fl cl[j] 1,fl cl[j] 2,fl cl[j] 3]:=by
   conv=>lhs;rw[bW e4]
   rfl
  rw[Fc]at et;show⟨⟨_,_,Ë.of ep,ex⟩,λv H' y' R hR=>?_⟩;obtain⟨rfl,y'⟩:=y';have hv:=y' _ (Ë.of ep);rw[ex]at hv;cases hv;show te (σ.set 0 (some (.ref t))) _ _;rw[iA];show mS t _ _ (fl cl[j] 3) _ et (hR _ _ _ ⟨O,λo=>by rw[List.set_set],?_⟩);unfold ú;rw[ġ,Ô hj,é,é];rfl
 .rintro ys σ Hj hy⟨rfl,iA,rfl⟩;rw[Ņ];show⟨⟨_,Ë.of ep,by rw[bg.1,Ï];show Ø _⟩,fin⟩
inductive Ť(vs:List V)(H:Hp)(Q:VK):Prop|mk:∀lk ps M l xs cl y sort w,(vs=[.ref lk,.ref l,.int y,.int sort,.int w])->(Ϸ H lk ps M)->(M.length<=10000)->(H l=some (.lst xs))->(ß H xs (cl.map List.tail))->((∀r∈cl,r.length=4/\1<=fl r 3/\fl r 3<=99))->(cl.length<=80)->((∀r∈cl,fl r 0=y/\aP ps r=sort))->((cl.map keyOf).Nodup)->((∀r∈cl,¬keyOf r∈M.map keyOf))->(0<=w)->(∀q H',(∀b o,b≠lk->H b=some o->H' b=some o)->H' q=some (.lst ((bf w cl).map V.int))->H q=none->Ϸ H' lk ps (M++bB (cl.zip (bf w cl)))->Q (.ref q) H')->Ť  vs H Q
def xQ:Sp:=λvs H Q _=>Ť  vs H Q
theorem Dv(cl:UV):bB (cl.zip (ú cl))=[]:=by unfold bB ú;rw[Zb1.mpr,List.map_nil];intro p hp;obtain⟨i,hi⟩:=List.mem_iff_getElem?.mp hp;obtain⟨h1,h2⟩:=Zbq.mp hi;rw[ì,h1]at h2;have h2:fl p.1 3=p.2:=ģ h2;rw[Ĥ];lia
theorem xR(h:k∈(bB Z).map keyOf):∃p∈Z,keyOf p.1=k:=by obtain⟨r,hr,e⟩:=Ù.mp h;obtain⟨p,hp,rfl⟩:=Ù.mp hr;show⟨p,(ķ.mp hp).1,e⟩
theorem uh:bootBuiltins "sum"=some (.builtin "sum"):=`j
theorem MF:([Ū]:Đ).Nodup:=`j
theorem π:Å [AAq,AAw,ū,Ϲ,"_law_have","_law_wanted","_law_parts",AAk,AAo,υ,"_law_part"] [AAq,AAw,ū,Ϲ,"_law_have"] (aG (top 65)):=ċ
theorem Dw(F:ü K "_law_served" "_law_served" (top 65) f fd)(Ts:mg "sum"=none)(Tz:mg "zip"=none)(Tl:mg "list"=none)(c1:í P w K mg base 1 "_law_parted" [υ,AAv] K60Q.spLParts):Ú P w K mg base ù 2 f fd [AAq,AAw,ū,Ϲ,"_law_have"] xQ:=by
 show F.oq π `b;obtain⟨lk,ps,M,l,xs,cl,y,sort,w,rfl,la,lM,el,bg,gy,WO,rL,IC,ID,w0,q⟩:=h;show⟨_,aB (Ĝ 5 π.nd (aM (cY O) O Ts uh (aq (bI [Ū] [none] O (bO (pv 1)) (λC fp Á s₂ Í=>⟨Ó 0 MF,bD,pX (K60P.ix_tupK (K:=K) O) (pv 0) aA⟩) (λC=>trivial) ⟨O,O,O,O⟩) aj))) (aB (cM (bj zJ (pv 4) (pv 5) (bx _)) (aC (aV (bI [Ū] [none] O (bO (pv 1)) (λC fp Á s₂ Í=>⟨Ó 0 MF,bD,pX (K60P.ix_tupK (K:=K) O) (pv 0) aA⟩) (λC=>trivial) ⟨O,O,O,O⟩))) bz) (aB (Ĝ 6 π.nd (aJ c1 hr (aq (pv 4) (aq (bI [Ū] [none] O (bO (pv 1)) (λC fp Á s₂ Í=>⟨Ó 0 MF,bD,pX (K60P.ix_tupK (K:=K) O) (pv 0) aA⟩) (λC=>trivial) ⟨O,O,O,O⟩) aj)))) (aB (bR Ń O (ZT.pi_zip false true O Tz (aq (pv 1) (aq (pv 6) aj))) (bF O (ao (bF O (ao (Ó 7 π.nd) (ao (Ó 8 π.nd) (ao (Ó 9 π.nd) aR)))) (ao (Ó 10 π.nd) aR))) (aC (cM (bj jA (pv 10) (pv 9) (bx _)) (aC (uH (dG hr) (pv 0) (bh (aq (pv 3) (aq (pv 2) (aq (pv 7) (aq (pv 8) aj))))) (aU eQ (pv 9) (pv 10)) O)) bz))) (aC (aV (bK jZ O Tl yM (aq (pv 6) aj))))))),?_⟩;have h4:∀r∈cl,r.length=4:=λr hr=>(gy r hr).1;have hz:cl.length<sizeLine:=by rw[sizeLine_eq];lia
 obtain⟨Mo0,fz,pm0⟩:=id la;have zI:l≠lk:=λz=>by rw[z,fz]at el;cases el
 show`e;apply aQ;show⟨_,O,l,O,⟨_,Ë.of el⟩,qP el bg h4 hz (λt n h x Q e q=>⟨_,O,t,_,2,.int x,O,O,Ñ.of e,O,q⟩) λD hD=>?_⟩;show⟨D,ú cl,O,.inl (Ë.of aa),?_⟩;have s1:=Â.upd (o:=.lst ((ú cl).map V.int)) hD;generalize upd H D (.lst ((ú cl).map V.int))=H1 at s1⊢;clear hD;apply aD;apply ab
 show`e;show⟨_,O,_,O,_,_,O,O,_,O,?_⟩;by_cases hw:(ú cl).sum<=w
 .have ml:bf w cl=ú cl:=by unfold bf;rw[Ê hw]
  rw[ç (show w≥(ú cl).sum from hw)];apply bM;show⟨_,O,l,O,⟨_,Ë.of (s1 _ _ el)⟩,qP (s1 _ _ el) (bg.same s1) h4 hz (λt n h x Q e q=>⟨_,O,t,_,2,.int x,O,O,Ñ.of e,O,q⟩) λD hD=>?_⟩;have s2:=s1.updR (o:=.lst ((ú cl).map V.int)) hD;show q D _ (λb o _ e=>s2 _ _ e) (by rw[ml];show aa) (s1.free hD) ?_;rw[ml,Dv,Ĕ];show la.same s2
 have ml:bf w cl=K60P.res w (ú cl):=by unfold bf;rw[Ç hw]
 rw[č (show¬w≥(ú cl).sum from hw)];show bG (eF ?_);apply ab
 have WQ:K60P.OkW (ú cl):=by
  refine⟨?_,by unfold ú;rw[Ï];exact WO,λx hx=>?_⟩;.cases z:cl with|nil=>rw[z]at hw;exact absurd w0 hw;|cons a b=>unfold ú;rw[Ï];show Nat.succ_pos _
  .obtain⟨r,hr,rfl⟩:=Ù.mp hx;show(gy r hr).2
 rw[ml]at q;have NU:(K60P.res w (ú cl)).length=cl.length:=by rw[K60P.res_len];unfold ú;rw[Ï]
 show`e;apply aQ;show⟨_,O,_,O,l,O,⟨_,Ë.of (s1 _ _ el)⟩,qP (s1 _ _ el) (bg.same s1) h4 hz (λt n h x Q e q=>⟨_,O,t,_,2,.int x,O,O,Ñ.of e,O,q⟩) λD hD=>?_⟩;have s2:=s1.updR (o:=.lst ((ú cl).map V.int)) hD;show⟨w,D,ú cl,O,aa,WQ,w0,À,λH2 tp s3 iS=>?_⟩;have sA:=s2.trans s3;clear s1 s2 s3 hD;generalize K60P.res w (ú cl)=sh at q ml NU iS;have WR:=la.same sA;have Tx:=sA _ _ el;have NV:=bg.same sA;apply aD;apply ab
 apply aW;have IE:xs.length=cl.length:=by rw[bg.1,Ï]
 show⟨_,O,_,O,l,tp,_,_,O,Ë.of Tx,Ñ.of iS,?_⟩;show ZT.for_zip (t1:=false) (t2:=true) (xs:=xs) (ys:=sh.map V.int) (λj σ Hj=>Xe4 λx7 x8 x9 cq=>Xa6 (σ=[some (.ref lk),some (.ref l),some (.int y),some (.int sort),some (.int w),some (.int (ú cl).sum),some (.ref tp),x7,x8,x9,cq]) ((∀b o,b≠lk->H b=some o->Hj b=some o)) (Hj l=some (.lst xs)) (ß Hj xs (cl.map List.tail)) (Hj tp=some (.tup (sh.map V.int))) (Ϸ Hj lk ps (M++bB ((cl.zip sh).take j)))) (by rw[Ï];lia) ?_ ?_ ?_ ?_;.exact⟨none,none,none,none,O,λb o _ e=>sA _ _ e,Tx,NV,iS,by rw[Zb6,show bB []=[]from O,Ĕ];show WR⟩
 .rintro j σ Hj hj⟨x7,x8,x9,cq,rfl,kj,IF,tj,oC,BY⟩;show⟨Ë.of IF,Ñ.of oC⟩
 .rintro j x z σ Hj T0 hx dE⟨x7,x8,x9,cq,rfl,kj,IF,tj,oC,BY⟩nT;have hj:j<cl.length:=by have:=(ĉ.mp hx).1;lia
  have Fh:j<sh.length:=À;obtain⟨t,ex,et⟩:=tj.2 j cl[j].tail (by rw[ì,Ô hj];rfl);rw[hx]at ex;cases ex;rw[ì,Ô Fh]at dE;cases dE;have Fc:cl[j].tail=[fl cl[j] 1,fl cl[j] 2,fl cl[j] 3]:=by
   conv=>lhs;rw[bW (h4 _ (ĕ hj))]
   rfl
  rw[Fc]at et;obtain⟨ey,es⟩:=rL _ (ĕ hj);have NW:(cl.zip sh)[j]?=some (cl[j],sh[j]):=by rw[Zbq];show⟨Ô hj,Ô Fh⟩
  have bq:(cl.zip sh).take (j+1)=(cl.zip sh).take j++[(cl[j],sh[j])]:=by rw[ġ,NW];rfl
  have sT:=Â.upd (o:=.tup [V.ref t,.int sh[j]]) nT;have kT:∀b o,b≠lk->H b=some o->upd Hj T0 (.tup [V.ref t,.int sh[j]]) b=some o:=λb o n e=>sT _ _ (kj b o n e);have oj:=sT _ _ IF;have AM:=tj.same sT;have AN:=sT _ _ oC;have NX:=BY.same sT;have TB:=sT _ _ et;have eT:=aa (H:=Hj) (a:=T0) (o:=.tup [V.ref t,.int sh[j]]);generalize upd Hj T0 (.tup [V.ref t,.int sh[j]])=H6 at kT oj AM AN NX TB eT⊢;show⟨T0,_,O,Ñ.of eT,O,_,_,O,t,_,O,Ñ.of TB,O,_,_,O,_,_,O,_,_,O,O,_,_,O,O,?_⟩;dsimp only;rw[bq,jQ];show⟨_,O,_,O,_,_,O,O,_,O,?_⟩;by_cases ax:sh[j]<fl cl[j] 3
  .rw[ç ax,Ê (show(cl[j],sh[j]).2<fl (cl[j],sh[j]).1 3 from ax)];apply bM;obtain⟨Mo,ot,NY⟩:=NX;obtain⟨r,er⟩:∃r:VV,r=[fl cl[j] 0,fl cl[j] 1,fl cl[j] 2,fl cl[j] 3-sh[j]]:=`i;have TC:keyOf r=keyOf cl[j]:=by rw[er];rfl
   have WS:aP ps r=sort:=by rw[<-es,er];rfl
   have nk:¬keyOf r∈Mo.map keyOf:=λhm=>by
    rw[TC]at hm;have hm:=(NY.map keyOf).mem_iff.mp hm;rw[é]at hm;rcases è.mp hm with z|z;.exact ID _ (ĕ hj) z
    .obtain⟨p,hp,e⟩:=xR z;obtain⟨i,hi⟩:=List.mem_iff_getElem?.mp hp;rw[List.getElem?_take]at hi;split at hi;.rename_i de;obtain⟨h1,_⟩:=Zbq.mp hi;obtain⟨eW,h1⟩:=ĉ.mp h1;have:=ϲ.mp IC i j (by rw[Ï];show eW) (by rw[Ï];show hj) de;rw[List.getElem_map,List.getElem_map,h1]at this;show this e
     .cases hi
   have pn:=JZ (ps:=ps) nk;show⟨_,O,_,O,_,_,O,O,_,O,_,O,_,O,_,O,_,O,zL,λtk qo=>?_⟩;have sK:=Â.upd (o:=.tup [V.int sort,V.int y,V.int (fl cl[j] 1),V.int (fl cl[j] 2)]) qo;show⟨lk,_,O,ŷ.t (k:=(aP ps r::keyOf r).map Sum.inl) (sK _ _ ot) ?_ ?_,?_⟩;.rw[aa,WS,TC,Ě];show some (HO.tup [V.int sort,V.int y,_,_])=some (HO.tup [V.int sort,V.int (fl cl[j] 0),_,_]);rw[ey];rfl
   .rw[Ï,NY.length_eq,à,sizeLine_eq];have:(bB ((cl.zip sh).take j)).length<=80:=by unfold bB;rw[Ï];show ř (Ϗ _ _) ?_;rw[ė,ν];lia
    lia
   have WT:fl r 3=fl cl[j] 3-sh[j]:=by rw[er];rfl
   have pn:â (Mo.map (ĳ ps)) ((aP ps r::keyOf r).map Sum.inl) (.int (fl cl[j] 3-sh[j]))=(Mo++[r]).map (ĳ ps):=by rw[<-WT];show pn
   rw[pn];have kt:∀b z,H6 b=some (.tup z)->upd (upd H6 tk (.tup [V.int sort,V.int y,V.int (fl cl[j] 1),V.int (fl cl[j] 2)])) lk (.dT ((Mo++[r]).map (ĳ ps))) b=some (.tup z):=λb z e=>by rw[au λw=>by rw[w,ot]at e;cases e];show sK _ _ e
   show⟨_,_,_,_,O,λb o n e=>?_,?_,AM.keep kt,kt _ _ AN,⟨Mo++[r],aa,?_⟩⟩;.rw[au n];show sK _ _ (kT b o n e)
   .rw[au zI];show sK _ _ oj
   .rw[<-Ġ];show(NY.append_right _).trans ?_;rw[er]
  .rw[č ax,Ç (show¬(cl[j],sh[j]).2<fl (cl[j],sh[j]).1 3 from ax),Ĕ];show bG ⟨_,_,_,_,O,kT,oj,AM,AN,NX⟩
 .rintro σ Hj⟨x7,x8,x9,cq,rfl,kj,IF,tj,oC,BY⟩;dsimp only;apply jM;refine⟨_,O,tp,_,O,.inr (Ñ.of oC),λql Fm=>?_⟩;have sq:=Â.upd (o:=.lst (sh.map V.int)) Fm;refine q ql _ (λb o n e=>sq _ _ (kj b o n e)) aa ?_ ?_;.cases z:H ql with|none=>rfl;|some o=>
    by_cases e:ql=lk;.obtain⟨Mo,e1,_⟩:=BY;rw[e,e1]at Fm;cases Fm
    .rw[kj ql o e z]at Fm;cases Fm
  .have:(cl.zip sh).take xs.length=cl.zip sh:=θ (by rw[ν];lia);rw[this]at BY;show BY.same sq
def cX(ps:UV)(r:VV):VV:=aP ps r::keyOf r
def jR(ps M:UV):UV:=M.mergeSort λa b=>Ŏ (cX ps a) (cX ps b)
theorem oO(ps M:UV):(jR ps M).Perm M:=Zbg M _
theorem Bv(ps M:UV):(jR ps M).Pairwise (λa b=>HT.lexLt (cX ps b) (cX ps a)=false):=(Zcj (le:=λa b=>Ŏ (cX ps a) (cX ps b)) (λa b c h1 h2=>yV _ _ _ h1 h2) (λa b=>vq _ _) M).imp λ{a b}h=>by have h:Ŏ (cX ps a) (cX ps b)=true:=h;unfold Ŏ at h;rw[Zba]at h;show h
theorem Dy(ps M:UV):(jR ps M).map (cX ps)=ĥ (M.map (cX ps)):=by apply gQ ((oO ps M).map _);rw[ň];show Bv ps M
theorem HF(ha:a.length=4)(hb:b.length=4)(hk:keyOf a≠keyOf b)(h:HT.lexLt (keyOf b) (keyOf a)=false):HT.lexLt b a=false:=by
 rw[bW ha,bW hb];unfold keyOf at h hk;simp only[HT.lexLt_cons]at h⊢;by_cases e0:fl b 0=fl a 0
 .rw[Ê e0]at h⊢;by_cases e1:fl b 1=fl a 1
  .rw[Ê e1]at h⊢;by_cases e2:fl b 2=fl a 2;.exact absurd (by rw[e0,e1,e2]) hk
   .rw[Ç e2]at h⊢;show h
  .rw[Ç e1]at h⊢;show h
 .rw[Ç e0]at h⊢;show h
def old(ps:UV)(n:Nat)(y:Int)(r:VV):Bool:=decide (aP ps r=n)&&decide (fl r 0<y)
theorem HJ{M G M1 N:UV}(g:Ι c ps ss ow y n M G)(pm:M1.Perm (M++N))(hN:∀r∈N,fl r 0=y):(jR ps M1).filter (old ps n y)=ë ps M n:=by
 have pf:((jR ps M1).filter (old ps n y)).Perm (M.filter λr=>decide (aP ps r=n)):=by
  show(((oO ps M1).trans pm).filter _).trans (.of_eq ?_);rw[Ŵ,Zb1 (l:=N).mpr λr hr=>?_,Ĕ]
  .refine Zbf λr hr=>?_;unfold old;by_cases e:aP ps r=n;.rw[ç e,ç (p:=fl r 0<y) (by rcases g.yr r hr with z|z<;>lia)];rfl
   .rw[č e];rfl
  .unfold old;rw[č (p:=fl r 0<y) (by have:=hN r hr;lia),Bool.and_false];show Ō
 unfold ë;apply gQ pf;have nd:(((jR ps M1).filter (old ps n y)).map keyOf).Nodup:=(pf.map keyOf).nodup_iff.mpr (g.kd.sublist (List.filter_sublist.map keyOf));have so:=(Bv ps M1).filter (old ps n y);rw[List.Nodup,ň]at nd;show(so.and nd).imp_of_mem λ{a b}ha hb h=>?_;have m1:∀r∈(jR ps M1).filter (old ps n y),aP ps r=n/\r.length=4:=λr hr=>by obtain⟨h1,h2⟩:=ķ.mp (pf.mem_iff.mp hr);show⟨ŕ h2,(g.ok r h1).1⟩
 obtain⟨a1,a2⟩:=m1 a ha;obtain⟨b1,b2⟩:=m1 b hb;obtain⟨h1,h2⟩:=h;apply HF a2 b2 h2;unfold cX at h1;rw[a1,b1,HT.lexLt_cons,Ê O]at h1;show h1
theorem Ι.sub(g:Ι c ps ss ow y n M G)(sb:M'.Sublist M)(ep:cJ M'=cJ M)(eg:cJ G'=cJ G)(sg:G'.Sublist G):Ι c ps ss ow y n M' G':=⟨g.kd.sublist (sb.map _),λr hr=>g.ok r (sb.subset hr),λr hr=>g.yr r (sb.subset hr),by rw[ep];show g.pm,by rw[eg];show g.gn,λr hr=>g.g4 r (sg.subset hr),ř sb.length_le g.len,ř sg.length_le g.glen⟩
theorem xT(Z:List (VV×Int)):(bB Z).Sublist (Z.map iV):=List.filter_sublist.map _
theorem Bw(Z:List (VV×Int)):(bZ Z).Sublist (Z.map Ds):=List.filter_sublist.map _
theorem Bx(M:UV):cJ (cJ M)=cJ M:=by unfold cJ;rw[Zbo];show Zbf λr _=>Bool.and_self _
theorem HN(Z:List (VV×Int)):cJ (bB Z)=bB Z:=by rw[<-oK,Bx]
theorem lW(Z:List (VV×Int)):cJ (bZ Z)=bZ Z:=by rw[<-lU,Bx]
theorem Ι.stepS(g:Ι c ps ss ow y n M G)(so:ow.Pairwise (λa b=>HT.lexLt b a=false))(hc:∀x∈c,0<=x)(hu:un ps ss=none)(h5:∀s∈ss,s.length=5)(okp:∀r∈ps,okP r)(hl:ps.length<=10)(ho:∀r∈ow,ϻ ps r)(h3:n<3){w:Int}{sh mg:VV}(ew:w=c.getD n 0+(Ý c ps ss ow y n).d)(ec:cl=aK ps ss n y)(es:sh=bf w cl)(em:mg=aX (w-sh.sum) (ë ps M n)):Ι c ps ss ow y (n+1) (Ċ ps M n++((ë ps M n).zip mg).map iV++bB (cl.zip sh)) (G++bZ (cl.zip sh)++bZ ((ë ps M n).zip mg))/\w-sh.sum-mg.sum=(Ý c ps ss ow y (n+1)).d/\0<=w-sh.sum:=by
 obtain⟨s,d,e⟩:=g.step so hc hu h5 okp hl ho h3 ew ec es em;show⟨s.sub ((List.Sublist.refl _).append (xT _)) ?_ ?_ (((List.Sublist.refl _).append (Bw _)).append (Bw _)),d,e⟩;.rw[dz,dz (Ċ ps M n++_),HN,oK (cl.zip sh)]
 .rw[dz,dz,dz (G++_),dz G,lW,lW,lU,lU]
theorem By(e:keyOf q=keyOf r):cX ps q=cX ps r:=by
 have e1:fl q 1=fl r 1:=by unfold keyOf at e;injection e with _ e;injection e with e _
 unfold cX aP;rw[e,e1]
theorem xU(e:cX ps q=cX ps r):keyOf q=keyOf r:=by unfold cX at e;injection e
theorem HQ{ps M:UV}(h:(M.map keyOf).Nodup):((M.map (ĳ ps)).map (·.1)).Nodup:=by rw[Ě];rw[List.Nodup,ň]at h;rw[List.Nodup,ň];show h.imp λ{a b}h e=>h (xU (ps:=ps) (oN (show(cX ps a).map Sum.inl=(cX ps b).map Sum.inl from e)))
theorem qQ[DecidableEq κ]{k:κ}{v:V}:∀{Ä:List (κ×V)},(Ä.map (·.1)).Nodup->(k,v)∈Ä->cF Ä k=some v
 |[],_,h=>by cases h;|p::Ä,nd,h=>by
  rw[Ľ,Za7]at nd;rcases ļ.mp h with z|z;.rw[<-z];show cU O
  .rw[cV λe=>nd.1 (e▸Ù.mpr ⟨_,z,O⟩)];show qQ nd.2 z
theorem Ϸ.get{r:VV}(h:Ϸ H d ps M)(nd:(M.map keyOf).Nodup)(hr:r∈M)(eb:H b=some (.tup ((cX ps r).map V.int))):Ă H d (.ref b) (some (.int (fl r 3))):=by obtain⟨Mo,e,pm⟩:=h;have:=qQ (HQ (ps:=ps) ((pm.map _).nodup_iff.mpr nd)) (Ù.mpr ⟨r,pm.mem_iff.mpr hr,O⟩);rw[<-this];show Ă.t e (by rw[eb,Ě];rfl)
def HR(r:VV)(x:Int)(q:VV):VV:=if keyOf q=keyOf r then[fl r 0,fl r 1,fl r 2,x]else q
theorem Dz{ps Mo A B:UV}{r:VV}(pm:Mo.Perm (A++r::B))(nd:((A++r::B).map keyOf).Nodup):∃B0:UV,â (Mo.map (ĳ ps)) ((cX ps r).map Sum.inl) (.int x)=B0.map (ĳ ps)/\B0.Perm (A++[fl r 0,fl r 1,fl r 2,x]::B):=by
 show⟨Mo.map (HR r x),?_,?_⟩
 .unfold â;rw[Ê (Zb8.mpr ⟨ĳ ps r,Ù.mpr ⟨r,pm.mem_iff.mpr (è.mpr (.inr (.head _))),O⟩,ç O⟩),Ě,Ě];show Zbl λq _=>?_;show(if(ĳ ps q).1=_ then((ĳ ps q).1,V.int x)else ĳ ps q)=ĳ ps (HR r x q);unfold HR;by_cases e:keyOf q=keyOf r;.have e4:=By (ps:=ps) e;rw[Ê e,Ê (show(ĳ ps q).1=(cX ps r).map Sum.inl by rw[<-e4];rfl)];show((cX ps q).map Sum.inl,V.int x)=((cX ps r).map Sum.inl,V.int x);rw[e4]
  .rw[Ç e];show Ç λz=>e (xU (oN (show(cX ps q).map Sum.inl=(cX ps r).map Sum.inl from z)))
 .refine(pm.map _).trans ?_;rw[é,Ľ,Za9,Za7]at nd;obtain⟨_,⟨n1,_⟩,n2⟩:=nd;have keep:∀l:UV,(∀q∈l,keyOf q≠keyOf r)->l.map (HR r x)=l:=λl hl=>by show(Zbl λq hq=>?_).trans (Zb9 l);show Ç (hl q hq)
  rw[é,Ľ,keep A λq hq e=>n2 _ (Ù.mpr ⟨q,hq,O⟩) _ (.head _) e,keep B λq hq e=>n1 (by rw[<-e];show Ù.mpr ⟨q,hq,O⟩),show HR r x r=[fl r 0,fl r 1,fl r 2,x]from Ê O]
theorem Ϸ.pm{ps M M':UV}(h:Ϸ H d ps M)(p:M.Perm M'):Ϸ H d ps M':=by obtain⟨Mo,e,pm⟩:=h;show⟨Mo,e,pm.trans p⟩
structure Lk(ps ow:UV)(y:Nat)(M:UV):Prop where
 kd:(M.map keyOf).Nodup
 ok:∀r∈M,r.length=4/\0<=fl r 1/\fl r 1<ps.length/\0<=fl r 3
 yr:∀r∈M,fl r 0<y
 pm:(cJ M).Perm ow
 len:M.length<=240*y
theorem BJ{ps:UV}(okp:∀r∈ps,okP r)(h0:0<=fl r 1)(h1:fl r 1<ps.length):0<=aP ps r/\aP ps r<3:=by obtain⟨p,_,e,op⟩:=prom_ok okp h0 h1;unfold aP;rw[e];show op.2.2.1
theorem Lk.start(g:Lk ps ow y M)(c:VV)(ss:UV)(okp:∀r∈ps,okP r)(ho:∀r∈ow,ϻ ps r):Ι c ps ss ow y 0 M []:=by
 show⟨g.kd,g.ok,λr hr=>.inl (g.yr r hr),?_,O,λr hr=>(by cases hr),by have:=g.len;lia,Ė _⟩;show(cJ M).Perm ([]++ow.filter _);rw[Zce,List.filter_eq_self.mpr λr hr=>ç ?_];.exact g.pm
 .exact(BJ okp (ho r hr).2.1 (ho r hr).2.2.1).1
theorem Ι.next{y:Nat}(g:Ι c ps ss ow y 3 M G)(okp:∀r∈ps,okP r)(ho:∀r∈ow,ϻ ps r):Lk ps (ĥ (Ý c ps ss ow y 3).k) (y+1) M:=by
 show⟨g.kd,g.ok,λr hr=>?_,?_,by have:=g.len;lia⟩;.rcases g.yr r hr with z|z<;>lia
 .have:=g.pm;rw[Zb1.mpr,Ĕ]at this;.exact this.trans (iR _).symm
  .intro r hr;have:=(BJ okp (ho r hr).2.1 (ho r hr).2.2.1).2;rw[Ĥ];lia
theorem RowsAt.but(h:RowsAt H a xs rs)(k:∀b o,b≠lk->H b=some o->H' b=some o)(el:H lk=some (.dT N0)):RowsAt H' a xs rs:=by have tp:∀b z,H b=some (.tup z)->H' b=some (.tup z):=λb z e=>k b _ (λw=>by rw[w,el]at e;cases e) e;show⟨tp _ _ h.e,h.l,λi r e=>by obtain⟨t,e1,e2⟩:=h.g i r e;show⟨t,e1,tp _ _ e2⟩⟩
structure Wd(ps:UV)(H Hc:Hp)(lk lg ll:Addr)(xg:List V)(G:UV)(L:VV)(M:UV):Prop where
 k:∀b o,b≠lk->H b=some o->Hc b=some o
 eg:Hc lg=some (.lst xg)elg:ß Hc xg G
 el:Hc ll=some (.lst (L.map V.int))lka:Ϸ Hc lk ps M
 nk:lg≠lk
 nl:ll≠lk
 ng:lg≠ll
 fg:H lg=none
 fl:H ll=none
section
theorem Wd.same(d:Wd ps H Hc lk lg ll xg G L M)(s:Â Hc Hd):Wd ps H Hd lk lg ll xg G L M:=⟨λb o n e=>s _ _ (d.k b o n e),s _ _ d.eg,d.elg.same s,s _ _ d.el,d.lka.same s,d.nk,d.nl,d.ng,d.fg,d.fl⟩
theorem Wd.gone{r:VV}(d:Wd ps H Hc lk lg ll xg G L M)(et:Hc t=some (.tup (r.map V.int))):Wd ps H (upd Hc lg (.lst (xg++[.ref t]))) lk lg ll (xg++[.ref t]) (G++[r]) L M:=by
 have tp:∀b z,Hc b=some (.tup z)->upd Hc lg (.lst (xg++[.ref t])) b=some (.tup z):=λb z e=>by rw[au λw=>by rw[w,d.eg]at e;cases e];show e
 obtain⟨Ä,e,pm⟩:=d.lka;show⟨λb o n e=>by rw[au (az e d.fg)];show d.k b o n e,aa,(d.elg.app (ß.one et)).keep tp,by rw[au d.ng.symm];show d.el,⟨Ä,by rw[au d.nk.symm];show e,pm⟩,d.nk,d.nl,d.ng,d.fg,d.fl⟩
theorem Wd.put{M' B0:UV}(d:Wd ps H Hc lk lg ll xg G L M)(pm:B0.Perm M'):Wd ps H (upd Hc lk (.dT (B0.map (ĳ ps)))) lk lg ll xg G L M':=by obtain⟨Ä,e,_⟩:=d.lka;show⟨λb o n e=>by rw[au n];show d.k b o n e,by rw[au d.nk];show d.eg,d.elg.keep λb z e'=>by rw[au λw=>by rw[w,e]at e';cases e'];show e',by rw[au d.nl];show d.el,⟨B0,aa,pm⟩,d.nk,d.nl,d.ng,d.fg,d.fl⟩
theorem Wd.down(d:Wd ps H Hc lk lg ll xg G L M):Wd ps H (upd Hc ll (.lst ((L++[x]).map V.int))) lk lg ll xg G (L++[x]) M:=by obtain⟨Ä,e,pm⟩:=d.lka;show⟨λb o n e=>by rw[au (az e d.fl)];show d.k b o n e,by rw[au d.ng];show d.eg,d.elg.keep λb z e'=>by rw[au λw=>by rw[w,d.el]at e';cases e'];show e',aa,⟨Ä,by rw[au d.nl.symm];show e,pm⟩,d.nk,d.nl,d.ng,d.fg,d.fl⟩
end
theorem HS(a b:Int):(if b<a then b else a)=if a<b then a else b:=by split<;>split<;>lia
structure WAt(lk lf:Addr)(cs ps ss:UV)(H:Hp)(a:Addr)(j:Nat)(g tl q:Addr)(xg xq:List V):Prop where
 e:H a=some (.tup [.ref g,.ref tl,.ref q])gk:g≠lk
 gf:g≠lf
 eg:H g=some (.lst xg)elg:ß H xg (ĥ (fX cs ps ss j).g)gs:g≠sysModules
 qk:q≠lk
 qf:q≠lf
 eq:H q=some (.lst xq)elq:ß H xq (fW cs ps ss (j+1))qs:q≠sysModules
 el:H tl=some (.tup ((fX cs ps ss j).l.map V.int))
theorem WAt.keep(h:WAt lk lf cs ps ss H a j g tl q xg xq)(k:∀b o,b≠lk->b≠lf->H b=some o->H' b=some o)(e1:H lk=some (.dT kv))(e2:H lf=some (.lst xl)):WAt lk lf cs ps ss H' a j g tl q xg xq:=by have tp:∀b z,H b=some (.tup z)->H' b=some (.tup z):=λb z e=>k b _ (λw=>by rw[w,e1]at e;cases e) (λw=>by rw[w,e2]at e;cases e) e;show⟨tp _ _ h.e,h.gk,h.gf,k _ _ h.gk h.gf h.eg,h.elg.keep tp,h.gs,h.qk,h.qf,k _ _ h.qk h.qf h.eq,h.elq.keep tp,h.qs,tp _ _ h.el⟩
def WA(lk lf:Addr)(cs ps ss:UV)(H:Hp)(a:Addr)(j:Nat):Prop:=∃g tl q xg xq,WAt lk lf cs ps ss H a j g tl q xg xq
theorem WA.keep(h:WA lk lf cs ps ss H a j)(k:∀b o,b≠lk->b≠lf->H b=some o->H' b=some o)(e1:H lk=some (.dT kv))(e2:H lf=some (.lst xl)):WA lk lf cs ps ss H' a j:=by obtain⟨g,tl,q,xg,xq,h⟩:=h;show⟨g,tl,q,xg,xq,h.keep k e1 e2⟩
theorem Kv(cs ps ss:UV):∀n,(fW cs ps ss n).Pairwise (λa b=>HT.lexLt b a=false)|0=>List.Pairwise.nil|n+1=>Hx _
theorem BK{ps M:UV}{r:VV}(e:H d=some (.frz o (.dT (M.map (ĳ ps)))))(nd:(M.map keyOf).Nodup)(hr:r∈M)(eb:H b=some (.tup ((cX ps r).map V.int))):Ă H d (.ref b) (some (.int (fl r 3))):=by have:=qQ (HQ (ps:=ps) nd) (Ù.mpr ⟨r,hr,O⟩);rw[<-this];show .inr ⟨_,_,b,.inr ⟨o,e⟩,O,by rw[eb,Ě];rfl,rfl⟩
theorem Ķ.but{f:Int->Int->VV}(g:Ķ fo H0 H dm f Ä)(k:∀b o,b≠lk->H b=some o->H' b=some o)(nf:fo≠lk)(n0:H0 lk=none)(el:H lk=some (.dT N0)):Ķ fo H0 H' dm f Ä:=⟨λb o e=>k _ _ (az e n0) (g.sm _ _ e),g.nf,k _ _ nf g.e,λn y h=>by obtain⟨d,e1,e2⟩:=g.g n y h;show⟨d,e1,k _ _ (λz=>by rw[z,el]at e2;cases e2) e2⟩,g.no,g.i,g.fr,g.kd,g.kk⟩
theorem Ķ.butL{f:Int->Int->VV}{xl:List V}(g1:Ķ fo H0 H1 dm f Ä)(g:Ķ fo H0 H dm f Ä)(k:∀b o,b≠lf->H b=some o->H' b=some o)(n1:H1 lf=none)(s1:Â H0 H1):Ķ fo H0 H' dm f Ä:=⟨λb o e=>k _ _ (az (s1 _ _ e) n1) (g.sm _ _ e),g.nf,k _ _ (az g1.e n1) g.e,λn y h=>by obtain⟨d,e1,e2⟩:=g.g n y h;obtain⟨d',vc,xS⟩:=g1.g n y h;rw[e1]at vc;cases vc;show⟨d,e1,k _ _ (az xS n1) e2⟩,g.no,g.i,g.fr,g.kd,g.kk⟩
def rkI(k:List Key):VV:=k.map λx=>match x with|.inl i=>i|.inr _=>0
theorem BL(r:VV):rkI (r.map Sum.inl)=r:=by unfold rkI;rw[Ě];show Zb9 r
def eJ(ps:UV)(n:Nat)(y:Int)(R:UV)(j:Nat):UV:=(R.take j).filter (old ps n y)
def mJ(ps:UV)(n:Nat)(y w:Int)(R:UV)(j:Nat):UV:=(R.take j).filter (λr=>!old ps n y r)++((eJ ps n y R j).zip (aX w (eJ ps n y R j))).map iV++R.drop j
section
variable{ps R:UV}
theorem BP(hj:j<R.length)(h:old ps n y R[j]=false):eJ ps n y R (j+1)=eJ ps n y R j:=by unfold eJ;rw[ġ,Ô hj,Ŵ,show(some R[j]).toList=[R[j]]from O,δ (by rw[h];show Ō),Zbv,Ĕ]
theorem HW(hj:j<R.length)(h:old ps n y R[j]=true):eJ ps n y R (j+1)=eJ ps n y R j++[R[j]]:=by unfold eJ;rw[ġ,Ô hj,Ŵ,show(some R[j]).toList=[R[j]]from O,μ h,Zbv]
theorem Pr(hj:j<R.length)(h:old ps n y R[j]=false):(mJ ps n y w R j).Perm (mJ ps n y w R (j+1)):=by unfold mJ;rw[BP hj h,ġ,Ô hj,Ŵ,show(some R[j]).toList=[R[j]]from O,μ (p:=λr=>!old ps n y r) (by rw[h];rfl),Zbv,Zbh hj,Ġ,Ġ,Ġ];apply List.Perm.append_left;show List.perm_middle
theorem MJ(hj:j<R.length)(h:old ps n y R[j]=true)(hm:m=if w-(aX w (eJ ps n y R j)).sum<fl R[j] 3 then w-(aX w (eJ ps n y R j)).sum else fl R[j] 3):mJ ps n y w R (j+1)=(R.take j).filter (λr=>!old ps n y r)++((eJ ps n y R j).zip (aX w (eJ ps n y R j))).map iV++iV (R[j],m)::R.drop (j+1)/\aX w (eJ ps n y R (j+1))=aX w (eJ ps n y R j)++[m]/\bZ ((eJ ps n y R (j+1)).zip (aX w (eJ ps n y R (j+1))))=bZ ((eJ ps n y R j).zip (aX w (eJ ps n y R j)))++(if 0<m then[Ds (R[j],m)]else[]):=by
 have e1:aX w (eJ ps n y R (j+1))=aX w (eJ ps n y R j)++[m]:=by rw[HW hj h,iM,hm]
 have e2:(eJ ps n y R (j+1)).zip (aX w (eJ ps n y R (j+1)))=(eJ ps n y R j).zip (aX w (eJ ps n y R j))++[(R[j],m)]:=by rw[e1,HW hj h,List.zip_append (by rw[dw])];rfl
 show⟨?_,e1,?_⟩;.unfold mJ;rw[e2,ġ,Ô hj,Ŵ,show(some R[j]).toList=[R[j]]from O,δ (p:=λr=>!old ps n y r) (by rw[h];show Ō),Zbv,Ĕ,é,Ġ,Ġ,Ġ];rfl
 .rw[e2,ig];rfl
theorem HX(hj:j<R.length):mJ ps n y w R j=(R.take j).filter (λr=>!old ps n y r)++((eJ ps n y R j).zip (aX w (eJ ps n y R j))).map iV++R[j]::R.drop (j+1):=by unfold mJ;rw[Zbh hj]
theorem Pu(h:(R.map keyOf).Nodup):((mJ ps n y w R j).map keyOf).Nodup:=by unfold mJ;rw[é,é,fH (f:=iV) (λ_=>rfl) (dw _ _),<-é];rw[<-γ j R,é]at h;show((List.Perm.append_right _ ?_).nodup_iff).mpr h;apply List.Perm.map;show Zbb.trans (Zck (old ps n y) (R.take j))
theorem MK:(mJ ps n y w R j).length=R.length:=by unfold mJ eJ;rw[à,à,Ï,ν,dw,ζ];have:=(Zck (old ps n y) (R.take j)).length_eq;rw[à,ė]at this;rw[Nat.min_self];lia
theorem QD:mJ ps n y w R 0=R:=rfl
end
theorem MN{M G M1 N:UV}{w:Int}(g:Ι c ps ss ow y n M G)(pm:M1.Perm (M++N))(hN:∀r∈N,fl r 0=y):eJ ps n y (jR ps M1) (jR ps M1).length=ë ps M n/\(mJ ps n y w (jR ps M1) (jR ps M1).length).Perm (Ċ ps M n++((ë ps M n).zip (aX w (ë ps M n))).map iV++N):=by
 have e1:eJ ps n y (jR ps M1) (jR ps M1).length=ë ps M n:=by unfold eJ;rw[Ņ];show HJ g pm hN
 show⟨e1,?_⟩;unfold mJ;rw[e1,Ņ,List.drop_length,Ĕ];have pf:((jR ps M1).filter λr=>!old ps n y r).Perm (Ċ ps M n++N):=by
  show(((oO ps M1).trans pm).filter _).trans (.of_eq ?_);rw[Ŵ,List.filter_eq_self (l:=N).mpr λr hr=>?_]
  .unfold Ċ;congr 1;show Zbf λr hr=>?_;unfold old;by_cases e:aP ps r=n;.rw[ç e,ç (p:=fl r 0<y) (by rcases g.yr r hr with z|z<;>lia)];rfl
   .rw[č e];rfl
  .unfold old;rw[č (p:=fl r 0<y) (by have:=hN r hr;lia),Bool.and_false];rfl
 show(pf.append_right _).trans ?_;rw[Ġ,Ġ];show List.Perm.append_left _ Zbb
theorem BR:SlR X (λx lo hi H Q=>∃a xs,x=.ref a/\H a=some (.tup xs)/\∀c H',Â H H'->H' c=some (.tup (nJ xs lo hi))->Q (.ref c) H'):=by intro Á s σ H x v vl vu lo hi sl Q I rx hs pl pu h;obtain⟨a,xs,rfl,ha,q⟩:=h;show zZ Á s σ H _ v vl vu lo hi sl Q I rx hs pl pu ⟨a,xs,O,Ñ.of ha,λhw=>q a H (Â.refl H) ?_,λ_ p hp=>q p _ (Â.upd hp) aa⟩;rw[ha];unfold nJ;rw[hw.1,hw.2,List.drop_zero,Nat.sub_zero,Ņ]
theorem vB{l:ø}{row:Addr->VV}(h:∀a∈l,H a=some (.tup ((row a).map V.int))):ß H (l.map V.ref) (l.map row):=⟨by rw[Ï,Ï],λi r e=>by rw[ì]at e⊢;cases z:l[i]? with|none=>rw[z]at e;cases e;|some a=>rw[z]at e;cases e;show⟨a,O,h a (ń z)⟩⟩
inductive Ţ(vs:List V)(H:Hp)(Q:VK):Prop|mk:∀ac xc cs ap xp ps ah xs ss,(vs=[.ref ac,.ref ap,.ref ah])->(RowsAt H ac xc cs)->((∀r∈cs,r.length=3/\∀x∈r,0<=x))->(cs.length<=20)->(RowsAt H ap xp ps)->(ps.length<=10)->((∀r∈ps,okP r))->(RowsAt H ah xs ss)->(ss.length<=12)->((∀s∈ss,s.length=5))->(un ps ss=none)->(∀l lk(ts:ø)H',Â H H'->H l=none->H' l=some (.lst (ts.map V.ref))->ts.length=cs.length->(∀j a,ts[j]?=some a->WA lk l cs ps ss H' a j)->Q (.ref l) H')->Ţ  vs H Q
def xV:Sp:=λvs H Q _=>Ţ  vs H Q
theorem iT:bootBuiltins "sorted"=some (.builtin "sorted"):=`j
theorem DG:bootBuiltins "min"=some (.builtin "min"):=`j
theorem DK:bootBuiltins "tuple"=some (.type "tuple"):=`j
theorem Px:([Ū,"_law_part",ū]:Đ).Nodup:=`j
theorem QF:(["_law_key",AAq]:Đ).Nodup:=`j
theorem Į:Å [Ϻ,ł,Ω,AAj,AAq,AAm,ū,"_law_clip","_law_gifts_here","_law_down","_law_downs",Ϲ,AAw,"_law_parts","_law_key","_law_part","_law_owing"] [Ϻ,ł,Ω] (aG (top 66)):=ċ
theorem wP{a b m:Int}(h:(if a<b then a else b)=m)(p:0<=a)(q:0<=b):0<=m/\m<=a/\m<=b:=by subst h;split<;>lia
theorem DN(F:ü K "_law_years" "_law_years" (top 66) f fd)(T:Mg mg)(Te:mg "enumerate"=none)(Tr:mg "range"=none)(Tz:mg "zip"=none)(To:mg "sorted"=none)(Tn:mg "min"=none)(Ts:mg "sum"=none)(c1:í P w K mg base 1 "_law_rows" [ł,Ω] spRows)(c2:í P w K mg base 1 "_law_claims" [ł,AAj,ū,Ϲ] ug)(c3:í P w K mg base 2 "_law_served" [AAq,AAw,ū,Ϲ,"_law_have"] xQ):Ú P w K mg base ù 3 f fd [Ϻ,ł,Ω] xV:=by
 show F.oq Į `b;obtain⟨ac,xc,cs,ap,xp,ps,ah,xs,ss,rfl,rc,okc,lc,rp,lp,okp,rs,ls,h5,hu,q⟩:=h;show K60P.ok_b (aH ⟨cP (bh (aq (pX bT (aJ c1 hr (aq (pv 1) (aq (pv 2) aj))) aA) (aq pJ (aq (dC aj) aj)))) (bF O (ao (Ó 3 Į.nd) (ao (bw (i:=4) Į.nd O (Or.inr O)) (ao (Ó 5 Į.nd) aR))))⟩ (aH ⟨bR Ń O (ZT.pi_enum true O Te (aq (pv 0) aj)) (bF O (ao (bw (i:=6) Į.nd O (Or.inr O)) (ao (Ó 7 Į.nd) aR))) (gW (aH ⟨Jf (i:=8) (j:=9) (k:=10) O Į.nd O O O á á á O O O (aq (dC aj) (aq aA (aq (dC aj) aj))) O⟩ (aH ⟨bR Ń O (cH O Tr (aq aA aj)) (Ó 11 Į.nd) (gW (aH (gY 12 Į.nd ⟨aJ c2 hr (aq (pv 1) (aq (pv 3) (aq (pv 6) (aq (pv 11) aj))))⟩) (aH (gY 13 Į.nd ⟨aJ c3 hr (aq (pv 4) (aq (pv 12) (aq (pv 6) (aq (pv 11) (aq (aU cA (pX bT (pv 7) (pv 11)) (pv 9)) aj)))))⟩) (aH (gY 8 Į.nd ⟨aU uz (pv 8) (bI (g:=jE K 2 (bL (bu 0) (bL (bu 1) jU))) [Ū,"_law_part",ū] [none,none,some 6] O (ZT.pi_zip false false O Tz (aq (pv 12) (aq (pv 13) aj))) (λC fp Á s₂ Í=>⟨du O O (ao (Ó 0 Px) (ao (Ó 1 Px) aR)),gF (bj jW (pv 1) aA (bx _)),zV (pO (fD ⟨pv 2⟩ (fD ⟨pX (K60P.ix_tupK (K:=K) O) (pv 0) aA⟩ (fD ⟨pX (K60P.ix_tupK (K:=K) O) (pv 0) aA⟩ (fD ⟨pv 1⟩ fK)))))⟩) (λC=>cI trivial) ⟨O,O,O,O⟩)⟩) (aH (gY 9 Į.nd (Er eQ ⟨aU cA (pX bT (pv 7) (pv 11)) (pv 9)⟩ ⟨aM (cY O) O Ts uh (aq (pv 13) aj)⟩)) (aH ⟨bR Ń O (bO (aM (jD O) O To iT (aq (pv 4) aj))) (Ó 14 Į.nd) (gW (aH (gY 15 Į.nd ⟨vN (PW.pt (ur (bj jV (pX bT (pv 14) aA) (pv 11) (bx _)) (nY (bj jA (pX bT (pv 14) aA) (pv 6) (bx _))))) (aM (fY O) O Tn DG (aq (pv 9) (aq (fc (dG hr) (pv 4) (pv 14) (λ_ _=>rfl)) aj))) aA⟩) (bQ ⟨cM (bj jW (pv 15) aA (bx _)) (gW (aH ⟨dJ (jB zBe zBg zBf di (pv 8) (aq (aU K60Q.op_catU (jY BR (pv 14) (oh aA) o9) (bh (aq (pv 15) aj))) aj))⟩ (bQ ⟨cP (bh (aq (aU eQ (fc (dG hr) (pv 4) (pv 14) (λ_ _=>rfl)) (pv 15)) (aq (aU eQ (pv 9) (pv 15)) aj))) (bF O (ao (iy (pv 4) (pv 14) (Z00 (dG hr))) (ao (Ó 9 Į.nd) aR)))⟩))) bz⟩)))⟩ (bQ ⟨dJ (jB zBe zBg zBf di (pv 10) (aq (pv 9) aj))⟩)))))))⟩ (aH (gY 16 Į.nd ⟨aM dI O To iT (aq (M7 (bI ["_law_key",AAq] [none,some 4] O (Ay (pv 4)) (λC fp Á s₂ Í=>⟨Ó 0 QF,gF (bj jW (fc (dG hr) (pv 1) (pv 0) (λ_ _=>rfl)) aA (bx _)),aU K60Q.op_catU (jY BR (pv 0) (oh aA) o9) (bh (aq (fc (dG hr) (pv 1) (pv 0) (λ_ _=>rfl)) aj))⟩) (λC=>cI trivial) ⟨O,O,O,O⟩)) aj)⟩) (bQ ⟨dJ (jB zBe zBg zBf di (pv 5) (aq (zV (pO (fD ⟨aM dI O To iT (aq (pv 8) aj)⟩ (fD ⟨bK cz O T.tuple DK (aq (pv 10) aj)⟩ (fD ⟨pv 16⟩ fK))))) aj))⟩)))))⟩ (bQ (mH ⟨pv 5⟩)))) ?_;show`e;show⟨_,O,_,O,ap,xp,ps,ah,xs,ss,O,rp,lp,okp,rs,À,h5,λtt fo H1 s1 IA TF=>⟨tt,_,0,.ref fo,O,O,Ñ.of IA,O,λlk nv=>⟨zL,λlf B9=>⟨zL,λt3 TH=>⟨t3,_,O,Ñ.of aa,O,_,_,O,_,_,O,_,_,O,O,?_⟩⟩⟩⟩⟩;obtain⟨Ä,dt⟩:=TF hu;have u2:=Â.upd (o:=.dT []) nv;have u3:=Â.upd (o:=.lst []) B9;have u4:=Â.upd (o:=.tup [.ref fo,.ref lk,.ref lf]) TH;have zI:H lk=none:=s1.free nv;have TJ:H lf=none:=(s1.trans u2).free B9;have nf:fo≠lk:=az dt.e nv;have N4:lf≠lk:=λz=>by rw[z,aa]at B9;cases B9
 have N9:=dt.same u2;have sA:=s1.trans u2;obtain⟨HA,IG⟩:∃HA,HA=upd H1 lk (.dT []):=`i;rw[<-IG]at N9 sA B9 u3 u4;apply ab
 rw[<-IG];have Fn:HA lk=some (.dT (([]:UV).map (ĳ ps))):=by rw[IG];show aa
 show vy (λH4=>Â H H4/\H4 lk=some (.dT (([]:UV).map (ĳ ps)))/\H4 lf=some (.lst (([]:ø).map V.ref))/\Ķ fo H H4 (ų ps) (hl ps ss) Ä) ⟨(sA.trans u3).trans u4,u4 _ _ (u3 _ _ Fn),u4 _ _ aa,(N9.same u3).same u4⟩ λH4=>?_;rintro⟨S4,Of,Oy,WU⟩;clear dt u2 u3 u4 nv TH IA TF s1 Fn IG;apply aW;show⟨_,O,ac,xc,O,Ñ.of (S4 _ _ rc.e),?_⟩;show ZT.for_enum true (xs:=xc) (λi σ Hc=>Xe13 λx6 x7 x8 x9 cq cb eC eI cK cS fq M(ts:ø)=>Xa8 (σ=[some (.ref ac),some (.ref ap),some (.ref ah),some (.ref fo),some (.ref lk),some (.ref lf),x6,x7,x8,x9,cq,cb,eC,eI,cK,cS,fq]) (Â H Hc) (Ϸ Hc lk ps M) (Lk ps (fW cs ps ss i) i M) (Ķ fo H Hc (ų ps) (hl ps ss) Ä) (Hc lf=some (.lst (ts.map V.ref))) (ts.length=i) (∀j a,ts[j]?=some a->WA lk lf cs ps ss Hc a j)) ?_ ?_ ?_ ?_;.exact⟨none,none,none,none,none,none,none,none,none,none,none,[],[],O,S4,⟨[],Of,List.Perm.refl _⟩,⟨ϳ,λr hr=>(by cases hr),λr hr=>(by cases hr),List.Perm.refl _,Ø _⟩,WU,Oy,O,λj a e=>(by simp at e)⟩
 .rintro i σ Hc hi⟨x6,x7,x8,x9,cq,cb,eC,eI,cK,cS,fq,M,ts,rfl,k,la,IH,dt,qE,lt,hw⟩;show Ñ.of (k _ _ rc.e)
 .rintro y x σ Hc T0 hx⟨x6,x7,x8,x9,cq,cb,eC,eI,cK,cS,fq,M,ts,rfl,k,la,IH,dt,qE,lt,hw⟩nT;have hy:y<cs.length:=by have:=(ĉ.mp hx).1;rw[rc.l]at this;show this
  obtain⟨tc,fk,EG⟩:=rc.g y cs[y] (Ô hy);have:x=.ref tc:=by rw[hx]at fk;show ģ fk
  subst this;have ec:cs.getD y []=cs[y]:=æ hy;obtain⟨WV,II⟩:=okc _ (ĕ hy);generalize hcy:cs[y]=c at EG ec WV II;obtain⟨js,Nl⟩:=uc (cs:=cs) lp hu h5 okp y;have TK:=Kv cs ps ss y;generalize how:fW cs ps ss y=ow at IH js Nl TK;have sT:=Â.upd (o:=.tup [V.int y,V.ref tc]) nT;have k1:=k.trans sT;have E4:=la.same sT;have OA:=dt.same sT;have tq:=sT _ _ qE;obtain⟨Mo1,ip,fy⟩:=id E4;have IJ:∀j a,ts[j]?=some a->WA lk lf cs ps ss (upd Hc T0 (.tup [V.int y,V.ref tc])) a j:=λj a e=>by obtain⟨Mo,fz,_⟩:=la;show(hw j a e).keep (λb o _ _ e=>sT _ _ e) fz qE
  have eT:=aa (H:=Hc) (a:=T0) (o:=.tup [V.int y,V.ref tc]);generalize upd Hc T0 (.tup [V.int y,V.ref tc])=Hy at k1 E4 OA tq ip IJ eT⊢;clear hw dt la qE sT k nT;show⟨T0,_,O,Ñ.of eT,O,_,_,O,_,_,O,O,?_⟩;show rQ λDe BF=>?_
  have tw:=k1 _ _ EG;have HZ:=rp.same k1;show`e;show⟨zL,λlg vE=>⟨zL,λll fx=>⟨_,_,_,O,?_⟩⟩⟩;apply ab
  have W0:Wd ps Hy (upd (upd Hy lg (.lst [])) ll (.lst [])) lk lg ll [] [] [] M:=by have s1:=Â.upd (o:=.lst []) vE;have s2:=Â.upd (o:=.lst []) fx;show⟨λb o n e=>s2 _ _ (s1 _ _ e),s2 _ _ aa,ß.nil,aa,E4.same (s1.trans s2),(az ip vE).symm,(az ip (s1.free fx)).symm,(λz=>by rw[<-z,aa]at fx;cases fx),vE,s1.free fx⟩
  show vy (λH1=>Wd ps Hy H1 lk lg ll [] [] [] M) W0 λH1 W0=>?_;clear vE fx;show aF λcc CF=>?_;show⟨3,O,by decide,by decide,?_⟩;show dh (lo:=0) (n:=3) (λi σ Hc=>Xe9 λcb eC eI cK cS lg xg G Mi=>Xa4 (σ=[some (.ref ac),some (.ref ap),some (.ref ah),some (.ref fo),some (.ref lk),some (.ref lf),some (.int y),some (.ref tc),some (.ref lg),some (.int (Ý c ps ss ow y i).d),some (.ref ll),cb,eC,eI,cK,cS,fq]) (Wd ps Hy Hc lk lg ll xg G (Ý c ps ss ow y i).l Mi) (Ι c ps ss ow y i Mi G) (cJ G=G)) ?_ ?_ ?_;.exact⟨_,_,_,_,_,lg,[],[],M,O,W0,IH.start c ss okp js,O⟩
  .rintro i σ Hc hi⟨cb,eC,eI,cK,cS,lg,xg,G,Mi,rfl,W,g,pG⟩;have i3:(0:Int)+(i:Int)=(i:Int):=Int.zero_add _;apply aD;rw[i3];show rQ λSx WW=>?_
   obtain⟨cl,om⟩:∃cl,cl=aK ps ss i y:=`i;obtain⟨d,TL⟩:∃d,d=(Ý c ps ss ow y i).d:=`i;obtain⟨w1,OB⟩:∃w1,w1=c.getD i 0+d:=`i;obtain⟨sh,ml⟩:∃sh,sh=bf w1 cl:=`i;obtain⟨md,AO⟩:∃md,md=aX (w1-sh.sum) (ë ps Mi i):=`i;obtain⟨g',ed,kG⟩:=g.stepS TK II hu h5 okp lp js hi (by rw[OB,TL]) om ml AO;have gy:=ir (sort:=i) (year:=y) hu h5 okp;have oB:=dO (ss:=ss) (sort:=i) (year:=y) lp;rw[<-om]at gy oB;have E9:sh.length=cl.length:=by rw[ml];show û
   have IJ:0<=w1:=by have:=GJ (y:=y) II hu h5 okp lp js i;have:=jw II i;lia
   have gln:=g.len;have ggl:=g.glen;have iL:∀r∈cl,fl r 0=y/\aP ps r=i:=λr hr=>by rw[om]at hr;obtain⟨a1,a2,_⟩:=jx hr;show⟨a1,a2⟩
   have IC:(cl.map keyOf).Nodup:=by rw[om];show HB _
   have ID:∀r∈cl,¬keyOf r∈Mi.map keyOf:=λr hr hm=>by obtain⟨q',hq,e⟩:=Ù.mp hm;obtain⟨a1,a2⟩:=iL r hr;have e1:=By (ps:=ps) e;unfold cX at e1;injection e1 with e1 e2;unfold keyOf at e2;injection e2 with e2 _;rcases g.yr q' hq with z|z<;>lia
   have TQ:(c.map V.int)[i]?=some (.int (c.getD i 0)):=by rw[ì,ě,Ô À];rfl
   have TR:tc≠lk:=λz=>by rw[z,ip]at tw;cases tw
   rw[<-TL];show`e;apply aQ;show⟨_,O,_,O,_,O,_,O,ap,xp,ps,fo,H,Ä,ss,(i:Int),(y:Int),O,HZ.but W.k ip,lp,okp,OA.but W.k nf zI ip,λFs TU H2 s2 Fu tF=>?_⟩;rw[<-om]at tF;have W2:=W.same s2;apply aD;apply ab
   show`e;apply aQ;show⟨_,O,_,O,_,O,_,O,_,O,_,O,tc,_,(i:Int),.int (c.getD i 0),O,O,Ñ.of (W2.k _ _ TR tw),dZ TQ,_,O,_,_,O,O,lk,ps,Mi,Fs,TU,cl,(y:Int),(i:Int),w1,by rw[OB];rfl,W2.lka,À,Fu,tF,gy,oB,iL,IC,ID,IJ,λFA H3 kb Cb TV qS=>?_⟩;rw[<-ml]at Cb qS;obtain⟨Mo2,tI,_⟩:=id W2.lka;have OC:Fs≠lk:=λz=>by rw[z,tI]at Fu;cases Fu
   have WX:FA≠lk:=(az tI TV).symm;have OE:∀b z,H2 b=some (.tup z)->H3 b=some (.tup z):=λb z e=>kb _ _ (λw=>by rw[w,tI]at e;cases e) e;have W3:Wd ps Hy H3 lk lg ll xg G (Ý c ps ss ow y i).l (Mi++bB (cl.zip sh)):=⟨λb o n e=>kb _ _ n (W2.k b o n e),kb _ _ W2.nk W2.eg,W2.elg.keep OE,kb _ _ W2.nl W2.el,qS,W2.nk,W2.nl,W2.ng,W2.fg,W2.fl⟩;have oI:=kb _ _ OC Fu;have oP:=tF.keep OE;clear kb OE W2 tI Fu tF TV qS W s2;apply aD;apply ab
   show`e;apply aQ;have IE:TU.length=cl.length:=by rw[oP.1,Ï]
   show⟨_,O,_,O,_,O,Fs,FA,_,_,O,Ë.of oI,Ë.of Cb,?_⟩;show fG cl.length (λj ys σ Hd=>Â H3 Hd/\(∃o1 o2,σ=[o1,o2,some (.int y)])/\ß Hd ys (bZ ((cl.zip sh).take j))) ⟨Â.refl _,⟨_,_,O⟩,ß.nil⟩ ϟ ?_ ?_
   .rintro j ys σ Hd hj EN⟨sd,⟨o1,o2,rfl⟩,lI⟩;have Fh:j<sh.length:=À;obtain⟨t,ex,et⟩:=oP.2 j cl[j].tail (by rw[ì,Ô hj];rfl);have Fc:cl[j].tail=[fl cl[j] 1,fl cl[j] 2,fl cl[j] 3]:=by
     conv=>lhs;rw[bW (gy _ (ĕ hj)).1]
     rfl
    rw[Fc]at et;have ey:=(iL _ (ĕ hj)).1;have NW:(cl.zip sh)[j]?=some (cl[j],sh[j]):=by rw[Zbq];show⟨Ô hj,Ô Fh⟩
    have bq:(cl.zip sh).take (j+1)=(cl.zip sh).take j++[(cl[j],sh[j])]:=by rw[ġ,NW];rfl
    have TX:(sh.map V.int)[j]?=some (.int sh[j]):=by rw[ì,Ô Fh];rfl
    show⟨⟨_,_,_,_,Ë.of (sd _ _ oI),Ë.of (sd _ _ Cb),ex,TX⟩,λv H' yv R hR=>?_⟩;obtain⟨TT,OF,rfl,yv⟩:=yv;obtain⟨x',z',Jn,TY,rfl⟩:=yv _ _ (Ë.of (sd _ _ oI)) (Ë.of (sd _ _ Cb));rw[ex]at Jn;cases Jn;rw[TX]at TY;cases TY;have OG:=sd.updR (o:=.tup [V.ref t,V.int sh[j]]) OF;have kD:=OG _ _ et;show⟨TT,_,O,Ñ.of aa,O,_,_,O,_,_,O,O,?_⟩;show⟨_,O,_,_,O,O,_,O,?_⟩;by_cases hp:0<sh[j];.rw[ç hp];show bM ⟨_,O,_,O,t,_,0,.int (fl cl[j] 1),O,O,Ñ.of kD,O,_,O,t,_,1,.int (fl cl[j] 2),O,O,Ñ.of kD,O,_,O,zL,λt4 FC=>hR _ _ _ (by rw[à];show ys.length+1<=j+1;lia) ⟨OG.updR FC,⟨_,_,O⟩,?_⟩⟩;rw[bq,ig,Ê (show 0<(cl[j],sh[j]).2 from hp)];show((lI.same (Â.upd OF)).same (Â.upd FC)).app (ß.one ?_);rw[aa];show some (HO.tup [V.int y,_,_,_])=some (HO.tup [V.int (fl cl[j] 0),_,_,_]);rw[ey]
    .rw[č hp];show bG (hR _ _ _ À ⟨OG,⟨_,_,O⟩,?_⟩);rw[bq,ig,Ç (show¬0<(cl[j],sh[j]).2 from hp),Ĕ];show lI.same (Â.upd OF)
   rintro ys σ Hd EN⟨sd,_,lI⟩;rw[θ (by rw[ν];lia)]at lI;refine⟨⟨_,Ë.of (sd _ _ oI),by rw[IE];exact Ø _⟩,λD hD=>?_⟩;have sD:=sd.updR (o:=.lst ys) hD;have WD:=W3.same sD;have FD:=WD.elg.1;refine⟨lg,D,xg,ys,O,O,WD.eg,aa,by rw[FD,sizeLine_eq];have:i*(240*(y:Int).toNat+400)<=3*(240*(y:Int).toNat+400):=Nat.mul_le_mul_right _ À;lia,λjS kc=>?_⟩;have sp:=Â.upd (o:=.lst (xg++ys)) kc;have W4:Wd ps Hy (upd (upd Hd D (.lst ys)) jS (.lst (xg++ys))) lk jS ll (xg++ys) (G++bZ (cl.zip sh)) (Ý c ps ss ow y i).l (Mi++bB (cl.zip sh)):=by have WE:=WD.same sp;obtain⟨Mo4,wm,_⟩:=id WD.lka;refine⟨WE.k,aa,((WD.elg.app (lI.same (Â.upd hD))).same sp),WE.el,WE.lka,(az wm kc).symm,WE.nl,(az WD.el kc).symm,?_,WE.fl⟩;cases z:Hy jS with|none=>rfl;|some o=>rw[WD.k jS o (az wm kc).symm z]at kc;cases kc
   have AQ:=sp _ _ (sD _ _ Cb);have AR:=W4.k _ _ TR tw;generalize upd (upd Hd D (.lst ys)) jS (.lst (xg++ys))=H4 at W4 AQ AR⊢;generalize xg++ys=OH at W4;clear sp sD WD W3 lI kc hD sd oI oP Cb FD;apply aD;apply ab
   show`e;apply aQ;show⟨_,O,_,O,tc,_,(i:Int),.int (c.getD i 0),O,O,Ñ.of AR,dZ TQ,_,O,_,_,O,O,_,O,FA,sh,O,.inl (Ë.of AQ),_,_,O,O,?_⟩;rw[<-OB];apply aD;apply ab
   obtain⟨w2,WY⟩:∃w2,w2=w1-sh.sum:=`i;rw[<-WY]at kG AO ed⊢;have hN:∀r∈bB (cl.zip sh),fl r 0=y:=λr hr=>by obtain⟨p,hp,rfl⟩:=Ù.mp hr;show(iL _ (ϴ (show(p.1,p.2)∈_ from(ķ.mp hp).1)).1).1
   obtain⟨Mo,fz,oQ⟩:=id W4.lka;obtain⟨R,eR⟩:∃R,R=jR ps Mo:=`i;have pR:R.Perm Mo:=by rw[eR];show oO ps Mo
   have Cc:∀r∈R,r.length=4/\0<=fl r 3:=λr hr=>by
    rcases è.mp (oQ.mem_iff.mp (pR.mem_iff.mp hr))with z|z;.obtain⟨a1,_,_,a4⟩:=g.ok r z;show⟨a1,a4⟩
    .obtain⟨p,hp,rfl⟩:=Ù.mp z;have:=ŕ (ķ.mp hp).2;show⟨O,by show 0<=fl p.1 3-p.2;lia⟩
   have lLk:(bB (cl.zip sh)).length<=80:=by unfold bB;rw[Ï];show ř (Ϗ _ _) ?_;rw[ν];lia
   have lR:R.length<=10000:=by rw[pR.length_eq,oQ.length_eq,à];lia
   have WZ:(R.map keyOf).Nodup:=by
    show((pR.trans oQ).map keyOf).nodup_iff.mpr ?_;rw[é,Za9];show⟨g.kd,?_,λa ha b hb e=>?_⟩;.refine IC.sublist ?_;have:=(xT (cl.zip sh)).map keyOf;rw[fH (f:=iV) (λ_=>rfl) E9]at this;show this
    .subst e;obtain⟨p,hp,e⟩:=xR hb;show ID p.1 (ϴ (show(p.1,p.2)∈_ from hp)).1 (by rw[e];show ha)
   show`e;show⟨_,O,lk,Mo.map (ĳ ps),rkI,O,fz,λp hp=>?_,λq' l' row hq pm so hH=>?_⟩;.obtain⟨r,_,rfl⟩:=Ù.mp hp;have e:rkI (ĳ ps r).1=cX ps r:=BL (cX ps r);rw[e];show⟨O,by unfold cX;simp⟩
   have eL:l'.map row=R.map (cX ps):=by rw[eR,Dy];show gQ ?_ (ň.mpr so);rw[Ě]at pm;show pm.trans (.of_eq (Zbl λr _=>?_));show BL (cX ps r)
   have S7:=Â.upd (o:=.lst (l'.map V.ref)) hq;have wo:=aa (H:=H4) (a:=q') (o:=.lst (l'.map V.ref));have tJ:ß (upd H4 q' (.lst (l'.map V.ref))) (l'.map V.ref) (R.map (cX ps)):=by rw[<-eL];show vB λa ha=>S7 _ _ (hH a ha)
   have dq:q'≠jS/\q'≠ll/\q'≠lk:=⟨(az W4.eg hq).symm,(az W4.el hq).symm,(az fz hq).symm⟩;have W7:=W4.same S7;generalize upd H4 q' (.lst (l'.map V.ref))=H7 at W7 wo tJ⊢;generalize l'.map V.ref=xq at wo tJ⊢;clear W4 S7 hq pm so hH eL AQ AR;have TZ:xq.length=R.length:=by rw[tJ.1,Ï]
   show⟨q',O,⟨_,Ë.of wo⟩,?_⟩;show gb (xs:=xq) (λj σ Hk=>Xe3 λcK cS mm=>Xa5 (σ=[some (.ref ac),some (.ref ap),some (.ref ah),some (.ref fo),some (.ref lk),some (.ref lf),some (.int y),some (.ref tc),some (.ref jS),some (.int (w2-(aX w2 (eJ ps i y R j)).sum)),some (.ref ll),some (.int i),some (.ref Fs),some (.ref FA),cK,cS,fq]) (Wd ps Hy Hk lk jS ll mm (G++bZ (cl.zip sh)++bZ ((eJ ps i y R j).zip (aX w2 (eJ ps i y R j)))) (Ý c ps ss ow y i).l (mJ ps i y w2 R j)) (Hk q'=some (.lst xq)) (ß Hk xq (R.map (cX ps))) (0<=w2-(aX w2 (eJ ps i y R j)).sum)) ?_ ?_ ?_ ?_
   .refine⟨cK,cS,OH,?_,?_,wo,tJ,?_⟩;.show _=[_,_,_,_,_,_,_,_,_,some (V.int (w2-0)),_,_,_,_,_,_,_];rw[Int.sub_zero];rfl
    .rw[QD,show bZ ((eJ ps i y R 0).zip (aX w2 (eJ ps i y R 0)))=[]from O,Ĕ];show⟨W7.k,W7.eg,W7.elg,W7.el,W7.lka.pm (pR.trans oQ).symm,W7.nk,W7.nl,W7.ng,W7.fg,W7.fl⟩
    .show 0<=w2-0;lia
   .rintro j σ Hk hj⟨cK,cS,mm,rfl,Wk,Cf,lP,OI⟩;show Ë.of Cf
   .rintro j x σ Hk hx⟨cK,cS,mm,rfl,Wk,Cf,lP,OI⟩;have hj:j<R.length:=by have:=(ĉ.mp hx).1;lia
    obtain⟨t,ex,et⟩:=lP.2 j (cX ps R[j]) (by rw[ì,Ô hj];rfl);rw[hx]at ex;cases ex;have et:Hk t=some (.tup [.int (aP ps R[j]),.int (fl R[j] 0),.int (fl R[j] 1),.int (fl R[j] 2)]):=et;obtain⟨r4,r0⟩:=Cc _ (ĕ hj);have kd:=Pu (ps:=ps) (n:=i) (y:=y) (w:=w2) (j:=j) WZ;have FE:R[j]∈mJ ps i y w2 R j:=by rw[HX hj];show è.mpr (.inr (.head _))
    apply aD;show rQ λW5 OL=>?_;show aF λcB T3=>?_;apply aQ;have no:old ps i y R[j]=false->cB [some (.ref ac),some (.ref ap),some (.ref ah),some (.ref fo),some (.ref lk),some (.ref lf),some (.int y),some (.ref tc),some (.ref jS),some (.int (w2-(aX w2 (eJ ps i y R j)).sum)),some (.ref ll),some (.int i),some (.ref Fs),some (.ref FA),some (.ref t),some (.int 0),fq] Hk:=λhold=>by apply T3;show⟨_,O,_,_,O,O,_,O,bG ?_⟩;show OL _ _ ⟨_,_,mm,by rw[BP hj hold],?_,Cf,lP,by rw[BP hj hold];show OI⟩;rw[BP hj hold];show⟨Wk.k,Wk.eg,Wk.elg,Wk.el,Wk.lka.pm (Pr hj hold),Wk.nk,Wk.nl,Wk.ng,Wk.fg,Wk.fl⟩
    show⟨_,O,t,_,0,.int (aP ps R[j]),O,O,Ñ.of et,O,_,O,O,_,O,?_⟩;by_cases hs:aP ps R[j]=i
    .rw[ç (by rw[hs])];show bM ⟨_,O,t,_,1,.int (fl R[j] 0),O,O,Ñ.of et,O,_,O,_,_,O,O,_,O,?_⟩;by_cases ho:fl R[j] 0<y
     .rw[ç ho];show bM ⟨_,O,_,O,_,O,lk,.int (fl R[j] 3),O,Wk.lka.get kd FE et,_,_,O,?_⟩;have hold:old ps i y R[j]=true:=by unfold old;rw[ç hs,ç ho];rfl
      rw[HS];generalize hm:(if w2-(aX w2 (eJ ps i y R j)).sum<fl R[j] 3 then w2-(aX w2 (eJ ps i y R j)).sum else fl R[j] 3)=m;obtain⟨y1,y2,y3⟩:=MJ (w:=w2) hj hold hm.symm;have ME:0<=m/\m<=w2-(aX w2 (eJ ps i y R j)).sum/\m<=fl R[j] 3:=wP hm ‹_› ‹_›
      apply aD;apply T3
      show⟨_,O,_,_,O,O,_,O,?_⟩;have tN:(aX w2 (eJ ps i y R (j+1))).sum=(aX w2 (eJ ps i y R j)).sum+m:=by rw[y2,List.sum_append,š,List.sum_nil,Int.add_zero]
      by_cases hp:0<m
      .rw[ç hp];rw[Ê hp]at y3;apply bM;show`e;show⟨_,O,.inl ⟨O,_,Ë.of Wk.eg⟩,_,O,1,O,t,_,O,et,λtk HK sK bq=>⟨_,O,zL,λt1 tf=>?_⟩⟩;have bq:HK tk=some (.tup [.int (fl R[j] 0),.int (fl R[j] 1),.int (fl R[j] 2)]):=bq;have s1:=Â.upd (o:=.tup [V.int m]) tf;show⟨tk,t1,_,_,O,O,s1 _ _ bq,aa,by simp,(by show 3+1<=sizeLine;decide),λt2 HL sL kD=>?_⟩;have sX:=(sK.trans s1).trans sL;have FF:=Wk.same sX;have FG:=FF.elg.1;have T4:=sX _ _ et;have T5:=sX _ _ Cf;have FH:=lP.same sX;show⟨jS,mm,.ref t2,O,O,FF.eg,?_,?_⟩
       .have b1:(bZ (cl.zip sh)).length<=80:=by unfold bZ;rw[Ï];show ř (Ϗ _ _) ?_;rw[ν];lia
        have b2:(bZ ((eJ ps i y R j).zip (aX w2 (eJ ps i y R j)))).length<=10000:=by unfold bZ eJ;rw[Ï];show ř (Ϗ _ _) ?_;rw[ν];have:=Ϗ (old ps i y) (R.take j);rw[ė]at this;lia
        have b3:i*(240*(y:Int).toNat+400)<=3*(240*(y:Int).toNat+400):=Nat.mul_le_mul_right _ À;rw[FG,à,à,sizeLine_eq];lia
       have W8:=FF.gone (t:=t2) (r:=Ds (R[j],m)) kD;have keep:∀{b:Addr}{u:HO},b≠jS->HL b=some u->upd HL jS (.lst (mm++[.ref t2])) b=some u:=λ{b u}n e=>by rw[au n];show e
       have ba:∀b z,HL b=some (.tup z)->upd HL jS (.lst (mm++[.ref t2])) b=some (.tup z):=λb z e=>keep (λw=>by rw[w,FF.eg]at e;cases e) e;have T6:=keep dq.1 T5;have FI:=FH.keep ba;have OM:=ba _ _ T4;apply ab
       generalize upd HL jS (.lst (mm++[.ref t2]))=H8 at W8 T6 FI OM⊢;clear keep ba s1 tf FF FG T4 T5 FH sX sK sL bq kD;obtain⟨Mk,FK,ON⟩:=id W8.lka;have lMk:Mk.length<=10000:=by rw[ON.length_eq,MK];show lR
       have T7:=kd;rw[HX hj]at ON T7;obtain⟨Mn,W6,Xa⟩:=Dz (ps:=ps) (x:=fl R[j] 3-m) ON T7;show⟨_,O,_,O,lk,.int (fl R[j] 3),O,W8.lka.get kd FE OM,_,O,_,_,O,O,_,O,_,O,_,_,O,O,zL,λtp Xb=>?_⟩;have sP:=Â.upd (o:=.tup [V.int (fl R[j] 3-m),V.int (w2-(aX w2 (eJ ps i y R j)).sum-m)]) Xb;have eP:=aa (H:=H8) (a:=tp) (o:=.tup [V.int (fl R[j] 3-m),V.int (w2-(aX w2 (eJ ps i y R j)).sum-m)]);show⟨tp,_,O,Ñ.of eP,O,_,_,O,_,O,_,O,lk,_,O,ŷ.t (k:=(cX ps R[j]).map Sum.inl) (sP _ _ FK) (by rw[sP _ _ OM];rfl) (by rw[Ï,sizeLine_eq];lia),_,_,O,O,?_⟩;rw[W6];have W9:=(W8.same sP).put Xa;show OL _ _ ⟨some (.ref t),some (.int m),mm++[.ref t2],by rw[tN,<-Int.sub_sub];rfl,?_,?_,?_,by rw[tN];lia⟩;.rw[y3,y1,<-Ġ];show W9
       .rw[au dq.2.2];show sP _ _ T6
       .exact(FI.same sP).keep λb z e=>by rw[au λw=>by rw[w,sP _ _ FK]at e;cases e];show e
      .rw[č hp];have m0:m=0:=À;subst m0;rw[Ç hp,Ĕ]at y3;show bG (OL _ _ ⟨some (.ref t),some (.int 0),mm,by rw[tN,Int.add_zero];rfl,?_,Cf,lP,by rw[tN];lia⟩);have er:iV (R[j],0)=R[j]:=by
        unfold iV;conv=>rhs;rw[bW r4]
        show[_,_,_,fl R[j] 3-0]=_;rw[Int.sub_zero]
       rw[y3,y1,er,<-HX hj];show Wk
     .rw[č ho];show bG (aD (no ?_));unfold old;rw[č ho,Bool.and_false]
    .rw[č (λz=>hs (by injection z))];show bG (bG (aD (no ?_)));unfold old;rw[č hs];rfl
   rintro σ Hk⟨cK,cS,mm,rfl,Wk,Cf,lP,OI⟩;obtain⟨eE,pE⟩:=MN (w:=w2) g oQ hN;rw[<-eR]at eE pE;rw[TZ,eE,<-AO]at Wk;rw[TZ,eE,<-AO,ed];rw[<-AO]at pE;apply ab
   show⟨_,O,.inl ⟨O,_,Ë.of Wk.el⟩,_,O,ll,_,_,O,O,Wk.el,?_,?_⟩;.rw[Ï,(xK (c:=c) (ss:=ss) (ow:=ow) (y:=y) lp i).2.2,sizeLine_eq];lia
   have WB:=Wk.down (x:=(Ý c ps ss ow y (i+1)).d);rw[é]at WB;show WW _ _ ⟨_,_,_,_,_,jS,mm,_,_,O,⟨WB.k,WB.eg,WB.elg,WB.el,WB.lka.pm pE,WB.nk,WB.nl,WB.ng,WB.fg,WB.fl⟩,g',by rw[dz,dz,pG,lW,lW]⟩
  .rintro σ Hc⟨cb,eC,eI,cK,cS,lg,xg,G,Mi,rfl,W,g,pG⟩;apply CF;clear CF cc
   have qS:Lk ps (fW cs ps ss (y+1)) (y+1) Mi:=by show Lk ps (ĥ (Ý (cs.getD y []) ps ss (fW cs ps ss y) y 3).k) (y+1) Mi;rw[ec,how];show g.next okp js
   obtain⟨Mo,fz,oQ⟩:=id W.lka;have kd:(Mo.map keyOf).Nodup:=(oQ.map _).nodup_iff.mpr qS.kd;have lMo:Mo.length<=10000:=by have:=qS.len;have:=oQ.length_eq;lia
   show`e;apply aQ;show⟨lk,_,fz,λo=>?_⟩;have ez:=aa (H:=Hc) (a:=lk) (o:=.frz o (.dT (Mo.map (ĳ ps))));have sz:∀b u,b≠lk->Hc b=some u->upd Hc lk (.frz o (.dT (Mo.map (ĳ ps)))) b=some u:=λb u n e=>by rw[au n];show e
   generalize upd Hc lk (.frz o (.dT (Mo.map (ĳ ps))))=Hz at ez sz⊢;show⟨_,O,lk,o,_,O,ez,fG Mo.length (λj ys σ Hd=>Â Hz Hd/\(∃o1,σ=[o1,some (.ref lk)])/\ß Hd ys (cJ (Mo.take j))) ⟨Â.refl _,`i,ß.nil⟩ ϟ ?_ ?_⟩
   .rintro j ys σ Hd hj EN⟨sd,⟨o1,rfl⟩,lI⟩;have Xc:=qS.ok Mo[j] (oQ.mem_iff.mp (ĕ hj));have bq:cJ (Mo.take (j+1))=cJ (Mo.take j)++(if 0<fl Mo[j] 3 then[Mo[j]]else[]):=by
     rw[ġ,Ô hj,show(some Mo[j]).toList=[Mo[j]]from O,dz];congr 1;unfold cJ;by_cases h:0<fl Mo[j] 3;.rw[Ê h,μ (p:=λ(r:VV)=>decide (0<fl r 3)) (ç h)];rfl
     .rw[Ç h,δ (p:=λ(r:VV)=>decide (0<fl r 3)) (by rw[Ĥ];show h)];rfl
    show⟨⟨sd _ _ ez,by rw[Ï];show hj⟩,λx H' yv R hR=>?_⟩;obtain⟨rfl,bb,kk,vv,rfl,EU,sQ⟩:=yv;rw[ì,Ô hj]at EU;cases EU;have sQ:H' bb=some (.tup ((cX ps Mo[j]).map V.int)):=sQ;have gt:=BK (sd _ _ ez) kd (ĕ hj) sQ;apply aD;show⟨_,O,_,O,lk,_,O,gt,_,_,O,O,_,O,?_⟩;by_cases h:0<fl Mo[j] 3
    .rw[ç h];show bM ⟨_,O,1,O,bb,_,O,sQ,λtk HK sK AS=>⟨_,O,_,O,lk,_,O,BK (sK _ _ (sd _ _ ez)) kd (ĕ hj) (sK _ _ sQ),zL,λt1 tf=>?_⟩⟩;have s1:=Â.upd (o:=.tup [V.int (fl Mo[j] 3)]) tf;have AS:HK tk=some (.tup [.int (fl Mo[j] 0),.int (fl Mo[j] 1),.int (fl Mo[j] 2)]):=AS;show⟨tk,t1,_,_,O,O,s1 _ _ AS,aa,by simp,(by show 3+1<=sizeLine;decide),λt2 HL sL kD=>hR _ _ _ (by rw[à];show ys.length+1<=j+1;lia) ⟨((sd.trans sK).trans s1).trans sL,`i,?_⟩⟩;rw[bq,Ê h];show(((lI.same sK).same s1).same sL).app (ß.one ?_);rw[kD];conv=>rhs;rw[bW Xc.1]
     rfl
    .rw[č h];show bG (hR _ _ _ À ⟨sd,`i,?_⟩);rw[bq,Ç h,Ĕ];show lI
   rintro ys σ Hd EN⟨sd,_,lI⟩;rw[Ņ]at lI;show⟨⟨sd _ _ ez,by rw[Ï];show Ø _⟩,λD hD=>⟨Â.upd hD _ _ (sd _ _ ez),?_⟩⟩;have nD:D≠lk:=λz=>by rw[z,sd _ _ ez]at hD;cases hD
   have S6:Â Hc (upd (upd Hd D (.lst ys)) lk (.dT (Mo.map (ĳ ps)))):=λb u e=>by
    by_cases hb:b=lk;.subst hb;rw[fz]at e;cases e;show aa
    .rw[au hb];show Â.upd hD _ _ (sd _ _ (sz _ _ hb e))
   have eD:upd (upd Hd D (.lst ys)) lk (.dT (Mo.map (ĳ ps))) D=some (.lst ys):=by rw[au nD];show aa
   have FO:upd Hd D (.lst ys) lk=some (.frz o (.dT (Mo.map (ĳ ps)))):=Â.upd hD _ _ (sd _ _ ez);have ja:ß (upd (upd Hd D (.lst ys)) lk (.dT (Mo.map (ĳ ps)))) ys (cJ Mo):=(lI.same (Â.upd hD)).keep λb z e=>by rw[au λw=>by rw[w,FO]at e;cases e];show e
   generalize upd (upd Hd D (.lst ys)) lk (.dT (Mo.map (ĳ ps)))=H6 at S6 eD ja⊢;clear lI sd sz ez hD FO;obtain⟨ads,ey,GH,OO⟩:=lQ ja;subst ey;show⟨D,ads,iu H6,O,Ë.of eD,λa ha=>⟨Ñ.of (OO a ha),λz=>?_⟩,λq' l' hq Xd pm HI=>?_⟩
   .have:iu H6 a∈cJ Mo:=by rw[GH];show List.mem_map_of_mem ha
    have:=(qS.ok _ (oQ.mem_iff.mp (ķ.mp this).1)).1;rw[z]at this;cases this
   have S7:=S6.updR (o:=.lst (l'.map V.ref)) hq;apply aD;apply ab
   have HU:l'.map (iu H6)=fW cs ps ss (y+1):=by show(gQ ?_ (ň.mpr HI)).trans (gQ (List.Perm.refl _) (Kv cs ps ss (y+1))).symm;show(pm.map _).trans ?_;rw[<-GH];show(oQ.filter _).trans qS.pm
   have elq:ß (upd H6 q' (.lst (l'.map V.ref))) (l'.map V.ref) (fW cs ps ss (y+1)):=by rw[<-HU];show vB λa ha=>Â.upd hq _ _ (OO a (pm.mem_iff.mp ha))
   have wo:=aa (H:=H6) (a:=q') (o:=.lst (l'.map V.ref));have W7:=W.same S7;have OP:Hc q'=none:=S6.free hq;generalize upd H6 q' (.lst (l'.map V.ref))=H7 at W7 wo elq⊢;generalize l'.map V.ref=xq at wo elq;clear OO GH ja eD S6 hq pm HI HU S7;obtain⟨Xe,FR,OQ⟩:=id W7.lka;have AU:=W7.k _ _ N4 tq;have T8:q'≠lf:=λz=>by rw[z,W.k _ _ N4 tq]at OP;cases OP
   have Xf:q'≠lk:=(az fz OP).symm;obtain⟨OR,Xg,FU,FV⟩:=lQ W7.elg;have T9:=W7.eg;rw[Xg]at T9;show⟨_,O,.inl ⟨O,_,Ë.of AU⟩,_,O,lg,OR,iu H7,O,Ë.of T9,λa ha=>⟨Ñ.of (FV a ha),λz=>?_⟩,λg2 l2 y7 OS h8 BG=>?_⟩
   .have:iu H7 a∈G:=by rw[FU];show List.mem_map_of_mem ha
    have:=g.g4 _ this;rw[z]at this;cases this
   have Xh:l2.map (iu H7)=ĥ (fX cs ps ss y).g:=by unfold fX;rw[ec,how,<-g.gn,pG];show gQ ?_ (ň.mpr BG);have:=h8.map (iu H7);rw[<-FU]at this;show this
   have v1:=Â.upd (o:=.lst (l2.map V.ref)) y7;have OT:ß (upd H7 g2 (.lst (l2.map V.ref))) (l2.map V.ref) (ĥ (fX cs ps ss y).g):=by rw[<-Xh];show vB λa ha=>v1 _ _ (FV a (h8.mem_iff.mp ha))
   have Xi:=aa (H:=H7) (a:=g2) (o:=.lst (l2.map V.ref));have Xj:g2≠lk:=(az FR y7).symm;have FX:g2≠lf:=(az AU y7).symm;show⟨_,O,ll,_,O,.inl ⟨Ë.of (v1 _ _ W7.el),λtl HP=>?_⟩⟩;have v2:=Â.upd (o:=.tup ((Ý c ps ss ow y 3).l.map V.int)) HP;have EM:=aa (H:=upd H7 g2 (.lst (l2.map V.ref))) (a:=tl) (o:=.tup ((Ý c ps ss ow y 3).l.map V.int));have FY:=OT.same v2;have Ua:=v2 _ _ Xi;have qV:=v1.trans v2;generalize upd (upd H7 g2 (.lst (l2.map V.ref))) tl (.tup ((Ý c ps ss ow y 3).l.map V.int))=H9 at qV EM FY Ua⊢;show⟨_,O,zL,λt8 AL=>?_⟩;have AV:=qV _ _ AU;have u8:=Â.upd (o:=.tup [.ref g2,.ref tl,.ref q']) AL;show⟨lf,ts.map V.ref,.ref t8,O,O,u8 _ _ AV,by rw[Ï,lt,sizeLine_eq];lia,?_⟩;have Xk:t8≠lf:=λz=>by rw[z,AV]at AL;cases AL
   have oS:∀{o:HO}b u,b≠lf->H9 b=some u->upd (upd H9 t8 (.tup [.ref g2,.ref tl,.ref q'])) lf o b=some u:=λ{o}b u n e=>by rw[au n];show u8 _ _ e
   have keep:∀{o:HO}b u,b≠lf->H7 b=some u->upd (upd H9 t8 (.tup [.ref g2,.ref tl,.ref q'])) lf o b=some u:=λ{o}b u n e=>oS b u n (qV _ _ e);have Xl:=OA.but W7.k nf zI ip;show BF _ _ ⟨_,_,_,_,_,_,_,_,_,_,_,Mi,ts++[t8],O,λb o e=>keep _ _ (az e TJ) (W7.k _ _ (az e zI) (k1 _ _ e)),⟨Xe,keep _ _ N4.symm FR,OQ⟩,qS,?_,?_,by rw[à,lt];rfl,λj a e=>?_⟩;.exact Ķ.butL (xl:=[]) N9 Xl (λb o n e=>keep _ _ n e) B9 sA
   .rw[aa,é];rfl
   .by_cases hj:j<ts.length;.rw[ŭ hj]at e;show(IJ j a e).keep (λb o n1 n2 e=>keep _ _ n2 (W7.k _ _ n1 e)) ip tq
    .have iO:j=y:=by have:=(ĉ.mp e).1;rw[à]at this;simp at this;lia
     subst iO;rw[Ů À,lt,Zbx]at e;cases e;have kt:∀{o:HO}b z,H9 b=some (.tup z)->upd (upd H9 t8 (.tup [.ref g2,.ref tl,.ref q'])) lf o b=some (.tup z):=λ{o}b z e=>oS b _ (λw=>by rw[w,AV]at e;cases e) e;have OU:H9 tl=some (.tup ((fX cs ps ss j).l.map V.int)):=by unfold fX;rw[ec,how];show EM
     show⟨g2,tl,q',_,_,by rw[au Xk];show aa,Xj,FX,oS _ _ FX Ua,FY.keep kt,OS,Xf,T8,keep _ _ T8 wo,(elq.same qV).keep kt,Xd,kt _ _ OU⟩
 .rintro σ Hc⟨x6,x7,x8,x9,cq,cb,eC,eI,cK,cS,fq,M,ts,rfl,k,la,IH,dt,qE,lt,hw⟩;rw[show xc.length=cs.length from rc.l]at lt;show⟨_,O,q lf lk ts Hc k TJ qE lt hw⟩
end K60
open K60Q (okC)
namespace K60
open PySem L2
theorem ni:∀{ds:Ż},(∀d∈ds,ÿ d=true)->gm ds=true|[],_=>rfl|d::ds,h=>by show(ÿ d&&gm ds)=true;rw[h d (.head _),ni λe he=>h e (.tail _ he)];rfl
theorem HY(h:∀i∈r,-10<=i/\i<=2000000):ÿ (rowD r)=true:=by show ni λd hd=>?_;obtain⟨i,hi,rfl⟩:=Ù.mp hd;have:=h i hi;show ç À
theorem jy{rs:UV}(h:∀r∈rs,∀i∈r,-10<=i/\i<=2000000):gm (rs.map rowD)=true:=ni λd hd=>by obtain⟨r,hr,rfl⟩:=Ù.mp hd;show HY (h r hr)
theorem nu:∀(is:VV),ņ (is.map PyData.int)=is.length|[]=>rfl|i::is=>by show 1+ņ (is.map PyData.int)=is.length+1;rw[nu is];lia
theorem jk:∀{rs:UV},(∀r∈rs,r.length=k)->ņ (rs.map rowD)=(k+1)*rs.length|[],_=>rfl|r::rs,h=>by show(1+ņ (r.map PyData.int))+ņ (rs.map rowD)=(k+1)*(rs.length+1);rw[nu,h r (.head _),jk λq hq=>h q (.tail _ hq),Nat.mul_add];lia
theorem qR:∀(is:VV),PyData.depthAll (is.map PyData.int)=0|[]=>rfl|i::is=>by show max 0 (PyData.depthAll (is.map PyData.int))=0;rw[qR is];rfl
theorem qT:∀(rs:UV),PyData.depthAll (rs.map rowD)<=1|[]=>Ė _|r::rs=>by show max (PyData.depthAll (r.map PyData.int)+1) (PyData.depthAll (rs.map rowD))<=1;rw[qR];have:=qT rs;lia
theorem MP(h:okP r):∀i∈r,-10<=i/\i<=2000000:=by obtain⟨h0,h1,h2,h3,h4,h5⟩:=h;rw[six_row h0];intro i hi;simp only[List.mem_cons,List.not_mem_nil,or_false]at hi;rcases hi with rfl|rfl|rfl|rfl|rfl|rfl<;>lia
theorem vC:∀{xs:List V}{rs:UV},ß H xs rs->Ð S H xs (rs.map rowD)|[],[],_=>.nil|[],_::_,h=>by have:=h.1;simp at this;|_::_,[],h=>by have:=h.1;simp at this;|x::xs,r::rs,h=>by obtain⟨t,e1,e2⟩:=h.2 0 r O;rw[List.getElem?_cons_zero]at e1;cases e1;show .cons (.tup e2 (Ð.ints r)) (vC ⟨by have:=h.1;simpa using this,λi q e=>?_⟩);obtain⟨u,g1,g2⟩:=h.2 (i+1) q (by rw[Zbd];show e);rw[Zbd]at g1;show⟨u,g1,g2⟩
def bd(r:VV):Prop:=r.length=4/\∀x∈r,0<=x/\x<=99
theorem vD(ha:0<=a/\a<=99)(hb:0<=b/\b<=99)(hc:0<=c/\c<=99)(hd:0<=d/\d<=99):bd [a,b,c,d]:=by show⟨O,λx hx=>?_⟩;simp only[List.mem_cons,List.not_mem_nil,or_false]at hx;rcases hx with rfl|rfl|rfl|rfl<;>assumption
theorem vG(h:bd r):(0<=fl r 0/\fl r 0<=99)/\(0<=fl r 1/\fl r 1<=99)/\(0<=fl r 2/\fl r 2<=99)/\(0<=fl r 3/\fl r 3<=99):=by obtain⟨h4,h⟩:=h;rw[bW h4]at h;show⟨h _ Õ,h _ Õ,h _ Õ,h _ Õ⟩
theorem Py:∀{w:Int}{S:UV},∀p∈S.zip (aX w S),p.2<=fl p.1 3:=λ{w S}=>by induction S generalizing w with|nil=>intro p hp;cases hp;|cons r S ih=>
  intro p hp;unfold aX at hp;rw[Zb2]at hp;rcases ļ.mp hp with z|z;.rw[z];show(if w<fl r 3 then w else fl r 3)<=fl r 3;split<;>lia
  .exact ih p z
theorem MT{ps ss ow:UV}(y0:0<=y)(y1:y<=99)(hc:∀x∈c,0<=x)(hu:un ps ss=none)(h5:∀s∈ss,s.length=5)(okp:∀r∈ps,okP r)(hl:ps.length<=10)(ho:∀r∈ow,ϻ ps r)(hb:∀r∈ow,bd r):∀n,(∀r∈(Ý c ps ss ow y n).g,bd r)/\∀r∈(Ý c ps ss ow y n).k,bd r
 |0=>⟨λr hr=>(by cases hr),λr hr=>(by cases hr)⟩|n+1=>by
  obtain⟨a,b⟩:=MT (c:=c) (y:=y) y0 y1 hc hu h5 okp hl ho hb n;have nn:=GJ (y:=y) hc hu h5 okp hl ho n;have hw:0<=c.getD n 0+(Ý c ps ss ow y n).d:=by have:=jw hc n;lia
  have gy:=ir (sort:=n) (year:=y) hu h5 okp;have oB:=dO (ss:=ss) (sort:=n) (year:=y) hl;generalize Ub:c.getD n 0+(Ý c ps ss ow y n).d=w at hw;have Uc:∀p∈(aK ps ss n y++aN ps ow n).zip (Ę w (aK ps ss n y) (aN ps ow n)),bd p.1/\0<=p.2/\p.2<=fl p.1 3:=λp hp=>by
   obtain⟨m1,m2⟩:=ϴ (show(p.1,p.2)∈_ from hp);have s0:=(yU hw gy oB (λr hr=>by have:=(ji (sort:=n) ho r hr).2.2.2;lia)).1 p.2 m2;show⟨?_,s0,?_⟩
   .rcases è.mp m1 with z|z;.obtain⟨a1,a2,a3,a4,a5,a6⟩:=jx z;obtain⟨b1,b2,b3⟩:=gy _ z;rw[bW b1];show vD À À À À
    .exact hb _ (ķ.mp z).1
   .unfold Ę at hp;rw[List.zip_append û.symm]at hp;rcases è.mp hp with z|z;.exact Ku hw gy oB p z
    .exact Py p z
  show⟨λr hr=>?_,λr hr=>?_⟩
  .rcases è.mp (show r∈(Ý c ps ss ow y n).g++bZ _ from hr)with z|z;.exact a r z
   .rw[Ub]at z;obtain⟨p,hp,rfl⟩:=Ù.mp z;obtain⟨b1,b2,b3⟩:=Uc p (ķ.mp hp).1;obtain⟨g0,g1,g2,g3⟩:=vG b1;show vD g0 g1 g2 À
  .rcases è.mp (show r∈(Ý c ps ss ow y n).k++bB _ from hr)with z|z;.exact b r z
   .rw[Ub]at z;obtain⟨p,hp,rfl⟩:=Ù.mp z;obtain⟨b1,b2,b3⟩:=Uc p (ķ.mp hp).1;obtain⟨g0,g1,g2,g3⟩:=vG b1;show vD g0 g1 g2 À
theorem Kw{cs:UV}(h:∀r∈cs,r.length=3/\∀x∈r,0<=x)(n:Nat):∀x∈cs.getD n [],0<=x:=λx hx=>by rw[ě]at hx;cases e:cs[n]? with|none=>rw[e]at hx;cases hx;|some r=>rw[e]at hx;show(h r (ń e)).2 x hx
theorem Ky(iL:∀r∈cs,r.length=3/\∀x∈r,0<=x)(hl:ps.length<=10)(hu:un ps ss=none)(h5:∀s∈ss,s.length=5)(okp:∀r∈ps,okP r):∀n,n<=20->∀r∈fW cs ps ss n,bd r|0,_,r,hr=>by cases hr;|n+1,hn,r,hr=>by have ih:=Ky iL hl hu h5 okp n À;obtain⟨js,_⟩:=uc (cs:=cs) hl hu h5 okp n;show(MT (y:=n) À À (Kw iL n) hu h5 okp hl js ih 3).2 r ((iR _).mem_iff.mp hr)
theorem Pz(iL:∀r∈cs,r.length=3/\∀x∈r,0<=x)(hl:ps.length<=10)(hu:un ps ss=none)(h5:∀s∈ss,s.length=5)(okp:∀r∈ps,okP r)(hn:n<16):(∀r∈ĥ (fX cs ps ss n).g,bd r)/\(ĥ (fX cs ps ss n).g).length<=11040:=by obtain⟨js,Nl⟩:=uc (cs:=cs) hl hu h5 okp n;have hb:=Ky iL hl hu h5 okp n À;show⟨λr hr=>(MT (y:=n) À À (Kw iL n) hu h5 okp hl js hb 3).1 r ((iR _).mem_iff.mp hr),?_⟩;rw[(iR _).length_eq];have:=(xK (c:=cs.getD n []) (ss:=ss) (ow:=fW cs ps ss n) (y:=n) hl 3).1;unfold fX;lia
theorem um(rs:UV):ä (bU rs)=rs:=by show(rs.map rowD).map (λx=>(items x).map ð)=rs;rw[Ě];show(Zbl λr _=>?_).trans (Zb9 rs);show((r.map PyData.int)).map ð=r;rw[Ě];show Zb9 r
theorem jz{n:Nat}(h:r.length=n):bC (rowD r) n=true:=by
 show(bH (.tuple (r.map PyData.int)) n n&&(r.map PyData.int).all dD)=true;rw[ŉ];show⟨?_,Ε.mpr λx hx=>?_⟩;.show(true&&(decide ((n:Int)<=(r.map PyData.int).length)&&decide (((r.map PyData.int).length:Int)<=n)))=true;rw[Ï,h,ç (Ϯ _)];rfl
 .obtain⟨i,_,rfl⟩:=Ù.mp hx;rfl
theorem zj(h1:a<=ds.length)(h2:(ds.length:Int)<=b):bH (.tuple ds) a b=true:=by show(true&&(decide (a<=(ds.length:Int))&&decide ((ds.length:Int)<=b)))=true;rw[ç h1,ç h2];rfl
theorem K1{cs ps ss:UV}(we:1<=cs.length)(lc:cs.length<=20)(okc:∀r∈cs,okC r)(lp:ps.length<=10)(okp:∀r∈ps,okP r)(ls:ss.length<=12)(h5:∀s∈ss,s.length=5)(hu:un ps ss=none):tX (.tuple [bU cs,bU ps,bU ss])=true:=by
 have b0:jd (bU cs)=true:=by show(bH (.tuple (cs.map rowD)) 1 20&&(cs.map rowD).all tV)=true;rw[zj (by rw[Ï];lia) (by rw[Ï];lia),Zcd];show Ε.mpr λx hx=>?_;obtain⟨r,hr,rfl⟩:=Ù.mp hx;obtain⟨h3,hb⟩:=okc r hr;show(bC (rowD r) 3&&(r.map PyData.int).all λx=>decide (0<=ð x)&&decide (ð x<=999))=true;rw[show bC (rowD r) 3=true from jz h3,Zcd];show Ε.mpr λx hx=>?_;obtain⟨i,hi,rfl⟩:=Ù.mp hx;have:=hb i hi;show(decide (0<=i)&&decide (i<=999))=true;rw[ç À,ç À];rfl
 have b1:fO (bU ps)=true:=by
  show(bH (.tuple (ps.map rowD)) 0 10&&(ps.map rowD).all je)=true;rw[zj À (by rw[Ï];lia),Zcd];show Ε.mpr λx hx=>?_;obtain⟨r,hr,rfl⟩:=Ù.mp hx;obtain⟨h6,h1,h2,h3,h4,OV⟩:=okp r hr;show(bC (rowD r) 6&&mR (at_ (rowD r) 0) (at_ (rowD r) 1) (at_ (rowD r) 2) (at_ (rowD r) 3) (at_ (rowD r) 4) (at_ (rowD r) 5))=true;rw[show bC (rowD r) 6=true from jz h6,Zcd];have ea:∀i,i<6->at_ (rowD r) i=fl r i:=λi hi=>by unfold at_ fl;show ð ((r.map PyData.int).getD i .none)=r.getD i 0;rw[ě,ě,ì,Ô À];rfl
  rw[ea 0 á,ea 1 á,ea 2 á,ea 3 á,ea 4 á,ea 5 á];unfold mR;simp only[Bool.and_eq_true,Ĥ];show⟨h1,h2,⟨h3.1,h3.2.1,h3.2.2⟩,h4,OV⟩
 have b2:fP (bU ss)=true:=by show(bH (.tuple (ss.map rowD)) 0 12&&(ss.map rowD).all λx=>bC x 5)=true;rw[zj À (by rw[Ï];lia),Zcd];show Ε.mpr λx hx=>?_;obtain⟨r,hr,rfl⟩:=Ù.mp hx;show jz (h5 r hr)
 show(bH (.tuple [bU cs,bU ps,bU ss]) 3 3&&(jd (bU cs)&&(fO (bU ps)&&(fP (bU ss)&&(un (ä (bU ps)) (ä (bU ss))).isNone))))=true;rw[b0,b1,b2,um,um,hu];rfl
inductive Μ(vs:List V)(H:Hp)(Q:VK):Prop|mk:∀S a b ds,(vs=[.ref a,.ref b])->(¬S sysModules)->(Ü S H (.ref a) (.list ds))->(Ü S H (.ref b) (.list ds))->(ÿ (.list ds)=true)->(sz (.list ds)<=80000)->((PyData.list ds).depth<=4)->(Q (.bl true) H)->Μ  vs H Q
def BV:Sp:=λvs H Q _=>Μ  vs H Q
variable{P:Program}{w:World}{K:Frag}{mg:UW}{base:Heap}{f:Addr}{fd:FuncData}
theorem BW(hr:ą k A)(h:d<=4):A.units+(d+1)<cLine:=by have:=hr.un;lia
theorem I9(F:ü K "_law_same" "_law_same" (top 61) f fd)(Tr:mg "repr"=none):Ú P w K mg base ù 61 f fd [AAm,AAt] BV:=by show F.oq Qn `b;obtain⟨S,a,b,ds,rfl,hS,t1,t2,m,z,dp,q⟩:=h;show⟨_,aC (aV (jX jV (aM (qw (S:=S) hr.gd hS) O Tr qD (aO (pv 0) aj)) (aM (qw (S:=S) hr.gd hS) O Tr qD (aO (pv 1) aj)) (bx _))),?_⟩;show⟨_,O,a,ds,O,t1,m,z,BW hr dp,_,O,b,ds,O,t2,m,z,BW hr dp,O,?_⟩;rw[ç O];show q
def PB(t:TA):TE:=λσ H Q=>t σ H λxs H1=>xs.length<=sizeLine/\∀p,H1 p=none->p≠sysModules->Q (.ref p) (upd H1 p (.lst xs))
theorem BX(h:PA X es t):PE X (.List es pos) (PB t):=by intro Á s σ H Q I hq;show wpAny_List_spliced (Û (h pos Á s σ H _ I hq) λus s1⟨xs,H1,I1,r,z,q⟩=>⟨by rw[<-r.length];show z,?_⟩);have hf:H1 s1.heap.objs.size=none:=I1.hok.fresh (Ø _);show⟨.ref s1.heap.objs.size,upd H1 s1.heap.objs.size (.lst xs),I1.laid (t':=s1.toks) (λb u e=>ò _ e) (Ø _) ?_,O,q _ hf (Θ I1.big)⟩;show⟨z,us,0,r,Ģ _ O⟩
theorem Ia(h:okP r):je (rowD r)=true:=by
 obtain⟨h6,h1,h2,h3,h4,OV⟩:=h;show(bC (rowD r) 6&&mR (at_ (rowD r) 0) (at_ (rowD r) 1) (at_ (rowD r) 2) (at_ (rowD r) 3) (at_ (rowD r) 4) (at_ (rowD r) 5))=true;rw[show bC (rowD r) 6=true from jz h6,Zcd];have ea:∀i,i<6->at_ (rowD r) i=fl r i:=λi hi=>by unfold at_ fl;show ð ((r.map PyData.int).getD i .none)=r.getD i 0;rw[ě,ě,ì,Ô À];rfl
 rw[ea 0 á,ea 1 á,ea 2 á,ea 3 á,ea 4 á,ea 5 á];unfold mR;simp only[Bool.and_eq_true,Ĥ];show⟨h1,h2,⟨h3.1,h3.2.1,h3.2.2⟩,h4,OV⟩
theorem Ib(lp:ps.length<=10)(hu:un ps ss=none)(h5:∀s∈ss,s.length=5)(okp:∀r∈ps,okP r)(hn:n<20):(ĥ (fX cs ps ss n).g).length<=100000:=by unfold ĥ;rw[(Zbg _ Ŏ).length_eq];have h1:=(xK (c:=cs.getD n []) (ss:=ss) (ow:=fW cs ps ss n) (y:=n) lp 3).1;have h2:=(uc (cs:=cs) lp hu h5 okp n).2;unfold fX;lia
theorem Ie(hN:N<=10)(hY:Y<=20)(h:ω N Y r):ω 10 20 r:=by obtain⟨a,b,c,d,e,f,g⟩:=h;show⟨a,b,À,d,À,f,g⟩
theorem Ig{ps fr:UV}(h:n<ps.length):(ps++fr).getD n []=ps.getD n []:=by rw[ě,ě,ŭ h]
theorem vH(hu:un ps ss=none):un (ps++fr) ss=none:=by
 show vm λj hj=>?_;have h:=yS hu j hj;generalize ss.getD j []=s at h⊢;generalize ss.take j=sa at h⊢;unfold cG at h⊢;obtain⟨h1,h2⟩:=Bool.and_eq_true_iff.mp h;have A3:=h1;unfold rP at A3;simp only[Bool.and_eq_true,Ĥ]at A3;have e:nW (ps++fr) s=nW ps s:=by unfold nW;show Ig ((Int.toNat_lt A3.1.1).mpr A3.1.2)
 rw[e,h2,Bool.and_true];unfold rP at h1⊢;rw[e];simp only[Bool.and_eq_true,Ĥ]at h1⊢;rw[à];show⟨⟨h1.1.1,Int.lt_of_lt_of_le A3.1.2 (Int.ofNat_le.mpr (Nat.le_add_right ..))⟩,h1.2⟩
def gA(cs ps ss:UV)(n:Nat):UV:=ĥ (fX cs ps ss n).g
inductive Ŷ(cs ps ss:UV)(m:VV):Nat->UV->Prop|nil:Ŷ cs ps ss m 0 []|cons{n:Nat}{R C:UV}(h:Ŷ cs ps ss m n R)(c:Mz (gA cs ps ss n) (gA cs (ps++[m]) ss n) C):Ŷ cs ps ss m (n+1) (R++Ϧ n (gA cs ps ss n) (gA cs (ps++[m]) ss n) C)
inductive Z0o(vs:List V)(H:Hp)(Q:VK):Prop|mk:∀S bk tm d ac xc cs ap xp ps ah xs ss m,(vs=[.ref bk,.ref tm])->(Ü S H (.ref bk) d)->(sz d<=4000)->(tX d=true)->(Ć H bk ac xc cs ap xp ps ah xs ss)->(1<=cs.length)->(ps.length<10)->(H tm=some (.tup (m.map V.int)))->(okP m)->(∀l ys R H',Â H H'->H l=none->l≠sysModules->H' l=some (.lst ys)->ß H' ys R->Ŷ cs ps ss m cs.length R->Q (.ref l) H')->Z0o  vs H Q
def PJ:Sp:=λvs H Q _=>Z0o  vs H Q
theorem ŗ:Å ["book","promise","clips","promises","sales","late","moves","year","before","after"] ["book","promise"] (aG (top 56)):=ċ
theorem PK(F:ü K "moved_by" "moved_by" (top 56) f fd)(N:Nums mg)(Te:mg "enumerate"=none)(Tz:mg "zip"=none)(c1:í P w K mg base 7 "refuse_no_book" ["thing"] GX)(c2:í P w K mg base 3 "is_promise" ["thing"] (Ŗ je))(c3:í P w K mg base 1 "refuse_one_more" ["rows","most"] Hm)(c4:í P w K mg base 11 "gifts_by_year" ["book"] Kq)(c5:í P w K mg base 2 "moves_in" ["year","before","after"] Pj):Ú P w K mg base ù 12 f fd ["book","promise"] PJ:=by
 show F.oq ŗ `b;obtain⟨S,bk,tm,d,ac,xc,cs,ap,xp,ps,ah,xs,ss,m,rfl,th,hz,hb,B,we,lp,em,Cn,q⟩:=h;obtain⟨t1,e1⟩:=N.proms;show K60P.ok_b (aH ⟨dJ (aJ c1 hr (aq (pv 0) aj))⟩ (aH ⟨cM (dY (fZ (aJ c2 hr (aq (pv 1) aj)))) (aC iW) bz⟩ (aH ⟨cP (pv 0) (bF O (ao (Ó 2 ŗ.nd) (ao (Ó 3 ŗ.nd) (ao (Ó 4 ŗ.nd) aR))))⟩ (aH ⟨dJ (aJ c3 hr (aq (pv 3) (aq (cC (v:=.int 10) O e1 `i) aj)))⟩ (aH (gY 5 ŗ.nd ⟨bh (aq (pv 2) (aq (aU K60Q.op_catU (pv 3) (bh (aq (pv 1) aj))) (aq (pv 4) aj)))⟩) (aH ⟨Ĝ 6 ŗ.nd (BX aj)⟩ (aH ⟨bR Ń O (EZ.pi_q O Te O Tz (aq (aJ c4 hr (aq (pv 0) aj)) (aq (aJ c4 hr (aq (pv 5) aj)) aj))) (bF O (ao (Ó 7 ŗ.nd) (ao (bF O (ao (Ó 8 ŗ.nd) (ao (Ó 9 ŗ.nd) aR))) aR))) (aC (mj (i:=6) ŗ.nd O (Or.inl O) (aJ c5 hr (aq (pv 7) (aq (pv 8) (aq (pv 9) aj)))) qg))⟩ (bQ (mH ⟨pv 6⟩))))))))) ?_;show`e;show⟨_,O,S,_,d,O,th,hz,hb,λH1 s1=>?_⟩;apply ab
 show`e;show⟨_,O,λ_=>False,.ref tm,rowD m,O,.tup (s1 _ _ em) (Ð.ints m),?_,λH2 s2=>⟨_,O,?_⟩⟩;.show 1+ņ (m.map PyData.int)<=4000;rw[nu,Cn.1];decide
 rw[Ia Cn];show bG (eF ?_);apply ab
 have k2:=s1.trans s2;have B2:=B.same k2;have Ud:=k2 _ _ em;show`e;show⟨_,O,bk,_,O,Ñ.of B2.e,O,_,_,O,_,_,O,_,_,O,O,?_⟩;apply ab
 show`e;show⟨_,O,ap,xp,10,O,B2.rp.e,by rw[B2.rp.l];lia,?_⟩;apply ab
 show`e;apply aQ;show⟨_,O,_,O,_,O,by show 1<=sizeLine;decide,λu1 F1=>?_⟩;have s3:=Â.upd (o:=.tup [V.ref tm]) F1;show⟨ap,u1,xp,_,O,O,s3 _ _ B2.rp.e,aa,by simp,by rw[B2.rp.l,sizeLine_eq];show _+1<=_;lia,λc H4 s4 ec=>⟨_,O,by show 3<=sizeLine;decide,λtn Ue=>?_⟩⟩;apply aD;apply ab
 have s5:=Â.upd (o:=.tup [V.ref ac,V.ref c,V.ref ah]) Ue;have k5:=((k2.trans s3).trans s4).trans s5;have B5:=B2.same ((s3.trans s4).trans s5);have rc:=(K60Q.rows_snoc ((B2.rp.same s3).same s4) (s4 _ _ (s3 _ _ Ud)) ec).same s5;have bN:Ć (upd H4 tn (.tup [V.ref ac,V.ref c,V.ref ah])) tn ac xc cs c (xp++[V.ref tm]) (ps++[m]) ah xs ss:=⟨aa,B5.rc,B5.okc,B5.lc,rc,by rw[à];show ps.length+1<=10;lia,λr' mh=>by
  rcases è.mp mh with z|z;.exact B.okp r' z
  .rw[ĸ.mp z];show Cn,B5.rs,B5.ls,B5.h5,vH B.un⟩;generalize upd H4 tn (.tup [V.ref ac,V.ref c,V.ref ah])=H5 at bN k5 B5⊢;clear s3 s4 s5 rc ec Ue F1 B2 Ud;show`e;apply aQ;show⟨zL,λlm kC EB=>?_⟩;apply aD;apply ab
 have s6:=Â.upd (o:=.lst []) kC;have k6:=k5.trans s6;have EO:H lm=none:=k5.free kC;have jv:=aa (H:=H5) (a:=lm) (o:=.lst []);have B6:=B5.same s6;have b6:=bN.same s6;generalize upd H5 lm (.lst [])=H6 at k6 jv B6 b6⊢;clear s6 kC bN B5 k5;show`e;show⟨_,O,bk,cs,ps,ss,O,⟨_,_,_,_,_,_,B6⟩,we,λl1 Xm H7 s7 n7 ĝ OW Xn=>⟨_,O,tn,cs,ps++[m],ss,O,⟨_,_,_,_,_,_,b6.same s7⟩,we,λl2 Xo H8 s8 n8 Č Xp y7=>⟨l1,l2,_,_,O,Ë.of (s8 _ _ ĝ),Ë.of Č,?_⟩⟩⟩;have m1:l1≠lm:=λz=>by rw[z,jv]at n7;cases n7
 have m2:l2≠lm:=λz=>by rw[z,s7 _ _ jv]at n8;cases n8
 have lc:=B.lc;show EZ.for_q (xs:=Xm.map V.ref) (ys:=Xo.map V.ref) (λi σ Hc=>Xe5 λx7 x8 x9 ys R=>Xa6 (σ=[some (.ref bk),some (.ref tm),some (.ref ac),some (.ref ap),some (.ref ah),some (.ref tn),some (.ref lm),x7,x8,x9]) ((∀b o,b≠lm->H8 b=some o->Hc b=some o)) (Hc lm=some (.lst ys)) (ß Hc ys R) (R.length<=3200*i) (Ŷ cs ps ss m i R)) (by rw[Ï,Ï,OW,Xp]) ?_ ?_ ?_ ?_;.exact⟨none,none,none,[],[],O,λ_ _ _ e=>e,s8 _ _ (s7 _ _ jv),ß.nil,Ø _,.nil⟩
 .rintro i σ Hc hi⟨x7,x8,x9,ys,R,rfl,kp,_⟩;show⟨Ë.of (kp _ _ m1 (s8 _ _ ĝ)),Ë.of (kp _ _ m2 Č)⟩
 .rintro i x y σ Hc T U hx hy⟨x7,x8,x9,ys,R,rfl,kp,iE,bg,lR,Cc⟩hT hU tu;rw[ì]at hx hy;obtain⟨g1,h1,rfl⟩:=Za5.mp hx;obtain⟨g2,h2,rfl⟩:=Za5.mp hy;have hi:i<cs.length:=by rw[<-OW];show(ĉ.mp h1).1
  obtain⟨Xq,q1,a1,b1⟩:=Xn i g1 h1;obtain⟨OH,q2,a2,b2⟩:=y7 i g2 h2;have o1:g1≠lm:=λz=>by rw[z,jv]at q1;cases q1
  have o2:g2≠lm:=λz=>by rw[z,s7 _ _ jv]at q2;cases q2
  have vT:=Â.upd (o:=.tup [V.ref g1,V.ref g2]) hT;have Xr:upd Hc T (.tup [V.ref g1,V.ref g2]) U=none:=by rw[au tu.symm];show hU
  have vU:=Â.upd (o:=.tup [.int i,V.ref T]) Xr;have v:=vT.trans vU;have eT:=vU _ _ (aa (H:=Hc) (a:=T) (o:=.tup [V.ref g1,V.ref g2]));have eU:=aa (H:=upd Hc T (.tup [V.ref g1,V.ref g2])) (a:=U) (o:=.tup [.int i,V.ref T]);generalize upd (upd Hc T (.tup [V.ref g1,V.ref g2])) U (.tup [.int i,V.ref T])=Hd at v eT eU⊢;have Ug:∀b z,H8 b=some (.tup z)->Hc b=some (.tup z):=λb z e=>kp b _ (λw=>by rw[w,s8 _ _ (s7 _ _ jv)]at e;cases e) e;have Uh:(ps++[m]).length<=10:=by rw[à];show ps.length+1<=10;lia
  show⟨U,_,O,Ñ.of eU,O,_,_,O,?_⟩;show⟨_,_,O,⟨T,_,O,Ñ.of eT,O,_,_,O,_,_,O,O,?_⟩⟩;show⟨O,?_⟩;show⟨_,O,_,O,_,O,_,O,i,g1,Xq,ĥ (fX cs ps ss i).g,g2,OH,ĥ (fX cs (ps++[m]) ss i).g,O,v _ _ (kp _ _ o1 (s8 _ _ a1)),((b1.same s8).keep Ug).same v,λr hr=>Ie B.lp À (qM i r hr),Ib B.lp B.un B.h5 B.okp À,v _ _ (kp _ _ o2 a2),(b2.keep Ug).same v,λr hr=>Ie Uh À (qM i r hr),Ib Uh (vH B.un) B.h5 b6.okp À,λl zs C He se nl OX lC ck pb=>?_⟩;have ll:l≠lm:=λz=>by rw[z,v _ _ iE]at nl;cases nl
  show⟨lm,l,ys,zs,O,O,se _ _ (v _ _ iE),OX,?_,?_⟩;.have:=oJ i (ĥ (fX cs ps ss i).g) (ĥ (fX cs (ps++[m]) ss i).g) C;rw[bg.1,pb.1,sizeLine_eq];lia
  have tp:∀{o:HO}b z,He b=some (.tup z)->upd He lm o b=some (.tup z):=λb z e=>by rw[au λw=>by rw[w,se _ _ (v _ _ iE)]at e;cases e];show e
  show⟨_,_,_,ys++zs,R++Ϧ i (gA cs ps ss i) (gA cs (ps++[m]) ss i) C,O,λb o n e=>?_,aa,(((bg.same v).same se).app pb).keep tp,?_,Cc.cons ck⟩;.rw[au n];show se _ _ (v _ _ (kp b o n e))
  .have:=oJ i (gA cs ps ss i) (gA cs (ps++[m]) ss i) C;rw[à];lia
 .rintro σ Hc⟨x7,x8,x9,ys,R,rfl,kp,iE,bg,lR,Cc⟩;rw[Ï,OW]at Cc;apply ab;show⟨_,O,q lm ys R Hc (λb o e=>kp b o (az e EO) (s8 _ _ (s7 _ _ (k6 _ _ e)))) EO EB iE bg Cc⟩
theorem vI:¬HT.lexLt a a=true:=by rw[oF];decide
theorem Ih:∀{a b:UV},Up a->Up b->(∀x,x∈a↔x∈b)->a=b
 |[],[],_,_,_=>rfl|[],y::b,_,_,h=>absurd ((h y).mpr (.head _)) Õ|x::a,[],_,_,h=>absurd ((h x).mp (.head _)) Õ|x::a,y::b,ha,hb,h=>by
  obtain⟨Ui,Xs⟩:=List.pairwise_cons.mp ha;obtain⟨BD,qA⟩:=List.pairwise_cons.mp hb;have e:x=y:=by
   rcases ļ.mp ((h x).mp (.head _))with z|z;.exact z
   .rcases ļ.mp ((h y).mpr (.head _))with z'|z';.exact z'.symm
    .exact absurd (qb _ _ _ (Ui y z') (BD x z)) vI
  subst e;rw[Ih Xs qA λz=>⟨λhz=>?_,λhz=>?_⟩]
  .rcases ļ.mp ((h z).mp (.tail _ hz))with w|w;.exact absurd (w▸Ui z hz) vI
   .exact w
  .rcases ļ.mp ((h z).mpr (.tail _ hz))with w|w;.exact absurd (w▸BD z hz) vI
   .exact w
section
def Ii(cs ps ss:UV)(m:VV)(n:Nat)(k:VV):Prop:=∃y q,y<n/\(q∈gA cs ps ss y\/q∈gA cs (ps++[m]) ss y)/\k=(y:Int)::dF q
def Ď(cs ps ss:UV)(k:VV):Int:=ϋ (gA cs ps ss (fl k 0).toNat) k.tail
def dB(cs ps ss:UV)(m:VV)(K:UV):UV:=(K.filter λk=>!decide (Ď cs ps ss k=Ď cs (ps++[m]) ss k)).map λk=>k++[Ď cs ps ss k,Ď cs (ps++[m]) ss k]
theorem jT{n:Nat}{k:VV}:Ď cs ps ss ((n:Int)::k)=ϋ (gA cs ps ss n) k:=by show ϋ (gA cs ps ss (n:Int).toNat) k=_;rw[Ž]
theorem xW{n:Nat}:∀{C:UV},(∀k∈C,∃q,k=dF q)->dB cs ps ss m (C.map λk=>(n:Int)::k)=Ϧ n (gA cs ps ss n) (gA cs (ps++[m]) ss n) C
 |[],_=>rfl|k::C,h=>by
  have ih:=xW (cs:=cs) (ps:=ps) (ss:=ss) (m:=m) (n:=n) (C:=C) λk hk=>h k (.tail _ hk);obtain⟨q,rfl⟩:=h k (.head _);unfold dB Ϧ at ih⊢;rw[Ľ];by_cases e:ϋ (gA cs ps ss n) (dF q)=ϋ (gA cs (ps++[m]) ss n) (dF q);.rw[δ (by rw[jT,jT,ç e];decide),δ (by rw[ç e];decide),ih]
  .rw[μ (by rw[jT,jT,č e];rfl),μ (by rw[č e];rfl),Ľ,Ľ,ih,jT,jT];rfl
theorem K3(h:Ŷ cs ps ss m n R):∃K,Up K/\(∀k,k∈K↔Ii cs ps ss m n k)/\R=dB cs ps ss m K:=by induction h with|nil=>exact⟨[],List.Pairwise.nil,λk=>⟨λh=>(nomatch h),λ⟨y,_,h,_⟩=>absurd h (Zbs _)⟩,O⟩;|@cons n R C h c ih=>
  obtain⟨K,uK,mK,rfl⟩:=ih;show⟨K++C.map λk=>(n:Int)::k,?_,λk=>?_,?_⟩
  .refine ź.mpr ⟨uK,?_,λa ha b hb=>?_⟩;.rw[ň];show c.1.imp λ{a b}h=>?_;rw[HT.lexLt_cons,Ê O];show h
   .obtain⟨y,q,hy,_,rfl⟩:=(mK a).mp ha;obtain⟨k,_,rfl⟩:=Ù.mp hb;rw[HT.lexLt_cons,Ç À];show ç À
  .rw[è,mK,Ù];constructor
   .rintro(⟨y,q,hy,hq,rfl⟩|⟨k,hk,rfl⟩);.exact⟨y,q,À,hq,O⟩
    .obtain⟨q,hq,rfl⟩:=(c.2 k).mp hk;show⟨n,q,ϰ _,hq,O⟩
   .rintro⟨y,q,hy,hq,rfl⟩;by_cases e:y<n;.exact .inl ⟨y,q,e,hq,O⟩
    .have:y=n:=À;subst this;show .inr ⟨dF q,(c.2 _).mpr ⟨q,hq,O⟩,O⟩
  .rw[<-xW (n:=n) (C:=C) λk hk=>(let⟨q,_,e⟩:=(c.2 k).mp hk;⟨q,e⟩)];unfold dB;rw[Ŵ,é]
theorem N5{R K:UV}(h:Ŷ cs ps ss m n R)(uK:Up K)(mK:∀k,k∈K↔Ii cs ps ss m n k):R=dB cs ps ss m K:=by obtain⟨K',u',m',rfl⟩:=K3 h;rw[Ih u' uK λx=>by rw[m',mK]]
theorem PL{K:UV}(u:Up K):K.Nodup:=by unfold List.Nodup;show List.Pairwise.imp ?_ u;intro a b h e;subst e;show vI h
def tri:Nat->Nat|0=>0|n+1=>tri n+80*(n+1)
theorem N6(h:Ŷ cs ps ss m n R)(l:ps.length<10):R.length<=tri n:=by induction h with|nil=>exact Ø _;|@cons n R C h c ih=>
  have a:=oJ n (gA cs ps ss n) (gA cs (ps++[m]) ss n) C;have b:C.length<=80*(n+1):=by
   have ok:∀k∈C,∃d j h:Nat,d<n+1/\j<10/\h<8/\k=[(d:Int),(j:Int),(h:Int)]:=λk hk=>by
    obtain⟨q,hq,rfl⟩:=(c.2 k).mp hk;have o:ω 10 (n+1) q:=by
     rcases hq with z|z;.obtain⟨a,b,c,d,e,f,g⟩:=qM n q z;show⟨a,b,c,d,À,f,g⟩
     .obtain⟨a,b,c,d,e,f,g⟩:=qM n q z;rw[à,show([m]:UV).length=1 from O]at e;show⟨a,b,c,d,À,f,g⟩
    obtain⟨_,a0,a1,b0,b1,c0,c1⟩:=o;show⟨(fl q 0).toNat,(fl q 1).toNat,(fl q 2).toNat,À,À,À,by unfold dF;rw[Int.toNat_of_nonneg a0,Int.toNat_of_nonneg b0,Int.toNat_of_nonneg c0]⟩
   have nd2:(C.map λk=>80*(fl k 0).toNat+8*(fl k 1).toNat+(fl k 2).toNat).Nodup:=by have:=PL c.1;rw[List.Nodup]at this⊢;rw[ň];show this.imp_of_mem λ{a b}ha hb n e=>n ?_;obtain⟨d,j,h,h1,h2,h3,rfl⟩:=ok a ha;obtain⟨d',j',h',A3,Xt,Xu,rfl⟩:=ok b hb;obtain⟨rfl,rfl,rfl⟩:=Α h2 h3 Xt Xu e;rfl
   have:=St.nodup_le (s:=List.range (80*(n+1))) nd2 λx hx=>by obtain⟨k,hk,rfl⟩:=Ù.mp hx;obtain⟨d,j,h,h1,h2,h3,rfl⟩:=ok k hk;show ı.mpr (Bt h1 h2 h3)
   rwa[Ï,Zay]at this
  rw[à];show _<=tri n+80*(n+1);lia
end
theorem xX{k x:List Key}:x∈(â Ä k v).map (·.1)↔x=k\/x∈Ä.map (·.1):=by
 show⟨λh=>?_,qN⟩;obtain⟨p,hp,rfl⟩:=Ù.mp h;rcases xN hp with z|z;.exact .inl z
 .exact .inr (Ù.mpr ⟨p,z,O⟩)
structure Gd(cs ps ss:UV)(n:Nat)(A:UV)(Ä:List (List Key×V)):Prop where
 nd:(Ä.map (·.1)).Nodup
 key:∀k,k∈Ä.map (·.1)↔(∃y q,y<n/\q∈gA cs ps ss y/\k=Sum.inl (y:Int)::bY q)\/∃q∈A,k=Sum.inl (n:Int)::bY q
 val:∀(y:Nat)k,cF Ä (Sum.inl (y:Int)::k)=if y<n then cF (eG (gA cs ps ss y)) k else if y=n then cF (eG A) k else none
 len:Ä.length<=100000*n+A.length
theorem Gd.new:Gd cs ps ss 0 [] []:=⟨ϳ,λk=>⟨λh=>(nomatch h),λh=>by rcases h with⟨_,_,h,_⟩|⟨_,h,_⟩<;>cases h⟩,λy k=>by rw[Ç (Zbs _)];split<;>rfl,Ė _⟩
theorem Gd.put(g:Gd cs ps ss n A Ä)(r:VV):Gd cs ps ss n (A++[r]) (â Ä (Sum.inl (n:Int)::bY r) (.int (fl r 3))):=by
 show⟨mY _ _ _ g.nd,λk=>?_,λy k=>?_,?_⟩
 .rw[xX,g.key];constructor
  .rintro(h|h|⟨q,hq,h⟩);.exact .inr ⟨r,by simp,h⟩
   .exact .inl h
   .exact .inr ⟨q,by simp[hq],h⟩
  .rintro(h|⟨q,hq,h⟩);.exact .inr (.inl h)
   .rcases è.mp hq with z|z;.exact .inr (.inr ⟨q,z,h⟩)
    .rw[ĸ.mp z]at h;show .inl h
 .rw[gj,g.val,dX,gj];by_cases e:y=n
  .subst e;rw[Ç (ϯ _),Ê O,Ç (ϯ _),Ê O];by_cases z:k=bY r;.rw[Ê z,Ê (by rw[z])]
   .rw[Ç z,Ç λw=>z (List.cons.inj w).2]
  .rw[Ç λw=>e (by have:=Sum.inl.inj (List.cons.inj w).1;lia),Ç e,Ç e]
 .have:=dU Ä (Sum.inl (n:Int)::bY r) (.int (fl r 3));have:=g.len;rw[à];show _<=100000*n+(A.length+1);lia
theorem Gd.next(g:Gd cs ps ss n (gA cs ps ss n) Ä)(h:(gA cs ps ss n).length<=100000):Gd cs ps ss (n+1) [] Ä:=by
 show⟨g.nd,λk=>?_,λy k=>?_,?_⟩
 .rw[g.key];constructor
  .rintro(⟨y,q,hy,h⟩|⟨q,hq,h⟩);.exact .inl ⟨y,q,À,h⟩
   .exact .inl ⟨n,q,ϰ _,hq,h⟩
  .rintro(⟨y,q,hy,hq,hk⟩|⟨q,hq,_⟩)
   .by_cases e:y=n;.subst e;show .inr ⟨q,hq,hk⟩
    .exact .inl ⟨y,q,À,hq,hk⟩
   .cases hq
 .rw[g.val];by_cases e:y=n;.subst e;rw[Ç (ϯ _),Ê O,Ê (ϰ _)]
  .by_cases l:y<n;.rw[Ê l,Ê À]
   .rw[Ç l,Ç e,Ç À];split<;>rfl
 .have:=g.len;show _<=100000*(n+1)+0;lia
inductive Ρ(vs:List V)(H:Hp)(Q:VK):Prop|mk:∀ac xc cs ap xp ps ah xs ss,(vs=[.ref ac,.ref ap,.ref ah])->(RowsAt H ac xc cs)->((∀r∈cs,r.length=3/\∀x∈r,0<=x))->(cs.length<=20)->(RowsAt H ap xp ps)->(ps.length<=10)->((∀r∈ps,okP r))->(RowsAt H ah xs ss)->(ss.length<=12)->((∀s∈ss,s.length=5))->(un ps ss=none)->(∀d Ä H',Â H H'->H d=none->H' d=some (.dT Ä)->Gd cs ps ss cs.length [] Ä->Q (.ref d) H')->Ρ  vs H Q
def BZ:Sp:=λvs H Q _=>Ρ  vs H Q
theorem Ř:Å [Ϻ,ł,Ω,AAm,ū,"_law_gifts_here","_law_downs","_law_owing",AAt,AAk,AAo,υ] [Ϻ,ł,Ω] (aG (top 71)):=ċ
theorem Ij(F:ü K "_law_gifts" "_law_gifts" (top 71) f fd)(Te:mg "enumerate"=none)(c1:í P w K mg base 3 "_law_years" [Ϻ,ł,Ω] xV):Ú P w K mg base ù 4 f fd [Ϻ,ł,Ω] BZ:=by
 show F.oq Ř `b;obtain⟨ac,xc,cs,ap,xp,ps,ah,xs,ss,rfl,rc,okc,lc,rp,lp,okp,rs,ls,h5,hu,q⟩:=h;show K60P.ok_b (aH ⟨Ĝ 3 Ř.nd pJ⟩ (aH ⟨bR Ń O (ZT.pi_enum false O Te (aq (aJ c1 hr (aq (pv 0) (aq (pv 1) (aq (pv 2) aj)))) aj)) (bF O (ao (Ó 4 Ř.nd) (ao (bF O (ao (Ó 5 Ř.nd) (ao (Ó 6 Ř.nd) (ao (Ó 7 Ř.nd) aR)))) aR))) (aC (bR Ń O (bO (pv 5)) (bF O (ao (Ó 8 Ř.nd) (ao (Ó 9 Ř.nd) (ao (Ó 10 Ř.nd) (ao (Ó 11 Ř.nd) aR))))) (aC (uH (dG hr) (pv 3) (bh (aq (pv 4) (aq (pv 8) (aq (pv 9) (aq (pv 10) aj))))) (pv 11) O))))⟩ (bQ (mH ⟨pv 3⟩)))) ?_;show aW (aQ ?_);show λfo BM=>?_;apply aD;dsimp only;have s0:=Â.upd (o:=.dT []) BM;have eo:=aa (H:=H) (a:=fo) (o:=.dT []);generalize upd H fo (.dT [])=H1 at s0 eo⊢;apply aW;show⟨_,O,_,O,_,O,ac,xc,cs,ap,xp,ps,ah,xs,ss,O,rc.same s0,okc,lc,rp.same s0,lp,okp,rs.same s0,ls,h5,hu,λl lk ts H2 s2 nl el lt hw=>⟨l,ts.map V.ref,O,Ë.of el,?_⟩⟩;have k2:=s0.trans s2;have IL:=s2 _ _ eo;have few:∀{n:Nat},n<cs.length->(gA cs ps ss n).length<=100000:=λh=>Ib lp hu h5 okp À;have tk:∀{Hc:Hp},(∀b o,b≠fo->H2 b=some o->Hc b=some o)->∀b z,H2 b=some (.tup z)->Hc b=some (.tup z):=λk b z e=>k b _ (λw=>by rw[w,IL]at e;cases e) e;show ZT.for_enum false (xs:=ts.map V.ref) (λi σ Hc=>Xe9 λx4 x5 x6 x7 x8 x9 cq cb Ä=>Xa4 (σ=[some (.ref ac),some (.ref ap),some (.ref ah),some (.ref fo),x4,x5,x6,x7,x8,x9,cq,cb]) ((∀b o,b≠fo->H2 b=some o->Hc b=some o)) (Hc fo=some (.dT Ä)) (Gd cs ps ss i [] Ä)) ?_ ?_ ?_ ?_;.exact⟨none,none,none,none,none,none,none,none,[],O,λ_ _ _ e=>e,IL,Gd.new⟩
 .rintro i σ Hc hi⟨x4,x5,x6,x7,x8,x9,cq,cb,Ä,rfl,k,_⟩;show Ë.of (k _ _ (λz=>by rw[z,IL]at el;cases el) el)
 .rintro i x σ Hc T0 hx⟨x4,x5,x6,x7,x8,x9,cq,cb,Ä,rfl,k,e1,g⟩nT;rw[ì]at hx;obtain⟨t,ht,rfl⟩:=Za5.mp hx;have hi:i<cs.length:=by rw[<-lt];show(ĉ.mp ht).1
  obtain⟨gg,tl,qq,xg,xq,W⟩:=hw i t ht;have FX:gg≠fo:=λz=>by have:=W.eg;rw[z,IL]at this;cases this
  have sT:=Â.upd (o:=.tup [.int i,.ref t]) nT;have eT:=aa (H:=Hc) (a:=T0) (o:=.tup [.int i,.ref t]);have k1:∀b o,b≠fo->H2 b=some o->upd Hc T0 (.tup [.int i,.ref t]) b=some o:=λb o n e=>sT _ _ (k b o n e);have e1:=sT _ _ e1;generalize upd Hc T0 (.tup [.int i,.ref t])=H3 at eT k1 e1⊢;clear k sT nT;show⟨T0,_,O,Ñ.of eT,O,_,_,O,_,_,O,t,_,O,Ñ.of (tk k1 _ _ W.e),O,_,_,O,_,_,O,_,_,O,O,O,?_⟩;have elg:=W.elg;have fw:=few hi;have gk:∀r∈gA cs ps ss i,r.length=4:=λr hr=>(qM i r hr).1;show⟨_,O,gg,O,⟨_,Ë.of (k1 _ _ FX W.eg)⟩,?_⟩;show gb (xs:=xg) (λj σ Hd=>Xe5 λx8 x9 cq cb Ä=>Xa4 (σ=[some (.ref ac),some (.ref ap),some (.ref ah),some (.ref fo),some (.int i),some (.ref gg),some (.ref tl),some (.ref qq),x8,x9,cq,cb]) ((∀b o,b≠fo->H2 b=some o->Hd b=some o)) (Hd fo=some (.dT Ä)) (Gd cs ps ss i ((gA cs ps ss i).take j) Ä)) ?_ ?_ ?_ ?_;.exact⟨_,_,_,_,Ä,O,k1,e1,g⟩
  .rintro j σ Hd hj⟨x8,x9,cq,cb,Ä,rfl,k,_⟩;show Ë.of (k _ _ FX W.eg)
  .rintro j x σ Hd hx⟨x8,x9,cq,cb,Ä,rfl,k,ed,g⟩;have hj:j<(gA cs ps ss i).length:=by have:=(ĉ.mp hx).1;rw[elg.1]at this;show this
   obtain⟨tr,fk,fe⟩:=elg.2 j (gA cs ps ss i)[j] (Ô hj);rw[hx]at fk;cases fk;have l4:=gk _ (ĕ hj);have bq:(gA cs ps ss i).take (j+1)=(gA cs ps ss i).take j++[(gA cs ps ss i)[j]]:=by rw[ġ,Ô hj];rfl
   generalize(gA cs ps ss i)[j]=r at fe l4 bq;have fe:=tk k _ _ fe;rw[bW l4]at fe;have gl:=g.len;rw[ė]at gl;show⟨tr,_,O,Ñ.of fe,O,_,_,O,_,_,O,_,_,O,_,_,O,O,?_⟩;show⟨_,O,_,O,_,O,_,O,_,O,_,O,zL,λt4 FC=>⟨fo,_,O,ŷ.t (k:=Sum.inl (i:Int)::bY r) (Â.upd FC _ _ ed) (by rw[aa];rfl) ϟ,?_⟩⟩;have s4:=Â.upd (o:=.tup [V.int i,.int (fl r 0),.int (fl r 1),.int (fl r 2)]) FC;show⟨_,_,_,_,_,O,λb o n e=>?_,aa,?_⟩;.rw[au n];show s4 _ _ (k b o n e)
   .rw[bq];show g.put r
  .rintro σ Hd⟨x8,x9,cq,cb,Ä,rfl,k,ed,g⟩;rw[elg.1,show(ĥ (fX cs ps ss i).g)=gA cs ps ss i from O,Ņ]at g;show⟨_,_,_,_,_,_,_,_,Ä,O,k,ed,g.next fw⟩
 .rintro σ Hc⟨x4,x5,x6,x7,x8,x9,cq,cb,Ä,rfl,k,e1,g⟩;rw[Ï,lt]at g;show⟨_,O,q fo Ä Hc (λb o e=>k b o (az e BM) (k2 _ _ e)) BM e1 g⟩
theorem DP:∀ps,((DI.putAll ps).map (·.1)).Nodup:=õ ϳ λl a h=>by rw[DI.putAll_snoc];show mY _ _ _ h
theorem zm:∀ps,x∈(DI.putAll ps).map (·.1)↔x∈ps.map (·.1):=õ Iff.rfl λl a h=>by rw[DI.putAll_snoc,xX,h,é,è,or_comm];apply or_congr Iff.rfl;show x=a.1↔x∈[a.1];rw[ĸ]
theorem qU(r:VV):rkK (r.map Sum.inl)=r:=by unfold rkK;rw[Ě];show Zb9 r
theorem Gd.keyR(g:Gd cs ps ss n [] Ä){k:List Key}:k∈Ä.map (·.1)↔∃y q,y<n/\q∈gA cs ps ss y/\k=((y:Int)::dF q).map Sum.inl:=by
 rw[g.key];constructor
 .rintro(⟨y,q,h1,h2,h3⟩|⟨q,h,_⟩);.exact⟨y,q,h1,h2,h3⟩
  .cases h
 .rintro⟨y,q,h1,h2,h3⟩;show .inl ⟨y,q,h1,h2,h3⟩
theorem Gd.one(g:Gd cs ps ss n [] Ä)(hy:y<n)(q:VV):(cF Ä (((y:Int)::dF q).map Sum.inl)).getD (.int 0)=.int (Ď cs ps ss ((y:Int)::dF q)):=by have e:((y:Int)::dF q).map Sum.inl=Sum.inl (y:Int)::bY q:=O;rw[e,g.val,Ê hy,yW,jT];rfl
theorem Ca{m:VV}(g1:Gd cs ps ss n [] k1)(g2:Gd cs (ps++[m]) ss n [] k2)(x:List Key):x∈(DI.putAll ((k1++k2).map λp=>(p.1,V.bl true))).map (·.1)↔∃y q,y<n/\(q∈gA cs ps ss y\/q∈gA cs (ps++[m]) ss y)/\x=((y:Int)::dF q).map Sum.inl:=by
 rw[zm,Ě,show((λp:List Key×V=>p.1)∘λp:List Key×V=>(p.1,V.bl true))=λp=>p.1 from O,é,è,g1.keyR,g2.keyR];constructor
 .rintro(⟨y,q,h1,h2,h3⟩|⟨y,q,h1,h2,h3⟩);.exact⟨y,q,h1,.inl h2,h3⟩
  .exact⟨y,q,h1,.inr h2,h3⟩
 .rintro⟨y,q,h1,h2|h2,h3⟩;.exact .inl ⟨y,q,h1,h2,h3⟩
  .exact .inr ⟨y,q,h1,h2,h3⟩
theorem DQ(g1:Gd cs ps ss n [] k1)(g2:Gd cs (ps++[m]) ss n [] k2){α:Type}{row:α->VV}{l:List α}(pm:(l.map row).Perm ((DI.putAll ((k1++k2).map λp=>(p.1,V.bl true))).map λp=>rkK p.1))(pw:l.Pairwise λa b=>HT.lexLt (row b) (row a)=false):Up (l.map row)/\∀k,k∈l.map row↔Ii cs ps ss m n k:=by
 have mem:=Ca g1 g2;have nd:=DP ((k1++k2).map λp=>(p.1,V.bl true));generalize DI.putAll ((k1++k2).map λp=>(p.1,V.bl true))=D at pm mem nd;have nU:(D.map λp=>rkK p.1).Nodup:=by rw[List.Nodup,ň]at nd⊢;show List.Pairwise.imp_of_mem (λ{a b}ha hb n e=>n ?_) nd;obtain⟨y,q,_,_,e1⟩:=(mem a.1).mp (Ù.mpr ⟨a,ha,O⟩);obtain⟨y',q',_,_,e2⟩:=(mem b.1).mp (Ù.mpr ⟨b,hb,O⟩);rw[e1,e2,qU,qU]at e;rw[e1,e2,e]
 show⟨Ks pw (pm.nodup_iff.mpr nU),λk=>?_⟩;rw[pm.mem_iff,Ù];constructor;.rintro⟨p,hp,rfl⟩;obtain⟨y,q,h1,h2,h3⟩:=(mem p.1).mp (Ù.mpr ⟨p,hp,O⟩);show⟨y,q,h1,h2,by rw[h3,qU]⟩
 .rintro⟨y,q,h1,h2,rfl⟩;obtain⟨p,hp,e⟩:=Ù.mp ((mem _).mpr ⟨y,q,h1,h2,O⟩);show⟨p,hp,by rw[e,qU]⟩
theorem Ik:∀rs,∀p∈eG rs,∃r∈rs,p.2=V.int (fl r 3):=õ (λp hp=>by cases hp) λl a h p hp=>by
 rw[dX]at hp;unfold â at hp;split at hp
 .obtain⟨q,hq,e⟩:=Ù.mp hp;by_cases z:q.1=bY a;.rw[Ê z]at e;rw[<-e];show⟨a,by simp,rfl⟩
  .rw[Ç z]at e;rw[<-e];obtain⟨r,hr,e⟩:=h q hq;show⟨r,by simp[hr],e⟩
 .rcases è.mp hp with z|z;.obtain⟨r,hr,e⟩:=h p z;show⟨r,by simp[hr],e⟩
  .rw[ĸ.mp z];show⟨a,by simp,rfl⟩
theorem Kz{A:UV}(h:∀r∈A,0<=fl r 3/\fl r 3<=1000):0<=ĭ A k/\ĭ A k<=1000:=by unfold ĭ;cases e:cF (eG A) k with|none=>exact⟨Ϯ _,by decide⟩;|some v=>obtain⟨p,hp,e2⟩:=ue e;obtain⟨r,hr,e3⟩:=Ik A p hp;rw[<-e2,e3];show h r hr
theorem PP(h:Ŷ cs ps ss m n R)(hn:n<=20)(l:ps.length<10)(hA:∀y,y<n->∀r∈gA cs ps ss y,0<=fl r 3/\fl r 3<=1000)(hB:∀y,y<n->∀r∈gA cs (ps++[m]) ss y,0<=fl r 3/\fl r 3<=1000):∀r∈R,r.length=6/\∀i∈r,-10<=i/\i<=2000000:=by induction h with|nil=>exact λr hr=>by cases hr;|@cons n R C h c ih=>
  intro r hr;rcases è.mp hr with z|z;.exact ih À (λy hy=>hA y À) (λy hy=>hB y À) r z
  .obtain⟨k,hk,rfl⟩:=Ù.mp z;have hk:=(ķ.mp hk).1;obtain⟨q,hq,rfl⟩:=(c.2 k).mp hk;have o:ω 10 (n+1) q:=by
    rcases hq with z|z;.obtain⟨a,b,c,d,e,f,g⟩:=qM n q z;show⟨a,b,c,d,À,f,g⟩
    .obtain⟨a,b,c,d,e,f,g⟩:=qM n q z;rw[à,show([m]:UV).length=1 from O]at e;show⟨a,b,c,d,À,f,g⟩
   obtain⟨_,a0,a1,b0,b1,c0,c1⟩:=o;have g1:=Kz (k:=(dF q).map Sum.inl) (hA n (ϰ _));have g2:=Kz (k:=(dF q).map Sum.inl) (hB n (ϰ _));show⟨O,λi hi=>?_⟩;simp only[List.mem_cons,List.not_mem_nil,or_false]at hi;have e0:fl (dF q) 0=fl q 0:=O;have e1:fl (dF q) 1=fl q 1:=O;have e2:fl (dF q) 2=fl q 2:=O;unfold ϋ at hi;rcases hi with rfl|rfl|rfl|rfl|rfl|rfl<;>lia
theorem N7:∀n,n<=12->tri n<=6240:=by decide
inductive Z05(K:Frag)(vs:List V)(H:Hp)(Q:VK):Prop|mk:∀a(ns:VV),(vs=[.ref a])->(Ë K H a (ns.map V.int))->(ns.length<=63)->(∀H',Q (.bl true) H')->Z05 K vs H Q
def Cd(K:Frag):Sp:=λvs H Q _=>Z05 K vs H Q
theorem Ć.keep(h:Ć H bk ac xc cs ap xp ps ah xs ss)(k:∀b l,H b=some (.tup l)->H' b=some (.tup l)):Ć H' bk ac xc cs ap xp ps ah xs ss:=⟨k _ _ h.e,h.rc.keep k,h.okc,h.lc,h.rp.keep k,h.lp,h.okp,h.rs.keep k,h.ls,h.h5,h.un⟩
theorem Ć.th(h:Ć H bk ac xc cs ap xp ps ah xs ss):Ü (λ_=>False) H (.ref bk) (.tuple [bU cs,bU ps,bU ss]):=.tup h.e (.cons h.rc.th (.cons h.rp.th (.cons h.rs.th .nil)))
theorem K4(K:UV):(dB cs ps ss m K).length<=K.length:=by unfold dB;rw[Ï];show Ϗ _ _
theorem Il{K:UV}:dB cs ps ss m (K++[k])=dB cs ps ss m K++(if Ď cs ps ss k=Ď cs (ps++[m]) ss k then[]else[k++[Ď cs ps ss k,Ď cs (ps++[m]) ss k]]):=by
 unfold dB;rw[Ŵ,é];congr 1;by_cases e:Ď cs ps ss k=Ď cs (ps++[m]) ss k;.rw[Ê e,δ (by rw[ç e];decide)];rfl
 .rw[Ç e,μ (by rw[č e];rfl)];rfl
theorem DR:∀ps,(DI.putAll ps).length<=ps.length:=õ (Ø _) λl a h=>by rw[DI.putAll_snoc];have:=dU (DI.putAll l) a.1 a.2;rw[à];show _<=l.length+1;lia
theorem DW:bootBuiltins "max"=some (.builtin "max"):=`j
theorem DX:bootBuiltins "min"=some (.builtin "min"):=`j
theorem qW:bootBuiltins "repr"=some (.builtin "repr"):=`j
theorem qX:bootBuiltins "list"=some (.type "list"):=`j
theorem zq:bootBuiltins "dict"=some (.type "dict"):=`j
theorem zr:bootBuiltins "sorted"=some (.builtin "sorted"):=`j
theorem QG:([Ū]:Đ).Nodup:=`j
theorem ľ:Å [ż,AAs,ī,"_law_book_here","_law_turn","_law_more","_law_kept","_law_elder","_law_newer",AAt,"_law_key",Ū,"_law_other","_law_again",AAm] [ż] (aG (top 72)):=ċ
theorem N8(F:ü K "law" "law" (top 72) f fd)(T:Mg mg)(Tr:mg "range"=none)(Tm:mg "max"=none)(Tn:mg "min"=none)(Tp:mg "repr"=none)(Tl:mg "list"=none)(Td:mg "dict"=none)(To:mg "sorted"=none)(c1:í P w K mg base 2 "_law_state" [ż,AAs] (K60P.spState K))(c2:í P w K mg base 3 "_law_book" [ī,AAg,AAn] K60Q.spBook)(c3:í P w K mg base 2 AAu [ī,AAg] K60Q.spProm)(cg:í P w K mg base 4 "_law_gifts" [Ϻ,ł,Ω] BZ)(cm:í P w K mg base 12 "moved_by" ["book","promise"] PJ)(c5:í P w K mg base 61 "_law_same" [AAm,AAt] BV):Ú P w K mg base ù 63 f fd [ż] (Cd K):=by
 show F.oq ľ `b;obtain⟨a,ns,rfl,hS,hl,q⟩:=h;show K60P.ok_b (aH ⟨bR Ń O (cH O Tr (aq (aM (jl O) O Tm DW (aq aA (aq (aM (fY O) O Tn DX (aq (aM cj O T.len PySem.boot_len (aq (pv 0) aj)) (aq aA aj))) aj))) aj)) (Ó 1 ľ.nd) (gW (aH (gY 2 ľ.nd ⟨aJ c1 hr (aq (pv 0) (aq (pv 1) aj))⟩) (aH (gY 3 ľ.nd ⟨aJ c2 hr (aq (pv 2) (aq aA (aq aA aj)))⟩) (bQ ⟨bR Ń O (cH O Tr (aq aA aj)) (Ó 4 ľ.nd) (gW (aH ⟨xZ (i:=5) (j:=6) O ľ.nd O O á O O (aq (aJ c3 hr (aq (pv 2) (aq (aM cj O T.len PySem.boot_len (aq (pX bT (pv 3) aA) aj)) aj))) (aq (aM (tG (S:=λ_=>False) hr.gd (λh=>h)) O Tp qW (aq (pv 3) aj)) aj)) O⟩ (aH (gY 7 ľ.nd ⟨aJ cg hr (aq (pX bT (pv 3) aA) (aq (pX bT (pv 3) aA) (aq (pX bT (pv 3) aA) aj)))⟩) (aH (gY 8 ľ.nd ⟨aJ cg hr (aq (pX bT (pv 3) aA) (aq (aU K60Q.op_catU (pX bT (pv 3) aA) (bh (aq (pv 5) aj))) (aq (pX bT (pv 3) aA) aj)))⟩) (aH ⟨Ĝ 9 ľ.nd (BX aj)⟩ (aH ⟨bR Ń O (bO (aM (jD O) O To zr (aq (bK (DI.call_dictD O hr.units) O Td zq (aq (bI [Ū] [none] O (bO (aU uz (bK (DI.call_listDT O) O Tl qX (aq (pv 7) aj)) (bK (DI.call_listDT O) O Tl qX (aq (pv 8) aj)))) (λC fp Á s₂ Í=>⟨Ó 0 QG,bD,bh (aq (pv 0) (aq oU aj))⟩) (λC=>trivial) ⟨O,O,O,O⟩) aj)) aj))) (Ó 10 ľ.nd) (gW (aH ⟨xZ (i:=11) (j:=12) O ľ.nd O O á O O (aO (kJ (dG hr) (pv 7) (pv 10) aA (by constructor<;>rfl)) (aO (kJ (dG hr) (pv 8) (pv 10) aA (by constructor<;>rfl)) aj)) O⟩ (bQ ⟨cM (bj zH (pv 11) (pv 12) (bx _)) (aC (dJ (jB zBe zBg zBf di (pv 9) (aq (aU ou (pv 10) (bh (aq (pv 11) (aq (pv 12) aj)))) aj)))) bz⟩)))⟩ (bQ ⟨bR Ń O (cH O Tr (aq aA aj)) (Ó 13 ľ.nd) (gW (aH (gY 14 ľ.nd ⟨aJ cm hr (aq (pv 3) (aq (pv 5) aj))⟩) (aH ⟨cM (PW.pt (vM (dY (fZ (aJ c5 hr (aq (pv 14) (aq (pv 9) aj))))) (xY (bj zH (aM (tG (S:=λ_=>False) hr.gd (λh=>h)) O Tp qW (aq (pv 3) aj)) (pv 6) (bx _))))) (aC (aV oU)) bz⟩ (bQ ⟨dJ (jB zBe zBg zBf di (pv 14) (aq oV aj))⟩))))⟩)))))))⟩))))⟩ (bQ (mH NT))) ?_;apply aW;have hl':(ns.map V.int).length<=63:=by rw[Ï];show hl
 show⟨_,O,a,_,O,.inl hS,_,_,O,_,_,O,_,O,?_,?_,?_⟩;.split<;>split<;>lia
 .split<;>split<;>lia
 show dh (lo:=0) (λi σ Hc=>Z0x λx1 x2 x3 x4 x5 x6 x7 x8 x9 y1 y2 y3 y4 y5=>Xa2 (σ=[some (.ref a),x1,x2,x3,x4,x5,x6,x7,x8,x9,y1,y2,y3,y4,y5]) (Â H Hc)) ?_ ?_ ?_;.exact⟨none,none,none,none,none,none,none,none,none,none,none,none,none,none,O,Â.refl H⟩
 .rintro i σ H1 hi⟨x1,x2,x3,x4,x5,x6,x7,x8,x9,y1,y2,y3,y4,y5,rfl,s1⟩;apply aD;show rQ λDe ET=>?_;show`e;apply aQ;show⟨_,O,_,O,a,ns,_,O,s1.seq hS,À,λst x y z hn MG Xv zt=>?_⟩;have Xw:H st=none:=s1.free hn;have g1:K60P.StAt (upd H1 st (.lst [.int x,.int y,.int z])) st:=⟨x,y,z,aa,MG,Xv,zt⟩;have s2:Â H (upd H1 st (.lst [.int x,.int y,.int z])):=s1.updR hn;generalize upd H1 st (.lst [.int x,.int y,.int z])=H2 at g1 s2⊢;apply aD;apply ab
  show`e;apply aQ;show⟨_,O,st,12,9,O,g1,by decide,by decide,by decide,by decide,λbk ac xc cs ap xp ps ah xs ss H3 d3 eb rc we SV okc rp lp okp rs ls fN qB=>?_⟩;have pe:∀r∈cs,r.length=3/\∀x∈r,0<=x:=λr hr=>⟨(okc r hr).1,λx hx=>((okc r hr).2 x hx).1⟩;have h5:∀s∈ss,s.length=5:=λs hs=>(fN s hs).1;have OY:cs.length<=12:=À;have OZ:ps.length<10:=À;have IM:ss.length<=12:=À;have B3:Ć H3 bk ac xc cs ap xp ps ah xs ss:=⟨eb,rc,pe,À,rp,À,okp,rs,IM,h5,qB⟩;have hb:=K1 we À okc À okp IM h5 qB;have zd:sz (.tuple [bU cs,bU ps,bU ss])<=300:=by show 1+((1+ņ (cs.map rowD))+((1+ņ (ps.map rowD))+((1+ņ (ss.map rowD))+0)))<=300;rw[jk (k:=3) λr hr=>(okc r hr).1,jk (k:=6) λr hr=>(okp r hr).1,jk (k:=5) h5];lia
  have td:ÿ (.tuple [bU cs,bU ps,bU ss])=true:=by show(gm (cs.map rowD)&&(gm (ps.map rowD)&&(gm (ss.map rowD)&&true)))=true;rw[jy λr hr i hi=>by have:=(okc r hr).2 i hi;lia,jy λr hr=>MP (okp r hr),jy λr hr=>(fN r hr).2];rfl
  clear eb rc rp rs fN;apply aD;apply ab
  show⟨_,O,by decide,by decide,?_⟩;show dh (lo:=0) (λj σ Hc=>Xe11 λx4 x5 x6 x7 x8 x9 y1 y2 y3 y4 y5=>Xa2 (σ=[some (.ref a),some (.int (0+(i:Int))),some (.ref st),some (.ref bk),x4,x5,x6,x7,x8,x9,y1,y2,y3,y4,y5]) (K60P.Dr st H3 Hc)) ?_ ?_ ?_;.exact⟨_,_,_,_,_,_,_,_,_,_,_,O,K60P.Dr.refl d3.sa⟩
  .rintro j σ Hc hj⟨x4,x5,x6,x7,x8,x9,y1,y2,y3,y4,y5,rfl,dc⟩;apply aD;show rQ λSx O0=>?_;have Bc:=B3.keep (dc.tups d3.sa);show`e;show⟨_,O,_,O,bk,_,0,.ref ac,O,O,Ñ.of Bc.e,O,ac,xc,O,.inr (Ñ.of Bc.rc.e),st,_,O,dc.sa,À,by have:=Bc.rc.l;lia,λtm m H4 d4 em Cn=>?_⟩;have B4:=Bc.keep (d4.tups dc.sa);have Uj:=dc.trans d4;show⟨_,O,_,_,O,B4.th,td,À,K60P.room_sz hr á À,_,_,O,?_⟩;apply ab
   show`e;apply aQ;show⟨_,O,bk,_,0,.ref ac,O,O,Ñ.of B4.e,O,_,O,bk,_,1,.ref ap,O,O,Ñ.of B4.e,O,_,O,bk,_,2,.ref ah,O,O,Ñ.of B4.e,O,ac,xc,cs,ap,xp,ps,ah,xs,ss,O,B4.rc,pe,À,B4.rp,À,okp,B4.rs,IM,h5,qB,λd1 k1 H5 s5 n5 e5 IP=>?_⟩;apply aD;apply ab;have B5:=B4.same s5;have Pc:=s5 _ _ em;have Uk:=Uj.same s5;clear B4 em Uj s5;show`e;apply aQ;show⟨_,O,bk,_,0,.ref ac,O,O,Ñ.of B5.e,O,_,O,bk,_,1,.ref ap,O,O,Ñ.of B5.e,O,_,O,by show 1<=sizeLine;decide,λu1 F1=>?_⟩;have v1:=Â.upd (o:=.tup [V.ref tm]) F1;show⟨ap,u1,xp,_,O,O,v1 _ _ B5.rp.e,aa,by simp,by rw[B5.rp.l,sizeLine_eq];show _+1<=_;lia,λc H6 v2 ec=>?_⟩;have qV:=v1.trans v2;have B6:=B5.same qV;have Ul:=qV _ _ Pc;have E5:=K60Q.rows_snoc ((B5.rp.same v1).same v2) (v2 _ _ (v1 _ _ Pc)) ec;have Um:=Uk.same qV;have F2:∀r∈ps++[m],okP r:=λr hr=>by
    rcases è.mp hr with z|z;.exact okp r z
    .rw[ĸ.mp z];show Cn
   have Uo:(ps++[m]).length<=10:=by rw[à];show ps.length+1<=10;lia
   have e6:=qV _ _ e5;clear F1 B5 Pc Uk;refine⟨_,O,bk,_,2,.ref ah,O,O,Ñ.of B6.e,O,ac,xc,cs,c,_,ps++[m],ah,xs,ss,O,B6.rc,pe,À,E5,Uo,F2,B6.rs,IM,h5,vH qB,λd2 k2 H7 s7 n7 e7 IQ=>?_⟩;apply aD;apply ab;have B7:=B6.same s7;have wb:=s7 _ _ Ul;have IS:=Um.same s7;have Uq:=s7 _ _ e6;clear B6 Ul Um e6 s7 E5 v1 v2 qV ec;refine aF λc_ ab=>?_;refine⟨zL,λlm kC EB=>?_⟩;apply ab;have s8:=Â.upd (o:=.lst []) kC;have n3:H3 lm=none:=by cases e:H3 lm with|none=>rfl;|some o=>show absurd ((IS.bt _ _ e (IS.ne kC)).symm.trans kC) Õ
   have jv:=aa (H:=H7) (a:=lm) (o:=.lst []);have B8:=B7.same s8;have Pd:=s8 _ _ wb;have Pe:=IS.same s8;have Pf:=s8 _ _ Uq;have Pl:=s8 _ _ e7;generalize upd H7 lm (.lst [])=H8 at jv B8 Pd Pe Pf Pl⊢;clear B7 wb IS Uq e7 s8 kC;show`e;have lk1:=IP.len;have lk2:=IQ.len;have l0:([]:UV).length=0:=O;show⟨_,O,d1,k1,O,Pf,λq1 l1 Pm z1 r1=>⟨_,O,d2,k2,O,Â.upd Pm _ _ Pl,λq2 l2 IT z2 r2=>?_⟩⟩;have s9:=(Â.upd (o:=.lst (l1.map V.ref)) Pm).updR (o:=.lst (l2.map V.ref)) IT;have eq1:=Â.upd (o:=.lst (l2.map V.ref)) IT _ _ (aa (H:=H8) (a:=q1) (o:=.lst (l1.map V.ref)));show⟨q1,q2,_,_,O,O,eq1,aa,by rw[Ï,Ï,sizeLine_eq];lia,λq3 Po=>?_⟩;have F3:=s9.updR (o:=.lst (l1.map V.ref++l2.map V.ref)) Po;have eq3:=aa (H:=upd (upd H8 q1 (.lst (l1.map V.ref))) q2 (.lst (l2.map V.ref))) (a:=q3) (o:=.lst (l1.map V.ref++l2.map V.ref));rw[<-é]at eq3 F3⊢;have qA:∀(j:Nat)(p:List Key×V),(k1++k2)[j]?=some p->∃b,(l1++l2)[j]?=some b/\upd (upd (upd H8 q1 (.lst (l1.map V.ref))) q2 (.lst (l2.map V.ref))) q3 (.lst ((l1++l2).map V.ref)) b=some (.tup (p.1.map kV)):=λj p e=>by
    by_cases hj:j<k1.length;.rw[ŭ hj]at e;obtain⟨b,h1,h2⟩:=r1 j p e;show⟨b,by rw[ŭ À];show h1,F3 _ _ h2⟩
    .rw[Ů À]at e;obtain⟨b,h1,h2⟩:=r2 _ p e;show⟨b,by rw[Ů À,z1];show h1,?_⟩;rw[é];show((Â.upd IT).updR Po) _ _ h2
   generalize upd (upd (upd H8 q1 (.lst (l1.map V.ref))) q2 (.lst (l2.map V.ref))) q3 (.lst ((l1++l2).map V.ref))=H9 at F3 eq3 qA⊢;have z12:(l1++l2).length=(k1++k2).length:=by rw[à,à,z1,z2]
   have Xx:(k1++k2).length<sizeLine:=by rw[à,sizeLine_eq];lia
   generalize hL:l1++l2=Lb at eq3 qA z12;clear s9 eq1 Pm IT Po r1 r2;show⟨q3,O,⟨_,Ë.of eq3⟩,?_⟩;show comp_gen Lb.length (λi ys σ Hd=>Â H9 Hd/\(∃o1,σ=[o1])/\∃l:ø,ys=l.map V.ref/\l.length=i/\∀(j:Nat)(b:Addr),j<i->Lb[j]?=some b->∃t,l[j]?=some t/\Hd t=some (.tup [.ref b,.bl true])) ⟨Â.refl _,`i,[],O,O,λj b h=>absurd h (Zbs _)⟩ À ?_ ?_
   .rintro i ys σ Hd hi hy⟨sd,⟨o1,rfl⟩,l,rfl,hl,hp⟩;show⟨⟨_,_,Ë.of (sd _ _ eq3),by rw[ì,Ô hi];rfl⟩,λv H' y' R' Xy=>?_⟩;obtain⟨rfl,y'⟩:=y';have hv:=y' _ (Ë.of (sd _ _ eq3));rw[ì,Ô hi]at hv;cases hv;apply aD;show⟨_,O,zL,λt ht=>Xy _ _ _ ⟨sd.updR ht,`i,l++[t],by rw[é];rfl,by rw[à,hl];rfl,λj b hj e=>?_⟩⟩;by_cases MC:j<i;.obtain⟨t',h1,h2⟩:=hp j b MC e;show⟨t',by rw[ŭ À];show h1,Â.upd ht _ _ h2⟩
    .have:j=i:=À;subst this;rw[Ô hi]at e;cases e;show⟨t,by rw[<-hl,Ů (Ø _),Zbx];rfl,aa⟩
   rintro ys σ Hd hy⟨sd,_,l,rfl,hl,hp⟩;show⟨⟨_,Ë.of (sd _ _ eq3),by rw[Ï];show Ø _⟩,λD hD=>?_⟩;have sD:=Â.upd (o:=.lst (l.map V.ref)) hD;show⟨D,l,(k1++k2).map λp=>(p.1,V.bl true),O,aa,by rw[hl,Ï];show z12,by rw[Ï];show Xx,λj kv e=>?_,λdq Ur _=>?_⟩;.rw[ì]at e;obtain⟨p,e1,rfl⟩:=Za5.mp e;obtain⟨b,e2,e3⟩:=qA j p e1;obtain⟨t,e4,e5⟩:=hp j b (ĉ.mp e2).1 e2;show⟨t,b,e4,sD _ _ e5,sD _ _ (sd _ _ e3)⟩
   have IU:=((F3.trans sd).trans sD).updR (o:=.dT (DI.putAll ((k1++k2).map λp=>(p.1,V.bl true)))) Ur;have Pp:=aa (H:=upd Hd D (.lst (l.map V.ref))) (a:=dq) (o:=.dT (DI.putAll ((k1++k2).map λp=>(p.1,V.bl true))));generalize upd (upd Hd D (.lst (l.map V.ref))) dq (.dT (DI.putAll ((k1++k2).map λp=>(p.1,V.bl true))))=Pt at IU Pp⊢;clear F3 sd sD eq3 qA hp hD Ur;show⟨dq,_,rkK,O,Pp,λp hp=>?_,λsq l' row F4 pm pw fT=>?_⟩;.obtain⟨y,q,_,_,e⟩:=(Ca IP IQ p.1).mp (Ù.mpr ⟨p,hp,O⟩);rw[e,qU];show⟨O,by simp⟩
   obtain⟨uK,mK⟩:=DQ IP IQ pm pw;have mf:=IU.updR (o:=.lst (l'.map V.ref)) F4;have pj:∀a∈l',upd Pt sq (.lst (l'.map V.ref)) a=some (.tup ((row a).map V.int)):=λa ha=>Â.upd F4 _ _ (fT a ha);have IX:=aa (H:=Pt) (a:=sq) (o:=.lst (l'.map V.ref));have Xz:sq≠lm:=λz=>by rw[z,IU _ _ jv]at F4;cases F4
   show⟨sq,O,⟨_,Ë.of IX⟩,?_⟩;generalize upd Pt sq (.lst (l'.map V.ref))=Pw at mf pj IX⊢;have lN:l'.length<=(k1++k2).length:=by have a:=pm.length_eq;rw[Ï,Ï]at a;have b:=DR ((k1++k2).map λp=>(p.1,V.bl true));rw[Ï]at b;lia
   clear IU fT F4 pm pw Pp;have Us:=B8.same mf;have F5:=mf _ _ Pd;have AW:=Pe.same mf;clear B8 Pd Pe;have ĝ:=mf _ _ Pf;have Č:=mf _ _ Pl;have pS:=mf _ _ jv;show gb (xs:=l'.map V.ref) (λi' σ Hd=>Xe6 λy1 y2 y3 y4 y5 ys=>Xa4 (σ=[some (.ref a),some (.int (0+(i:Int))),some (.ref st),some (.ref bk),some (.int (0+(j:Int))),some (.ref tm),some (.str (PyData.tuple [bU cs,bU ps,bU ss]).shown),some (.ref d1),some (.ref d2),some (.ref lm),y1,y2,y3,y4,y5]) ((∀b o,b≠lm->Pw b=some o->Hd b=some o)) (Hd lm=some (.lst ys)) (ß Hd ys (dB cs ps ss m ((l'.map row).take i')))) ?_ ?_ ?_ ?_;.exact⟨_,_,_,_,_,[],O,λ_ _ _ e=>e,pS,ß.nil⟩
   .rintro i' σ Hd eW⟨y1,y2,y3,y4,y5,ys,rfl,kp,_⟩;show Ë.of (kp _ _ Xz IX)
   .rintro i' x σ Hd hx⟨y1,y2,y3,y4,y5,ys,rfl,kp,iE,bg⟩;rw[ì]at hx;obtain⟨t,ht,rfl⟩:=Za5.mp hx;have Ut:=ń ht;obtain⟨y,q,hy,_,er⟩:=(mK (row t)).mp (Ù.mpr ⟨t,Ut,O⟩);have IE:ys.length<sizeLine:=by rw[bg.1,sizeLine_eq];have h1:=ř (K4 (cs:=cs) (ps:=ps) (ss:=ss) (m:=m) _) (List.length_take_le' i' (l'.map row));rw[Ï]at h1;rw[à]at lN;lia
    have bq:dB cs ps ss m ((l'.map row).take (i'+1))=_:=(congrArg (dB cs ps ss m) (show(l'.map row).take (i'+1)=(l'.map row).take i'++[(y:Int)::dF q]by rw[ġ,ì,ht,<-er];rfl)).trans Il;have eta:=pj t Ut;rw[er]at eta;have nm:∀{b:Addr}{o:HO},Pw b=some o->o≠.lst []->b≠lm:=λ{b o}e n z=>by rw[z,pS]at e;show n (ģ e).symm
    have ta:=kp _ _ (nm eta Õ) eta;have t1:=kp _ _ (nm ĝ Õ) ĝ;have t2:=kp _ _ (nm Č Õ) Č;apply aD;show`e;show⟨_,O,d1,O,.inr ⟨_,.inl t1⟩,_,O,_,Ă.t (k:=((y:Int)::dF q).map Sum.inl) t1 (by rw[ta,Ě];rfl),?_⟩;rw[IP.one hy q];show⟨_,O,d2,O,.inr ⟨_,.inl t2⟩,_,O,_,Ă.t (k:=((y:Int)::dF q).map Sum.inl) t2 (by rw[ta,Ě];rfl),?_⟩;rw[IQ.one hy q];generalize Ď cs ps ss ((y:Int)::dF q)=a1 at bq⊢;generalize Ď cs (ps++[m]) ss ((y:Int)::dF q)=a2 at bq⊢;show⟨_,_,O,?_⟩;apply ab
    show⟨_,O,_,O,O,_,O,?_⟩;by_cases e:a1=a2;.rw[show(!decide (V.int a1=V.int a2))=false by rw[e];simp];show bG ⟨_,_,_,_,_,ys,O,kp,iE,by rw[bq,Ê e,Ĕ];show bg⟩
    .rw[show(!decide (V.int a1=V.int a2))=true by simp[e]];apply bM;show⟨_,O,.inl ⟨O,_,Ë.of iE⟩,_,O,_,O,_,O,by show 2<=sizeLine;decide,λp1 ND=>?_⟩;have v1:=Â.upd (o:=.tup [.int a1,.int a2]) ND;show⟨t,p1,_,_,O,O,Ñ.of (v1 _ _ ta),Ñ.of aa,by simp,by show 6<=sizeLine;decide,λz=>(by cases z),λ_ p2 lT=>?_⟩;have v2:=Â.upd (o:=.tup (((y:Int)::dF q).map V.int++[.int a1,.int a2])) lT;have v:=v1.trans v2;have e9:=aa (H:=upd Hd p1 (.tup [.int a1,.int a2])) (a:=p2) (o:=.tup (((y:Int)::dF q).map V.int++[.int a1,.int a2]));show⟨lm,ys,.ref p2,O,O,v _ _ iE,IE,?_⟩;generalize upd (upd Hd p1 (.tup [.int a1,.int a2])) p2 (.tup (((y:Int)::dF q).map V.int++[.int a1,.int a2]))=He at v e9⊢;have tp:∀{o:HO}b z,He b=some (.tup z)->upd He lm o b=some (.tup z):=λb z e=>by rw[au λw=>by rw[w,v _ _ iE]at e;cases e];show e
     show⟨_,_,_,_,_,ys++[.ref p2],O,λb o n e=>?_,aa,?_⟩;.rw[au n];show v _ _ (kp b o n e)
     .rw[bq,Ç e];show((bg.same v).app (ß.one (r:=(y:Int)::dF q++[a1,a2]) e9)).keep tp
   .rintro σ Hd⟨y1,y2,y3,y4,y5,ys,rfl,kp,iE,bg⟩;rw[θ (by rw[Ï,Ï];show Ø _)]at bg;apply ab;have kt:∀b z,Pw b=some (.tup z)->Hd b=some (.tup z):=λb z e=>kp b _ (λw=>by rw[w,pS]at e;cases e) e;have Bd:=Us.keep kt;have AO:=kt _ _ F5;have dd:K60P.Dr st H3 Hd:=⟨λb o e n=>kp b o (az e n3) (AW.bt b o e n),by obtain⟨a,b,c,e,h⟩:=AW.sa;show⟨a,b,c,kp _ _ (λz=>by rw[z,pS]at e;cases e) e,h⟩⟩;clear kp Us F5 AW kt ĝ Č pS pj IX;show⟨_,O,by decide,by decide,?_⟩;show dh (lo:=0) (λz σ He=>Xe5 λy1 y2 y3 y4 y5=>Xa2 (σ=[some (.ref a),some (.int (0+(i:Int))),some (.ref st),some (.ref bk),some (.int (0+(j:Int))),some (.ref tm),some (.str (PyData.tuple [bU cs,bU ps,bU ss]).shown),some (.ref d1),some (.ref d2),some (.ref lm),y1,y2,y3,y4,y5]) (Â Hd He)) ?_ ?_ ?_;.exact⟨_,_,_,_,_,O,Â.refl _⟩
    .rintro z σ He hz⟨y1,y2,y3,y4,y5,rfl,se⟩;apply aD;show rQ λW5 PD=>?_;show`e;apply aQ;show⟨_,O,_,O,λ_=>False,bk,tm,_,ac,xc,cs,ap,xp,ps,ah,xs,ss,m,O,(Bd.same se).th,À,hb,Bd.same se,we,OZ,se _ _ AO,Cn,λl zs R Hf sf nl PF qE pb mv=>?_⟩;have eR:=N5 mv uK mK;have lR:=ř (N6 mv OZ) (N7 _ OY);have sm:∀r∈R,r.length=6/\∀i∈r,-10<=i/\i<=2000000:=PP mv À OZ (λy hy r hr=>by have b:=(Pz pe À qB h5 okp À).1 r hr;have:=(vG b).2.2.2;lia) λy hy r hr=>by have b:=(Pz pe Uo (vH qB) h5 F2 À).1 r hr;have:=(vG b).2.2.2;lia
     rw[<-eR]at bg;have tR:ÿ (.list (R.map rowD))=true:=jy λr hr=>(sm r hr).2;have zR:sz (.list (R.map rowD))<=80000:=by show 1+ņ (R.map rowD)<=80000;rw[jk (k:=6) λr hr=>(sm r hr).1];lia
     have dR:(PyData.list (R.map rowD)).depth<=4:=by show PyData.depthAll (R.map rowD)+1<=4;have:=qT R;lia
     have t1:Ü (λa=>a≠sysModules) Hf (.ref l) (.list (R.map rowD)):=.lst PF qE (vC pb);have t2:Ü (λa=>a≠sysModules) Hf (.ref lm) (.list (R.map rowD)):=.lst EB (sf _ _ (se _ _ iE)) (vC ((bg.same se).same sf));apply aD;apply ab
     show`e;show⟨_,O,_,O,(λa=>a≠sysModules),l,lm,_,O,λz=>z O,t1,t2,tR,zR,dR,_,O,?_⟩;apply bG;show⟨_,O,_,_,O,(Bd.same (se.trans sf)).th,td,À,K60P.room_sz hr á À,_,O,O,_,O,?_⟩;rw[ç O];show bG (eF ?_);apply ab
     show⟨_,O,.inl ⟨O,_,Ë.of qE⟩,l,zs,.non,O,O,qE,?_,?_⟩;.rw[pb.1,sizeLine_eq];lia
     .refine PD _ _ ⟨_,_,_,_,_,O,λb o e=>?_⟩;rw[au (az e (se.free nl))];show sf _ _ (se _ _ e)
    .rintro σ He⟨y1,y2,y3,y4,y5,rfl,se⟩;show O0 _ _ ⟨_,_,_,_,_,_,_,_,_,_,_,O,dd.same se⟩
  .rintro σ Hc⟨x4,x5,x6,x7,x8,x9,y1,y2,y3,y4,y5,rfl,dc⟩;show ET _ _ ⟨_,_,_,_,_,_,_,_,_,_,_,_,_,_,O,λb o e=>(d3.trans dc).bt b o (s2 _ _ e) (az e Xw)⟩
 .rintro σ Hc⟨x1,x2,x3,x4,x5,x6,x7,x8,x9,y1,y2,y3,y4,y5,rfl,sc⟩;show q Hc
end K60
structure PySem.W.Fast:Prop where(tw14736181960829304032 tw2260541987279437312 tw11777646260129616384 tw10846654178228767424 tw5965681000878146400 tw17800579054407000289 tw6618371671266928161 tw11971211162278380385 tw8444304038305005441 tw5407694813310458050 tw4355976146647441698 tw17616885790039788066 tw18006581902900334210 tw8335905410558622402 tw3039116592089403106 tw11144594544487545730 tw8573212635054927810 tw10721911829439007714 tw7094823626921060322 tw518922406490900643 tw16986762416434707619 tw4061453432198863043 tw16895418112023657891 tw9327095068016086563 tw2949714086270911043 tw1384050776985497379 tw7984547767056671587 tw3592780716955579299 tw729253699487214596 tw16177654622405043396 tw445899964492888452 tw3694058242023623140 tw14171403219605327364 tw1807098601417082564 tw13267213336943811300 tw10806643570263009445 tw17179176371631425765 tw2541671982949868805 tw11401536627720859141 tw16542181539607403141 tw5851165900318788325 tw11650325574989320101 tw16392824284737215397 tw8281642931152143398 tw12091247525381773382 tw15820908088518260806 tw3462267265377494182 tw17705217816860741862 tw1729591838340565318 tw291454015558084998 tw2735844580887699846 tw15761775917073062470 tw13889117521857446694 tw11481290001502675782 tw4060002355828417478 tw5456128616927360966 tw4231303013455113223 tw16666960104592936999 tw11865864908707975303 tw11749288208437609735 tw31315573122395431 tw13258138201844655463 tw2454017846859522503 tw13244090275650332327 tw1353282164824071111 tw17988494502593653735 tw7407917034516872232 tw18316141010202485128 tw14057150240583354856 tw5448666935581421384 tw12756236171414830313 tw4899531230861328681 tw1876854632993002793 tw15824254858026749257 tw15902833947729896841 tw5932570099230796297 tw13758389912615588681 tw16196167182634216458 tw7233252896926830794 tw12152393197023239850 tw7977788069369552618 tw7517804088617924426 tw15492408591015635019 tw15551171376341445995 tw4793822207838693867 tw16995239369481285195 tw12066454191894408843 tw1492719684781473483 tw14915695434383493899 tw2077673826536833803 tw12330025138957072171 tw8733480267851408299 tw2045791028366845228 tw12223628872341284204 tw9166049181164649868 tw2945876504190250412 tw3635908371467895244 tw3435909706461776332 tw4913563060037624396 tw16662919951615955564 tw8339198250013663980 tw7491162267533360940 tw12735727374256802668 tw16839324244627970924 tw7489171872468357036 tw7570896075211103212 tw9317903953936169069 tw7093262856683595917 tw10676413281465991533 tw12254463597168466605 tw11173850189439709069 tw14204603897248929677 tw12057094874646022093 tw6092069287525937133 tw11862275336210761838 tw14819251181959625998 tw3931010026251858222 tw12460150707389053294 tw15600183600514045614 tw6656113360534634222 tw3486153503928432398 tw13866335066276007087 tw1860798967011420463 tw6512677344529786191 tw10936113739496762863 tw1667808909096872943 tw12014016289405958127 tw3335950928613767280 tw12309419626928494032 tw5220523671369069136 tw9036304560602098320 tw5254497618995162768 tw16042159921535557296 tw6927759237847924528 tw11149459744209399664 tw16343446330621034352 tw12814034773925150704 tw6653664459908366449 tw4794190304790456465 tw1202434530465456369 tw9347544938021887249 tw12497502870813807921 tw16357542153181398737 tw11627951701840315121 tw18363506466782385969 tw6106203969301891921 tw8777833842298819537 tw7391806308927025202 tw15767803703871793234 tw2948229345247019090 tw14188353024804437266 tw17800730151021146450 tw3725531107204442514 tw10211723147245537682 tw769508642658494898 tw16344695983652054674 tw15226198418135042834 tw3018573942812739442 tw932565968456607602 tw766200499401653106 tw7047388038329966514 tw8269104291926064114 tw8312978083414308947 tw8007309707049964659 tw4750439700211779795 tw17259822538193848563 tw14388272425121673523 tw2777764735593169235 tw3183492201163864499 tw13972954085018754515 tw4390897215039690675 tw1832216079725492468 tw15317522411156936020 tw13907980383024173524 tw11605718704759317525 tw6620856565736558613 tw11091737813927874709 tw6894506181903923637 tw14612801154720617109 tw6273705062774267541 tw11673403139355849653 tw14475009262143811509 tw6951455336393754613 tw13294138534357882070 tw17245777890780353398 tw7810876431882731478 tw463495556969303063 tw4243055942297765079 tw14324693685403080151 tw14014842393236290103 tw10904760287880669047 tw11516261899503235991 tw18031389250778891191 tw14323561673251123191 tw7416835537992396856 tw14780584391271890040 tw17869951231049315576 tw10447814486785886616 tw16057486347085266456 tw7975078403674440504 tw2583472654259731288 tw1876901421088860088 tw821297617410721752 tw5738088433109314617 tw18162047296353273145 tw4178193657791300953 tw2541332850840331769 tw14371062727705415193 tw8274452270533971641 tw13877365531006881529 tw2905844102196079417 tw2481799213960957785 tw3434175188696192058 tw9322759590097159258 tw15528681877264255162 tw9028834934798692570 tw15857889778653609338 tw12326982755095642522 tw17842454799969135066 tw11543735569663064634 tw4337561048876608218 tw8781266617840314138 tw10454943247668185946 tw8009756647069992826 tw17661125878619147515 tw10288517107711027451 tw4136286319638995387 tw5325532543674776027 tw13361099288736842395 tw2553187573641196219 tw9357331637626517243 tw7782998593006522267 tw17307349128126947259 tw654244560049116220 tw15751290073446418620 tw15069621972430897436 tw15010617903335328092 tw3268116265239563708 tw9704443273158197724 tw14790849516349132348 tw10632653199368730332 tw18385421402219672348 tw887461302945050717 tw17866000643203745917 tw41231458669775261 tw16368684591455881789 tw6178483375283429053 tw11055702563240820445 tw7179543664674801533 tw16089836269418796222 tw9338884041297435998 tw3061268737572021662 tw12755004728269657854 tw16940605256687271007 tw114730242386552927 tw11230009570222471391 tw8255751061465099519 tw6557389113424554431 tw4130494373512532543 tw1350934633479132799 tw17943480437053644311:True)
namespace K60
open PySem L2
theorem ĝ{C:ó->Prop}(h:∀a0,C [a0]):∀us,us.length=1->C us:=λus e=>by obtain⟨a,rfl⟩:=List.length_eq_one_iff.mp e;show h a
theorem Č{C:ó->Prop}(h:∀a0 a1,C [a0,a1]):∀us,us.length=2->C us:=λus e=>by cases us with|nil=>cases e;|cons a us=>show ĝ (C:=λus=>C (a::us)) (h a) us (Nat.succ.inj e)
theorem ϩ{C:ó->Prop}(h:∀a0 a1 a2,C [a0,a1,a2]):∀us,us.length=3->C us:=λus e=>by cases us with|nil=>cases e;|cons a us=>show Č (C:=λus=>C (a::us)) (h a) us (Nat.succ.inj e)
theorem el4{C:ó->Prop}(h:∀a0 a1 a2 a3,C [a0,a1,a2,a3]):∀us,us.length=4->C us:=λus e=>by cases us with|nil=>cases e;|cons a us=>show ϩ (C:=λus=>C (a::us)) (h a) us (Nat.succ.inj e)
theorem el5{C:ó->Prop}(h:∀a0 a1 a2 a3 a4,C [a0,a1,a2,a3,a4]):∀us,us.length=5->C us:=λus e=>by cases us with|nil=>cases e;|cons a us=>show el4 (C:=λus=>C (a::us)) (h a) us (Nat.succ.inj e)
def ć(K:Frag)(x:Str)(st:Stmt):Prop:=∃f od an sl oc kV dc pm cd ct,PySem.W.nsIn K mainGlobals x=some (some (.ref f))/\K.lookup f=some ⟨oc,od,.func (PySem.W.fnOf x x (gD st) (f9 st) (aG st) .none kV dc pm an cd ct),sl⟩/\PySem.W.codeIn K cd x=true/\PySem.W.keepIn K (.ref f)=true
theorem has_mk{oc kV dc pm cd ct:Value}(a:PySem.W.nsIn K mainGlobals x=some (some (.ref f)))(l:K.lookup f=some ⟨oc,od,.func (PySem.W.fnOf x x (gD st) (f9 st) (aG st) .none kV dc pm an cd ct),sl⟩)(c:PySem.W.codeIn K cd x=true)(k:PySem.W.keepIn K (.ref f)=true):ć K x st:=⟨f,od,an,sl,oc,kV,dc,pm,cd,ct,a,l,c,k⟩
theorem ć.get(H:ć K x st)(X:K.In h)(G:h.Ns mainGlobals mg):∃f fd,ü K x x st f fd/\mg x=some (.ref f):=by obtain⟨f,od,an,sl,oc,kV,dc,pm,cd,ct,a,l,c,k⟩:=H;show⟨f,_,El (st:=st) l c k,PySem.W.mg_of X G a⟩
theorem aY(P:Program)(w:World)(base:Heap)(F:Ú P w K mg base ù k f fd ps sp)(m:mg x=some (.ref f))(kp:PySem.W.keepIn K (.ref f)=true)(b:Ŕ K fd ps []):í P w K mg base k x ps sp:=⟨f,fd,F,m,kp,b⟩
theorem all_mk{l:PySem.W.OpenLaw}(X:K.In h)(G:h.Ns mainGlobals mg)(XD:mg "law"=some (.ref fa))(h10:ć K "is_whole" (top 10))(h11:ć K "is_whole_from" (top 11))(h12:ć K "is_tuple_of" (top 12))(h13:ć K "are_wholes" (top 13))(h24:ć K "is_clip" (top 24))(h25:ć K "are_clips" (top 25))(h26:ć K "is_promise" (top 26))(h27:ć K "are_promises" (top 27))(h28:ć K "are_sales" (top 28))(h30:ć K "held_in" (top 30))(h31:ć K "is_sale_between" (top 31))(h32:ć K "sale_holds" (top 32))(h33:ć K "first_unheld" (top 33))(h34:ć K "is_book" (top 34))(h35:ć K "refuse_no_book" (top 35))(h39:ć K "are_weights" (top 39))(h40:ć K "refuse_unpartable" (top 40))(h41:ć K "places_by_rest" (top 41))(h42:ć K "parts_of" (top 42))(h43:ć K "parted" (top 43))(h45:ć K "sacks_of" (top 45))(h46:ć K "claims_in" (top 46))(h47:ć K "shares_of" (top 47))(h48:ć K "made_good" (top 48))(h49:ć K "sort_given" (top 49))(h50:ć K "year_given" (top 50))(h51:ć K "years_given" (top 51))(h29:ć K "refuse_one_more" (top 29))(h52:ć K "gifts_by_year" (top 52))(h54:ć K "sacks_by_claim" (top 54))(h55:ć K "moves_in" (top 55))(h56:ć K "moved_by" (top 56))(h58:ć K "_law_cell_at" (top 58))(h59:ć K "_law_state" (top 59))(h60:ć K AAr (top 60))(h61:ć K "_law_same" (top 61))(h62:ć K "_law_parted" (top 62))(h63:ć K "_law_rows" (top 63))(h64:ć K "_law_claims" (top 64))(h65:ć K "_law_served" (top 65))(h66:ć K "_law_years" (top 66))(h71:ć K "_law_gifts" (top 71))(h67:ć K "_law_clips" (top 67))(h68:ć K AAu (top 68))(h69:ć K "_law_sale" (top 69))(h70:ć K "_law_book" (top 70))(aL:PySem.W.nsIn K mainGlobals "law"=some (some (.ref fL)))(lL:K.lookup fL=some ⟨XC,XA,.func (PySem.W.fnOf "law" "law" (gD (top 72)) (f9 (top 72)) (aG (top 72)) .none Uv Uw A8 Uu PH Ux),XB⟩)(cL:PySem.W.codeIn K PH "law"=true)(kL:PySem.W.keepIn K (.ref fL)=true)(n0:PySem.W.nsIn K mainGlobals "SORTS"=some (some (.int 3 t0)))(n1:PySem.W.nsIn K mainGlobals "HOLDERS"=some (some (.int 8 t1)))(n2:PySem.W.nsIn K mainGlobals "LAST_YEAR"=some (some (.int 19 t2)))(n3:PySem.W.nsIn K mainGlobals "MOST_CLIPS"=some (some (.int 20 t3)))(n4:PySem.W.nsIn K mainGlobals "MOST_PROMISES"=some (some (.int 10 t4)))(n5:PySem.W.nsIn K mainGlobals "MOST_WOOL"=some (some (.int 999 t5)))(n6:PySem.W.nsIn K mainGlobals "MOST_SACKS"=some (some (.int 99 t6)))(n7:PySem.W.nsIn K mainGlobals "MOST_PRICE"=some (some (.int 1000000 t7)))(n8:PySem.W.nsIn K mainGlobals "MOST_SALES"=some (some (.int 12 t8)))(n9:PySem.W.nsIn K mainGlobals "MOST_WEIGHTS"=some (some (.int 80 t9)))(n10:PySem.W.nsIn K mainGlobals "MOST_WEIGHT"=some (some (.int 99 Uy)))(dQ:PySem.W.nsIn K mainGlobals "isinstance"=some none)(wq:PySem.W.nsIn K mainGlobals "int"=some none)(pT:PySem.W.nsIn K mainGlobals "bool"=some none)(kH:PySem.W.nsIn K mainGlobals "tuple"=some none)(pV:PySem.W.nsIn K mainGlobals "len"=some none)(wt:PySem.W.nsIn K mainGlobals "all"=some none)(aE:PySem.W.nsIn K mainGlobals "range"=some none)(ki:PySem.W.nsIn K mainGlobals "list"=some none)(iq:PySem.W.nsIn K mainGlobals "max"=some none)(ix:PySem.W.nsIn K mainGlobals "min"=some none)(p9:PySem.W.nsIn K mainGlobals "repr"=some none)(kK:PySem.W.nsIn K mainGlobals "zip"=some none)(ar:PySem.W.nsIn K mainGlobals "enumerate"=some none)(cx:PySem.W.nsIn K mainGlobals "sorted"=some none)(ff:PySem.W.nsIn K mainGlobals "sum"=some none)(F6:PySem.W.nsIn K mainGlobals "set"=some none)(AX:PySem.W.nsIn K mainGlobals "dict"=some none):∃fd,(∀s v,BindsTo s fd ⟨[v],[]⟩ [(ż,v)])/\∀base,K.In base->base.Ns mainGlobals mg->Ú l.prog w K mg base ù 63 fa fd [ż] (Cd K):=by have e:=XD.symm.trans (PySem.W.mg_of X G aL);cases e;have FL:=El (st:=top 72) lL cL kL;obtain⟨f10,XE,PR,XF⟩:=h10.get X G;have XG:=PR.binds (ps:=["thing"]) λ_ _ _ _ _ _=>ĝ λ_=>rfl;obtain⟨f11,XH,PU,XI⟩:=h11.get X G;have XJ:=PU.binds (ps:=["thing","least","most"]) λ_ _ _ _ _ _=>ϩ λ_ _ _=>rfl;obtain⟨f12,XM,PV,XN⟩:=h12.get X G;have XO:=PV.binds (ps:=["thing","fewest","most"]) λ_ _ _ _ _ _=>ϩ λ_ _ _=>rfl;obtain⟨f13,XQ,PY,XR⟩:=h13.get X G;have XS:=PY.binds (ps:=["thing","many"]) λ_ _ _ _ _ _=>Č λ_ _=>rfl;obtain⟨f24,XT,PZ,XU⟩:=h24.get X G;have XW:=PZ.binds (ps:=["thing"]) λ_ _ _ _ _ _=>ĝ λ_=>rfl;obtain⟨f25,XX,P1,XY⟩:=h25.get X G;have XZ:=P1.binds (ps:=["thing"]) λ_ _ _ _ _ _=>ĝ λ_=>rfl;obtain⟨f26,X0,P2,X1⟩:=h26.get X G;have X2:=P2.binds (ps:=["thing"]) λ_ _ _ _ _ _=>ĝ λ_=>rfl;obtain⟨f27,X3,P4,X4⟩:=h27.get X G;have X5:=P4.binds (ps:=["thing"]) λ_ _ _ _ _ _=>ĝ λ_=>rfl;obtain⟨f28,X6,P5,X7⟩:=h28.get X G;have X8:=P5.binds (ps:=["thing"]) λ_ _ _ _ _ _=>ĝ λ_=>rfl;obtain⟨f30,X9,P6,Ya⟩:=h30.get X G;have Yb:=P6.binds (ps:=["promises","sales","number","year"]) λ_ _ _ _ _ _=>el4 λ_ _ _ _=>rfl;obtain⟨f31,Yc,P7,Yd⟩:=h31.get X G;have Ye:=P7.binds (ps:=["promises","sale"]) λ_ _ _ _ _ _=>Č λ_ _=>rfl;obtain⟨f32,Yf,P8,Yg⟩:=h32.get X G;have Yh:=P8.binds (ps:=["promises","ahead","sale"]) λ_ _ _ _ _ _=>ϩ λ_ _ _=>rfl;obtain⟨f33,Yi,P9,Yj⟩:=h33.get X G;have Yk:=P9.binds (ps:=["promises","sales"]) λ_ _ _ _ _ _=>Č λ_ _=>rfl;obtain⟨f34,Yl,Qb,Ym⟩:=h34.get X G;have Yn:=Qb.binds (ps:=["thing"]) λ_ _ _ _ _ _=>ĝ λ_=>rfl;obtain⟨f35,Yo,Qr,Yp⟩:=h35.get X G;have Yq:=Qr.binds (ps:=["thing"]) λ_ _ _ _ _ _=>ĝ λ_=>rfl;obtain⟨f39,Ys,QA,Yt⟩:=h39.get X G;have Yu:=QA.binds (ps:=["thing"]) λ_ _ _ _ _ _=>ĝ λ_=>rfl;obtain⟨f40,Yv,QE,Yw⟩:=h40.get X G;have Yx:=QE.binds (ps:=["sacks","weights"]) λ_ _ _ _ _ _=>Č λ_ _=>rfl;obtain⟨f41,Yy,QH,Yz⟩:=h41.get X G;have YA:=QH.binds (ps:=["rests"]) λ_ _ _ _ _ _=>ĝ λ_=>rfl;obtain⟨f42,YB,QI,YC⟩:=h42.get X G;have YD:=QI.binds (ps:=["sacks","weights"]) λ_ _ _ _ _ _=>Č λ_ _=>rfl;obtain⟨f43,YE,QJ,YF⟩:=h43.get X G;have YG:=QJ.binds (ps:=["sacks","weights"]) λ_ _ _ _ _ _=>Č λ_ _=>rfl;obtain⟨f45,YH,QK,YI⟩:=h45.get X G;have YJ:=QK.binds (ps:=["rows"]) λ_ _ _ _ _ _=>ĝ λ_=>rfl;obtain⟨f46,YK,QL,YL⟩:=h46.get X G;have YM:=QL.binds (ps:=["promises","sales","sort","year"]) λ_ _ _ _ _ _=>el4 λ_ _ _ _=>rfl;obtain⟨f47,YN,QM,YO⟩:=h47.get X G;have YQ:=QM.binds (ps:=["wool","claims"]) λ_ _ _ _ _ _=>Č λ_ _=>rfl;obtain⟨f48,YR,QN,YS⟩:=h48.get X G;have YT:=QN.binds (ps:=["wool","owed"]) λ_ _ _ _ _ _=>Č λ_ _=>rfl;obtain⟨f49,YU,QO,YV⟩:=h49.get X G;have YW:=QO.binds (ps:=["wool","claims","owed"]) λ_ _ _ _ _ _=>ϩ λ_ _ _=>rfl;obtain⟨f50,YX,QP,YY⟩:=h50.get X G;have YZ:=QP.binds (ps:=["book","year","owed"]) λ_ _ _ _ _ _=>ϩ λ_ _ _=>rfl;obtain⟨f51,Y0,QQ,Y1⟩:=h51.get X G;have Y2:=QQ.binds (ps:=["book","year"]) λ_ _ _ _ _ _=>Č λ_ _=>rfl;obtain⟨f29,Y3,QR,Y4⟩:=h29.get X G;have Y5:=QR.binds (ps:=["rows","most"]) λ_ _ _ _ _ _=>Č λ_ _=>rfl;obtain⟨f52,Y6,QS,Y7⟩:=h52.get X G;have Y8:=QS.binds (ps:=["book"]) λ_ _ _ _ _ _=>ĝ λ_=>rfl;obtain⟨f54,Y9,QT,Za⟩:=h54.get X G;have Zb:=QT.binds (ps:=["gifts"]) λ_ _ _ _ _ _=>ĝ λ_=>rfl;obtain⟨f55,Zc,QU,Zd⟩:=h55.get X G;have Ze:=QU.binds (ps:=["year","before","after"]) λ_ _ _ _ _ _=>ϩ λ_ _ _=>rfl;obtain⟨f56,Zf,QV,Zg⟩:=h56.get X G;have Zh:=QV.binds (ps:=["book","promise"]) λ_ _ _ _ _ _=>Č λ_ _=>rfl;obtain⟨f58,Zi,QW,Zj⟩:=h58.get X G;have Zk:=QW.binds (ps:=[ż,AAs]) λ_ _ _ _ _ _=>Č λ_ _=>rfl;obtain⟨f59,Zl,QX,Zm⟩:=h59.get X G;have Zn:=QX.binds (ps:=[ż,AAs]) λ_ _ _ _ _ _=>Č λ_ _=>rfl;obtain⟨f60,Zo,QY,Zp⟩:=h60.get X G;have Zq:=QY.binds (ps:=[ī,AAp]) λ_ _ _ _ _ _=>Č λ_ _=>rfl;obtain⟨f61,Zr,QZ,Zs⟩:=h61.get X G;have Zt:=QZ.binds (ps:=[AAm,AAt]) λ_ _ _ _ _ _=>Č λ_ _=>rfl;obtain⟨f62,Zu,Ra,Zv⟩:=h62.get X G;have Zw:=Ra.binds (ps:=[υ,AAv]) λ_ _ _ _ _ _=>Č λ_ _=>rfl;obtain⟨f63,Zx,Rb,Zy⟩:=h63.get X G;have Zz:=Rb.binds (ps:=[ł,Ω]) λ_ _ _ _ _ _=>Č λ_ _=>rfl;obtain⟨f64,ZA,Rf,ZC⟩:=h64.get X G;have ZD:=Rf.binds (ps:=[ł,AAj,ū,Ϲ]) λ_ _ _ _ _ _=>el4 λ_ _ _ _=>rfl;obtain⟨f65,ZE,Rg,ZF⟩:=h65.get X G;have ZG:=Rg.binds (ps:=[AAq,AAw,ū,Ϲ,"_law_have"]) λ_ _ _ _ _ _=>el5 λ_ _ _ _ _=>rfl;obtain⟨f66,ZH,Rh,ZI⟩:=h66.get X G;have ZJ:=Rh.binds (ps:=[Ϻ,ł,Ω]) λ_ _ _ _ _ _=>ϩ λ_ _ _=>rfl;obtain⟨f71,ZK,Ri,ZL⟩:=h71.get X G;have ZM:=Ri.binds (ps:=[Ϻ,ł,Ω]) λ_ _ _ _ _ _=>ϩ λ_ _ _=>rfl;obtain⟨f67,ZN,Rj,ZO⟩:=h67.get X G;have ZQ:=Rj.binds (ps:=[ī,AAn]) λ_ _ _ _ _ _=>Č λ_ _=>rfl;obtain⟨f68,ZR,Rk,ZS⟩:=h68.get X G;have ZU:=Rk.binds (ps:=[ī,AAg]) λ_ _ _ _ _ _=>Č λ_ _=>rfl;obtain⟨f69,ZV,Rl,ZW⟩:=h69.get X G;have ZX:=Rl.binds (ps:=[ī,ł]) λ_ _ _ _ _ _=>Č λ_ _=>rfl;obtain⟨f70,ZY,Rm,ZZ⟩:=h70.get X G;have Z0:=Rm.binds (ps:=[ī,AAg,AAn]) λ_ _ _ _ _ _=>ϩ λ_ _ _=>rfl;have T:Mg mg:=⟨(ï X G dQ),(ï X G wq),(ï X G pT),(ï X G kH),(ï X G pV),(ï X G wt)⟩;have TP:K60.Mg mg:=⟨(ï X G dQ),(ï X G wq),(ï X G pT),(ï X G kH),(ï X G pV),(ï X G wt)⟩;have N:Nums mg:=⟨⟨t0,PySem.W.mg_of X G n0⟩,⟨t1,PySem.W.mg_of X G n1⟩,⟨t2,PySem.W.mg_of X G n2⟩,⟨t3,PySem.W.mg_of X G n3⟩,⟨t4,PySem.W.mg_of X G n4⟩,⟨t5,PySem.W.mg_of X G n5⟩,⟨t6,PySem.W.mg_of X G n6⟩,⟨t7,PySem.W.mg_of X G n7⟩⟩;have NP:K60P.Nums mg:=⟨⟨t9,PySem.W.mg_of X G n9⟩,⟨Uy,PySem.W.mg_of X G n10⟩⟩;have N2:MS mg:=⟨⟨t8,PySem.W.mg_of X G n8⟩⟩;show⟨PySem.W.fnOf "law" "law" (gD (top 72)) (f9 (top 72)) (aG (top 72)) .none Uv Uw A8 Uu PH Ux,λs v=>.of_eq O,λbase _ _=>?_⟩;have Uz:=aY l.prog w base (xf PR T) XF PR.kp XG;have UA:=aY l.prog w base (rR PU Uz) XI PU.kp XJ;have Co:=aY l.prog w base (qC PV T) XN PV.kp XO;have Rn:=aY l.prog w base (rN PY T Uz Co) XR PY.kp XS;have Z1:=aY l.prog w base (yL PZ T N Rn) XU PZ.kp XW;have Z2:=aY l.prog w base (vd P1 T N Z1 Co) XY P1.kp XZ;have UB:=aY l.prog w base (rO P2 T N Rn) X1 P2.kp X2;have UC:=aY l.prog w base (nR P4 T N UB Co) X4 P4.kp X5;have UD:=aY l.prog w base (vh P5 T N2 Rn Co) X7 P5.kp X8;have UE:=aY l.prog w base (JD P6 N) Ya P6.kp Yb;have Z3:=aY l.prog w base (JF P7 T N) Yd P7.kp Ye;have Z4:=aY l.prog w base (Gq P8 T (ï X G aE) Z3 UE) Yg P8.kp Yh;have Z5:=aY l.prog w base (Gr P9 (ï X G ar) UC UD Z4) Yj P9.kp Yk;have Z6:=aY l.prog w base (ok_book Qb Co Z2 UC UD Z5) Ym Qb.kp Yn;have Z7:=aY l.prog w base (JP Qr Z6) Yp Qr.kp Yq;have Z8:=aY l.prog w base (K60P.ok_are_weights QA TP NP UA Co) Yt QA.kp Yu;have Z9:=aY l.prog w base (K60P.ok_refuse QE (ï X G ff) Z8 UA) Yw QE.kp Yx;have C41:=aY l.prog w base (K60P.ok_places QH (ï X G ar) (ï X G cx)) Yz QH.kp YA;have C42:=aY l.prog w base (K60P.ok_parts QI TP (ï X G ff) C41) YC QI.kp YD;have C43:=aY l.prog w base (K60P.ok_parted QJ Z9 C42) YF QJ.kp YG;have C45:=aY l.prog w base (Gs QK (ï X G ff)) YI QK.kp YJ;have C46:=aY l.prog w base (Dn QL (ï X G ar) UE) YL QL.kp YM;have C47:=aY l.prog w base (Dm QM T (ï X G ff) C43) YO QM.kp YQ;have C48:=aY l.prog w base (JH QN (ï X G ix)) YS QN.kp YT;have C49:=aY l.prog w base (GD QO (ï X G ff) (ï X G ki) (ï X G kK) C47 C48) YV QO.kp YW;have C50:=aY l.prog w base (JN QP T N (ï X G aE) (ï X G cx) C46 C49 C45) YY QP.kp YZ;have C51:=aY l.prog w base (GR QQ (ï X G aE) C50) Y1 QQ.kp Y2;have C29:=aY l.prog w base (JR QR T) Y4 QR.kp Y5;have C52:=aY l.prog w base (Mx QS T C51) Y7 QS.kp Y8;have C54:=aY l.prog w base (My QT) Za QT.kp Zb;have C55:=aY l.prog w base (Pk QU (ï X G cx) (ï X G F6) C54) Zd QU.kp Ze;have C56:=aY l.prog w base (PK QV N (ï X G ar) (ï X G kK) Z7 UB C29 C52 C55) Zg QV.kp Zh;have C58:=aY l.prog w base (K60P.ok_cell QW TP) Zj QW.kp Zk;have C59:=aY l.prog w base (K60P.ok_state QX (ï X G iq) C58) Zm QX.kp Zn;have IY:=aY l.prog w base (K60P.ok_choice QY) Zp QY.kp Zq;have C61:=aY l.prog w base (I9 QZ (ï X G p9)) Zs QZ.kp Zt;have C62:=aY l.prog w base (K60Q.ok_lparted Ra TP (ï X G ff) (ï X G aE) (ï X G iq)) Zv Ra.kp Zw;have UG:=aY l.prog w base (JW Rb T (ï X G ar) (ï X G aE) (ï X G ix) (ï X G iq)) Zy Rb.kp Zz;have C64:=aY l.prog w base (yZ Rf (ï X G ar) (ï X G aE)) ZC Rf.kp ZD;have C65:=aY l.prog w base (Dw Rg (ï X G ff) (ï X G kK) (ï X G ki) C62) ZF Rg.kp ZG;have C66:=aY l.prog w base (DN Rh T (ï X G ar) (ï X G aE) (ï X G kK) (ï X G cx) (ï X G ix) (ï X G ff) UG C64 C65) ZI Rh.kp ZJ;have C71:=aY l.prog w base (Ij Ri (ï X G ar) C66) ZL Ri.kp ZM;have C67:=aY l.prog w base (K60Q.ok_clips Rj TP (ï X G aE) IY) ZO Rj.kp ZQ;have UH:=aY l.prog w base (K60Q.ok_prom Rk (ï X G ix) IY) ZS Rk.kp ZU;have C69:=aY l.prog w base (K60Q.ok_sale Rl T (ï X G iq) IY) ZW Rl.kp ZX;have C70:=aY l.prog w base (K60Q.ok_book Rm TP (ï X G aE) (ï X G pV) IY C67 UH C69 UG) ZZ Rm.kp Z0;show N8 FL T (ï X G aE) (ï X G iq) (ï X G ix) (ï X G p9) (ï X G ki) (ï X G AX) (ï X G cx) C59 C70 UH C71 C56 C61
theorem walk{l:PySem.W.OpenLaw}{K:Params->Frag}(hn:l.most=some 63)(C4:d.params.defaults=[])(hY:∀w h,YP w h->(K w.params).In h)(F:∀w mg fa h,(K w.params).In h->h.Ns mainGlobals mg->mg d.name=some (.ref fa)->∃fd,(∀s u,BindsTo s fd ⟨[u],[]⟩ [(ż,u)])/\∀base,(K w.params).In base->base.Ns mainGlobals mg->Ú l.prog w (K w.params) mg base ù 63 fa fd [ż] (Cd (K w.params))):PySem.W.WalkO q loose XP YP l.row.toRowW d [] (λf vs=>PySem.call f vs):=L2.walk_of (n:=63) (k:=63) (x:=ż) (CX:=λ_=>ù) (sp:=λw=>Cd (K w.params)) hn á C4 ⟨O,by decide,by decide,rfl⟩ hY F (λ_ _ a ns hl _ hS=>⟨a,ns,O,hS,hl,λ_=>rfl⟩) λ_ _ _ _ _ z=>z
end K60
open PySem PySem.W PyProof.Rows
set_option maxRecDepth 100000 in
set_option maxHeartbeats 0 in
theorem PySem.Challenge.cw_woolyears_k60_what_a_promise_moves_holds : PySem.Challenge.rw_woolyears_k60_what_a_promise_moves.Holds := by
 w_on;o_law;k_head;(case hw=>w_witness2);k_fill;show K60.walk (l:=PySem.Challenge.rw_woolyears_k60_what_a_promise_moves) O O (λw h Y=>PySem.W.kIn_of Y) ?F;case F=>
  intro w mg fa h KX G hmg;refine' K60.all_mk KX G hmg ?h10 ?h11 ?h12 ?h13 ?h24 ?h25 ?h26 ?h27 ?h28 ?h30 ?h31 ?h32 ?h33 ?h34 ?h35 ?h39 ?h40 ?h41 ?h42 ?h43 ?h45 ?h46 ?h47 ?h48 ?h49 ?h50 ?h51 ?h29 ?h52 ?h54 ?h55 ?h56 ?h58 ?h59 ?h60 ?h61 ?h62 ?h63 ?h64 ?h65 ?h66 ?h71 ?h67 ?h68 ?h69 ?h70 ?aL ?lL ?cL ?kL ?n0 ?n1 ?n2 ?n3 ?n4 ?n5 ?n6 ?n7 ?n8 ?n9 ?n10 ?z0 ?z1 ?z2 ?z3 ?z4 ?z5 ?z6 ?z7 ?z8 ?z9 ?z10 ?z11 ?z12 ?z13 ?z14 ?z15 ?z16;case h10|h11|h12|h13|h24|h25|h26|h27|h28|h30|h31|h32|h33|h34|h35|h39|h40|h41|h42|h43|h45|h46|h47|h48|h49|h50|h51|h29|h52|h54|h55|h56|h58|h59|h60|h61|h62|h63|h64|h65|h66|h71|h67|h68|h69|h70=>refine' K60.has_mk ?a ?l ?c ?k;case a|l|c|k=>k_is
  case aL|lL|cL|kL|n0|n1|n2|n3|n4|n5|n6|n7|n8|n9|n10|z0|z1|z2|z3|z4|z5|z6|z7|z8|z9|z10|z11|z12|z13|z14|z15|z16=>k_is
