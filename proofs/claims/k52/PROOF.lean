import PyProof.Rows.All
import Wide.All
import OpenK.AllK
import Wide.FinOn
import Lean
import PyProof.EqAt
import PyProof.EqKinds
import PyProof.TupleCall
import PyProof.StrLawsRepr
import PyProof.ZipIter
import PySem.Challenge.RW_woolyears_k52_the_promise_that_is_too_ma
import PyProof.Rows.SortRunsK
import PyProof.AttrMissHeap
import PyProof.SeqRoads
import PyProof.ListOps
import PyProof.DictUpdate
import PyProof.DictWalks
import KE.KDictList
import PyProof.Rows.SortWalk
import PyProof.StationsW
import KE.KItemsList
import PyProof.ListNew
import KE.KDictOf
import PyProof.ListRange
import PyProof.ExcBaseAll.ValueError
set_option compiler.extract_closed false
set_option Elab.async false
set_option linter.all false
set_option maxRecDepth 100000
set_option maxHeartbeats 4000000
noncomputable section
abbrev RC:=PySem.Value->PySem.Shared->Prop
abbrev RG:=PySem.Str->Option PySem.Value
abbrev Yq:=List (PySem.Addr×PySem.Obj)
abbrev Ys:=List PySem.PyData
abbrev gV:=List PySem.Value
abbrev Qa0:=Array PySem.Value
abbrev ϲ:=List PySem.Expr
abbrev ç:=List PySem.Str
abbrev þ:=List PySem.Addr
def Ù:=@PyProof.Rows.wpS_bind
def Ü:=@PyProof.Rows.wpS_pure
def ϖ:=@PySem.wpAny_newObj_type
def Ő:=@List.all_eq_true
def Ū:=@List.mem_singleton
def ĳ:=@List.sum_cons
def ĺ:=@Nat.le_trans
def ϩ:=@List.take_of_length_le
def Ϡ:=@Array.toList_append
def Zaj:=@List.mem_cons_of_mem
def Θ:=@Nat.lt_irrefl
def ϕ:=@List.mem_range
def ϟ:=@List.of_mem_zip
def Zan:=@List.getElem?_eq_none
def Ϩ:=@Nat.not_lt_zero
def Zap:=@List.mem_cons_self
def Zaq:=@List.mem_of_mem_take
def Zar:=@List.getElem_of_mem
def Zas:=@List.drop_eq_getElem_cons
def Zat:=@List.filter_append
def Zau:=@Option.isSome_iff_exists
def Zav:=@List.mem_append_left
def Zaw:=@List.getElem?_set_self
def ϧ:=@Nat.ne_of_gt
def Zay:=@List.length_filter_le
def Zaz:=@Array.getElem?_toList
def Za0:=@List.take_zero
def Za1:=@List.length_set
def Za2:=@List.getElem?_take_of_lt
def Za3:=@List.filterMap_cons
def Za4:=@List.getElem?_cons_succ
def Za5:=@List.length_drop
def Za6:=@Int.mul_le_mul_of_nonneg_left
def Za7:=@Int.emod_lt_of_pos
def Za8:=@Int.le_refl
def Za9:=@Nat.le_of_lt
def Zba:=@List.nodup_cons
def Zbb:=@List.length_replicate
def Zbc:=@List.nodup_append
def Zbd:=@Array.perm_iff_toList_perm
def Zbe:=@List.lookup_cons
def Zbf:=@List.map_congr_left
def Zbg:=@List.getElem?_range
def Zbh:=@Int.emod_nonneg
def Zbi:=@Bool.eq_iff_iff
def Zbj:=@List.length_eq_zero_iff
def Zbk:=@List.getElem?_replicate
abbrev Z4:PySem.Str:="_law_promises_here"
abbrev ċ:PySem.Str:="_law_state_here"
abbrev ŧ:PySem.Str:="_law_sales_here"
abbrev ļ:PySem.Str:="_law_rows"
abbrev Υ:PySem.Str:="_law_year_here"
abbrev Ŭ:PySem.Str:="_law_script"
abbrev Š:PySem.Str:="_law_most"
abbrev ϛ:PySem.Str:="_law_number"
abbrev Ϛ:PySem.Str:="_law_growth"
abbrev ϋ:PySem.Str:="_law_found"
abbrev ϊ:PySem.Str:="_law_sacks"
abbrev Τ:PySem.Str:="_law_one"
abbrev ϙ:PySem.Str:="_law_sale"
abbrev ϡ:PySem.Str:="_law_sort"
abbrev AAn:PySem.Str:="_law_book_here"
abbrev AAo:PySem.Str:="_law_years"
abbrev AAp:PySem.Str:="_law_lacks"
abbrev AAq:PySem.Str:="_law_clips_here"
abbrev AAr:PySem.Str:="_law_many"
abbrev ϵ:PySem.Str:="_law_k"
abbrev AAt:PySem.Str:="_law_take"
abbrev AAu:PySem.Str:="_law_holder"
abbrev AAv:PySem.Str:="_law_due_here"
abbrev AAw:PySem.Str:="_law_weights"
abbrev AAx:PySem.Str:="_law_clip"
abbrev AAy:PySem.Str:="_law_call"
abbrev AAz:PySem.Str:="_law_seller"
abbrev ABa:PySem.Str:="_law_total"
abbrev ABb:PySem.Str:="_law_row"
abbrev ABc:PySem.Str:="_law_promises"
abbrev ABd:PySem.Str:="_law_any_sale"
abbrev PK:=List (List Int)
abbrev PP:=List Int
theorem Z1{p:Prop}(h:p:=by lia):p:=h
theorem Z2{p:Prop}(h:p:=by simp):p:=h
theorem Z3{p:Prop}(h:p:=by decide):p:=h
theorem Z5{p:Prop}(h:p:=by decide+kernel):p:=h
theorem Z6{p:Prop}(h:p:=by rw[sizeLine_eq];lia):p:=h
def ă:=@decide_eq_true_eq
open PySem.W (Frag)
def Â:=@PySem.wpAny_bind
def ñ:=@decide_eq_true
def æ:=@PySem.W.mg_none_of
def Æ:=@if_neg
def È:=@if_pos
def ÿ:=@PySem.Heap.get?_push_of_some
def Ô:=@PySem.wpAny_pure
def ö:=@PySem.Heap.lt_size
def ĵ:=@Nat.lt_of_lt_of_le
def ň:=@List.mem_append_right
def Ħ:=@PySem.Heap.get?_push_size
def ĥ:=@PySem.PassesOwn.never
def ŋ:=@of_decide_eq_true
def ę:=@Nat.ne_of_lt
def Ŋ:=@decide_eq_false
def Κ:=@List.mem_of_getElem?
def ό:=@PySem.F.plainAttrs_list
def Ϻ:=@PySem.F.type_list_append
def Ϲ:=@PySem.F.slot_list_append
def ϸ:=@List.getElem?_append_right
def Ϸ:=@List.getElem?_append_left
def zBe:=@List.filter_cons_of_neg
def zBf:=@List.filter_cons_of_pos
def zBg:=@List.take_append_drop
def Ö:=@List.getElem?_eq_getElem
def Ð:=@List.length_map
def ì:=@List.length_append
def Ø:=@Nat.le_refl
def ë:=@List.map_append
def è:=@List.mem_map
def ē:=@List.mem_append
def Ğ:=@List.getD_eq_getElem?_getD
def Ď:=@List.size_toArray
def ő:=@Array.length_toList
def ĩ:=@List.getElem?_eq_some_iff
def ý:=@List.getElem?_map
def ġ:=@Bool.and_eq_true
def Ė:=@List.length_take
def Ī:=@List.length_cons
def į:=@List.append_assoc
def Ō:=@Bool.false_ne_true
def Č:=@List.getElem_mem
def Ľ:=@Int.toNat_natCast
def Ĝ:=@List.take_add_one
def ě:=@List.map_cons
def ŉ:=@Option.some.inj
def Ĩ:=@List.take_length
def Į:=@List.append_nil
def Ġ:=@List.mem_cons
def Ě:=@Nat.zero_le
def Ũ:=@List.mem_filter
def ħ:=@List.map_map
def ŭ:=@List.length_zip
namespace L2
open PySem PySem.Spec PyProof.Rows
abbrev Key:=Sum Int Str
def nW:Key->Value->Bool|.inl k,v=>Value.isInt k v|.inr x,v=>Value.isStrOf x v
def rP(w:World):Key->Int|.inl k=>hashInt k|.inr x=>hashStr w x
theorem bY:∀{k:Key}{v:Value},nW k v=true->(∃i t,k=Sum.inl i/\v=Value.int i t)\/(∃x t,k=Sum.inr x/\v=Value.str x t)|.inl i,v,h=>by obtain⟨t,e⟩:=Value.isInt_shape (k:=i) (v:=v) h;exact .inl ⟨i,t,rfl,e⟩;|.inr x,v,h=>by obtain⟨t,e⟩:=Value.isStrOf_shape (x:=x) (v:=v) h;exact .inr ⟨x,t,rfl,e⟩
theorem Af(i:Int)(t:Tok):nW (.inl i) (.int i t)=true:=by simp[nW,Value.isInt]
theorem Ag(x:Str)(t:Tok):nW (.inr x) (.str x t)=true:=by simp[nW,Value.isStrOf]
theorem Jh(a b:Int):decide ((Sum.inl a:Key)=Sum.inl b)=(a==b):=by grind
theorem Ji(a b:Str):decide ((Sum.inr a:Key)=Sum.inr b)=decide (a=b):=by simp
theorem Jj(a:Int)(b:Str):decide ((Sum.inl a:Key)=Sum.inr b)=false:=Ŋ (λq=>nomatch q)
theorem Jk(a:Str)(b:Int):decide ((Sum.inr a:Key)=Sum.inl b)=false:=Ŋ (λq=>nomatch q)
def bx(prog:Program)(w:World):PySem.KeyKind prog w Key where
 is:=nW;hash:=rP w;inj:=λv a b ha hb=>by
  rcases bY ha with⟨i,t,rfl,rfl⟩|⟨x,t,rfl,rfl⟩
  .rcases bY hb with⟨j,u,rfl,e⟩|⟨y,u,rfl,e⟩;.injection e with e1 _;rw[e1]
   .exact nomatch e
  .rcases bY hb with⟨j,u,rfl,e⟩|⟨y,u,rfl,e⟩;.exact nomatch e
   .injection e with e1 _;rw[e1]
 byValue:=λk v h=>by rcases bY h with⟨i,t,rfl,rfl⟩|⟨x,t,rfl,rfl⟩<;>rfl
 pyHash:=λhv h=>by
  rcases bY hv with⟨i,t,rfl,rfl⟩|⟨x,t,rfl,rfl⟩;.exact wpAny_pyHash_int h
  .exact wpAny_pyHash_str h
 eqBool:=λhu hv h=>by
  rcases bY hu with⟨i,t,rfl,rfl⟩|⟨x,t,rfl,rfl⟩
  .rcases bY hv with⟨j,u,rfl,rfl⟩|⟨y,u,rfl,rfl⟩;.rw[Jh]at h;exact wpAny_eqBool_int h
   .rw[Jj]at h;exact SeqAt.EqAt.int_str i t y u _ _ _ _ h
  .rcases bY hv with⟨j,u,rfl,rfl⟩|⟨y,u,rfl,rfl⟩;.rw[Jk]at h;exact SeqAt.EqAt.str_int x t j u _ _ _ _ h
   .rw[Ji]at h;exact wpAny_eqBool_str h
 «strs»:=λk x t v h=>by
  rcases bY h with⟨i,u,rfl,e⟩|⟨y,u,rfl,e⟩;.exact nomatch e
  .injection e with e1 _;subst e1;cases v<;>rfl
theorem ur(prog:Program)(w:World)(i:Int)(t:Tok):(bx prog w).is (.inl i) (.int i t)=true:=Af i t
theorem ut(prog:Program)(w:World)(x:Str)(t:Tok):(bx prog w).is (.inr x) (.str x t)=true:=Ag x t
inductive V where|non|bl(b:Bool)|int(i:Int)|str(x:Str)|byt(b:Array UInt8)|flt(b:UInt64)|ref(a:Addr)|ty(n:String)deriving DecidableEq
def Ì:V->Value->Prop|.non,u=>u=Value.none|.bl b,u=>u=Value.bool b|.int i,u=>∃t,u=Value.int i t|.str x,u=>∃t,u=Value.str x t|.byt b,u=>∃t,u=Value.bytes b t|.flt b,u=>∃t,u=Value.float b t|.ref a,u=>u=Value.ref a|.ty n,u=>u=Value.type n
abbrev Ë:List V->gV->Prop:=Paired Ì
theorem Ë.length(r:Ë xs us):xs.length=us.length:=Paired.length r
theorem Ë.get:∀{xs:List V}{us:gV}{i:Nat}{x:V},Ë xs us->xs[i]?=some x->∃u,us[i]?=some u/\Ì x u|_,_,_,_,.nil,e=>by simp at e;|_,_,0,_,.cons r _,e=>by simp at e;subst e;exact⟨_,rfl,r⟩;|_,_,i+1,x,.cons _ t,e=>by obtain⟨u,h1,h2⟩:=Ë.get (i:=i) (x:=x) t (by simpa using e);exact⟨u,by simpa using h1,h2⟩
theorem Ë.set(r:Ì x u):∀{xs:List V}{us:gV}i,Ë xs us->Ë (xs.set i x) (us.set i u)|_,_,_,.nil=>.nil|_,_,0,.cons _ t=>.cons r t|_,_,i+1,.cons q t=>.cons q (Ë.set r i t)
theorem Ë.append:∀{xs ys:List V}{us ws:gV},Ë xs us->Ë ys ws->Ë (xs++ys) (us++ws)|_,_,_,_,.nil,s=>s|_,_,_,_,.cons r t,s=>.cons r (Ë.append t s)
theorem Ë.take:∀{xs:List V}{us:gV}n,Ë xs us->Ë (xs.take n) (us.take n)|_,_,0,_=>.nil|_,_,_+1,.nil=>.nil|_,_,n+1,.cons r t=>.cons r (Ë.take n t)
theorem Ë.drop:∀{xs:List V}{us:gV}n,Ë xs us->Ë (xs.drop n) (us.drop n)|_,_,0,r=>r|_,_,_+1,.nil=>.nil|_,_,n+1,.cons _ t=>Ë.drop n t
def Ĭ:Option V->Option Value->Prop|some v,some u=>Ì v u|none,none=>True|_,_=>False
def KV:List (κ×V)->List (κ×Value)->Prop:=Paired λp q=>p.1=q.1/\Ì p.2 q.2
def kV:Key->V|.inl i=>.int i|.inr x=>.str x
inductive HO where|lst(xs:List V)|tup(xs:List V)|dK(kvs:List (Key×V))|dT(kvs:List (List Key×V))|set(S:Int->Bool)(n:Nat)|ins(C dx:Addr)(fs:List (Str×V))|own(x:Addr)|xd(fs:List (Str×V))|met(f x:Addr)|rng(lo hi:Int)|frz(o:Obj)(u:HO)|tbl(ps:Qa0)|ext(φ:Heap->Prop)
abbrev Hp:=Addr->Option HO
def upd(H:Hp)(a:Addr)(o:HO):Hp:=λb=>if b=a then some o else H b
theorem aj:upd H a o a=some o:=by unfold upd;rw[È rfl]
theorem aq(h:b≠a):upd H a o b=H b:=by unfold upd;rw[Æ h]
theorem Im{H:Hp}(h:H a=some o)(h':H b=some u)(d:o≠u):a≠b:=by intro e;subst e;rw[h]at h';exact d (ŉ h')
theorem az{H:Hp}(h:H a=some o)(h':H b=none):a≠b:=by intro e;subst e;rw[h]at h';cases h'
section
variable(P:Program)(w:World)
def Ñ(H:Hp)(h:Heap)(a:Addr):HO->Prop|.lst xs=>xs.length<=sizeLine/\∃Z8 n,Ë xs Z8/\h.get? a=some {cls:=.type "list",data:=.seq Z8.toArray n}|.tup xs=>xs.length<=sizeLine/\∃Z8,Ë xs Z8/\IsTup h a Z8.toArray|.dK kvs=>kvs.length<=sizeLine/\(a==sysModules)=false/\∃vs,KV kvs vs/\h.DictOf (bx P w) a vs|.dT kvs=>kvs.length<=sizeLine/\(a==sysModules)=false/\∃xs,Paired (λp q=>p.1=q.1/\H q.2.1=some (.tup (p.1.map kV))/\Ì p.2 q.2.2) kvs xs/\∃o es ep,h.get? a=some o/\o.ExactDict/\o.data=.dict es ep/\es.toList=xs.map (entryOfKey (tupleKind (bx P w)))/\(xs.map (·.1)).Nodup|.set S n=>h.SetOf (intKind P w) a S n|.ins C dx fs=>H dx=some (.own a)/\fs.length<=1000/\dx≠a/\h.get? a=some (PySem.W.instObj C dx)/\∃mA,h.Ns1 dx mA/\(∀f,Ĭ (fs.lookup f) (mA f))/\PySem.Within mA (fs.map (·.1))|.own _=>∃o,h.get? a=some o|.xd fs=>∃mA,h.Ns1 a mA/\∀f,Ĭ (fs.lookup f) (mA f)|.rng lo hi=>∃t u v,h.get? a=some {cls:=.type "range",data:=.fields #[.int lo t,.int hi u,.int 1 v]}|.frz o u=>h.get? a=some o/\Ñ H h a u|.tbl ps=>h.get? a=some {cls:=.none,data:=.fields ps}|.met f x=>h.get? a=some (PySem.W.methodObj (.ref f) (.ref x))|.ext φ=>φ h/\(∃o,h.get? a=some o)/\∀h1 h2,φ h1->(∀o,h1.get? a=some o->h2.get? a=some o)->φ h2
def û(H:Hp)(h:Heap):Prop:=∀a o,H a=some o->Ñ P w H h a o
end
section
variable{a:Addr}
theorem Ñ.lt(x:Ñ P w H h a o):a<h.objs.size:=by cases o with|lst xs=>obtain⟨_,_,_,_,e⟩:=x;exact ö e;|tup xs=>obtain⟨_,_,_,p⟩:=x;exact p.lt;|dK kvs=>obtain⟨_,_,_,_,o,_,_,e,_⟩:=x;exact ö e;|dT kvs=>obtain⟨_,_,_,_,o,_,_,e,_⟩:=x;exact ö e;|set S n=>obtain⟨o,_,_,_,e,_⟩:=x;exact ö e;|ins C dx fs=>obtain⟨_,_,_,e,_⟩:=x;exact ö e;|own y=>obtain⟨_,e⟩:=x;exact ö e;|xd fs=>obtain⟨_,⟨_,_,_,e,_⟩,_⟩:=x;exact ö e;|rng lo hi=>obtain⟨_,_,_,e⟩:=x;exact ö e;|frz ob u=>obtain⟨e,_⟩:=x;exact ö e;|tbl ps=>exact ö (x);|met f y=>exact ö (x);|ext φ=>obtain⟨_,⟨_,e⟩,_⟩:=x;exact ö e
theorem Paired.mapP:∀{l₁:List α}{l₂:List β},Paired F l₁ l₂->(∀a b,F a b->G a b)->Paired G l₁ l₂|_,_,.nil,_=>.nil|_,_,.cons r t,f=>.cons (f _ _ r) (Paired.mapP t f)
theorem Ñ.stay(x:Ñ P w H h a o)(k:∀b u,(b=a\/H b=some (.own a))->h.get? b=some u->h'.get? b=some u)(ho:∀b,H b=some (.own a)->H' b=some (.own a))(ht:∀b xs,H b=some (.tup xs)->H' b=some (.tup xs)):Ñ P w H' h' a o:=by induction o with|lst xs=>obtain⟨z,Z8,n,r,e⟩:=x;exact⟨z,Z8,n,r,k _ _ (.inl rfl) e⟩;|tup xs=>obtain⟨z,Z8,r,ob,e,c⟩:=x;exact⟨z,Z8,r,ob,k _ _ (.inl rfl) e,c⟩;|dK kvs=>obtain⟨z,y,vs,r,ob,es,ep,e,c⟩:=x;exact⟨z,y,vs,r,ob,es,ep,k _ _ (.inl rfl) e,c⟩;|dT kvs=>obtain⟨z,y,xs,r,ob,es,ep,e,c⟩:=x;exact⟨z,y,xs,Paired.mapP r λp q z=>⟨z.1,ht _ _ z.2.1,z.2.2⟩,ob,es,ep,k _ _ (.inl rfl) e,c⟩;|set S n=>obtain⟨ob,es,ep,t,e,c⟩:=x;exact⟨ob,es,ep,t,k _ _ (.inl rfl) e,c⟩;|ins C dx fs=>obtain⟨d,z,ne,e,mA,⟨od,es,ep,e2,c⟩,r⟩:=x;exact⟨ho _ d,z,ne,k _ _ (.inl rfl) e,mA,⟨od,es,ep,k _ _ (.inr d) e2,c⟩,r⟩;|own y=>obtain⟨ob,e⟩:=x;exact⟨ob,k _ _ (.inl rfl) e⟩;|xd fs=>obtain⟨mA,⟨od,es,ep,e,c⟩,r⟩:=x;exact⟨mA,⟨od,es,ep,k _ _ (.inl rfl) e,c⟩,r⟩;|rng lo hi=>obtain⟨t,u,v,e⟩:=x;exact⟨t,u,v,k _ _ (.inl rfl) e⟩;|frz ob u ih=>obtain⟨e,q⟩:=x;exact⟨k _ _ (.inl rfl) e,ih q⟩;|tbl ps=>have e:h.get? a=some {cls:=.none,data:=.fields ps}:=x;exact k a _ (.inl rfl) e;|met f y=>have e:h.get? a=some (PySem.W.methodObj (.ref f) (.ref y)):=x;exact k a _ (.inl rfl) e;|ext φ=>obtain⟨p,⟨o,e⟩,st⟩:=x;exact⟨st _ _ p λo q=>k _ _ (.inl rfl) q,⟨o,k _ _ (.inl rfl) e⟩,st⟩
theorem û.lt(x:û P w H h)(e:H a=some o):a<h.objs.size:=(x a o e).lt
theorem û.fresh(x:û P w H h)(e:h.objs.size<=a):H a=none:=by cases q:H a with|none=>rfl;|some u=>exact absurd (ĵ (x.lt q) e) (Θ _)
theorem û.kept(x:û P w H h)(k:∀b u,h.get? b=some u->h'.get? b=some u):û P w H h':=λa o e=>(x a o e).stay (λb u _ q=>k b u q) (λ_ q=>q) λ_ _ q=>q
theorem û.laid(x:û P w H h)(k:∀b u,h.get? b=some u->h'.get? b=some u)(hp:h.objs.size<=a)(new:Ñ P w (upd H a o) h' a o):û P w (upd H a o) h':=λb u e=>by
 have hn:=x.fresh hp;by_cases hb:b=a;.subst hb;rw[aj]at e;cases e;exact new
 .rw[aq hb]at e;exact(x b u e).stay (λc v _ q=>k c v q) (λc q=>by rw[aq (az q hn)];exact q) λc xs q=>by rw[aq (az q hn)];exact q
end
def Rd(H:Hp)(a:Addr)(u:HO):Prop:=H a=some u\/∃o,H a=some (.frz o u)
theorem Rd.ok(r:Rd H a u)(x:û P w H h):Ñ P w H h a u:=by
 rcases r with r|⟨o,r⟩;.exact x a u r
 .obtain⟨_,q⟩:=x a _ r;exact q
def Mut:Option HO->Prop|some (.lst _)=>True|some (.dK _)=>True|some (.dT _)=>True|some (.set _ _)=>True|some (.ins _ _ _)=>True|some (.ext _)=>True|_=>False
section
theorem û.write(ok:û P w H h)(mu:Mut (H x))(he:e=x\/H e=some (.own x))(k:∀b u,b≠e->h.get? b=some u->h'.get? b=some u)(AD:∃u,h'.get? e=some u)(new:Ñ P w (upd H x o') h' x o'):û P w (upd H x o') h':=λb u q=>by
 have BG:∀c y,H c=some (.own y)->c≠x:=λc y r z=>by subst z;rw[r]at mu;exact mu
 have HU:∀c xs,H c=some (.tup xs)->c≠x:=λc xs r z=>by subst z;rw[r]at mu;exact mu
 by_cases hb:b=x;.subst hb;rw[aj]at q;cases q;exact new
 .rw[aq hb]at q;by_cases BH:b=e
  .have q':H b=some (.own x):=by grind
   rw[q]at q';cases q';obtain⟨v,hv⟩:=AD;exact⟨v,by rw[BH];exact hv⟩
  .refine(ok b u q).stay (λc v hc r=>k c v ?_ r) (λc r=>by rw[aq (BG c b r)];exact r) λc xs r=>by rw[aq (HU c xs r)];exact r
   rcases hc with rfl|hc;.exact BH
   .rintro rfl;rcases he with z|z;.exact BG c b hc z
    .rw[hc]at z;cases z;exact hb rfl
end
structure Un(fs ex:þ)(H H':Hp)(h h':Heap):Prop where
 keep:∀b o,h.get? b=some o->H b=none->b∉fs->b∉ex->h'.get? b=some o
 slot:∀b o,h.get? b=some o->H b=none->b∈fs->b∉ex->∃sl,h'.get? b=some {o with slots:=sl}free:∀b o,h.get? b=some o->H b=none->b∉ex->H' b=none
 there:∀b o,h.get? b=some o->b∉ex->∃o',h'.get? b=some o'
 tups:∀b xs,H b=some (.tup xs)->H' b=some (.tup xs)frzs:∀b o u,H b=some (.frz o u)->H' b=some (.frz o u)tbls:∀b ps,H b=some (.tbl ps)->∃more,H' b=some (.tbl (ps++more))
section
variable{h h1 h2 h':Heap}{a x e:Addr}
theorem Un.any(u:Un fs ex H H1 h h1)(q:h.get? b=some ob)(n:H b=none)(hx:b∉ex):∃sl,h1.get? b=some {ob with slots:=sl}:=by
 by_cases hb:b∈fs;.exact u.slot b ob q n hb hx
 .exact⟨ob.slots,u.keep b ob q n hb hx⟩
theorem Un.kept(k:∀b u,h.get? b=some u->h'.get? b=some u):Un fs ex H H h h':=⟨λb ob q _ _ _=>k b ob q,λb ob q _ _ _=>⟨ob.slots,k b ob q⟩,λ_ _ _ n _=>n,λb ob q _=>⟨ob,k b ob q⟩,λ_ _ q=>q,λ_ _ _ q=>q,λ_ ps q=>⟨#[],by rw[q];simp⟩⟩
theorem Un.refl:Un fs ex H H h h:=Un.kept λ_ _ q=>q
theorem Un.laid(k:∀b u,h.get? b=some u->h'.get? b=some u)(hp:h.objs.size<=a)(hn:H a=none):Un fs ex H (upd H a o) h h' where
 keep:=λb u q _ _ _=>k b u q;slot:=λb u q _ _ _=>⟨u.slots,k b u q⟩;free:=λb u q n _=>by rw[aq (ę (ĵ (ö q) hp))];exact n
 there:=λb u q _=>⟨u,k b u q⟩;tups:=λb xs q=>by rw[aq (az q hn)];exact q
 frzs:=λb u xs q=>by rw[aq (az q hn)];exact q
 tbls:=λb ps q=>⟨#[],by rw[aq (az q hn),q];simp⟩
theorem Un.write(mu:Mut (H x))(he:e=x\/H e=some (.own x))(k:∀b u,b≠e->h.get? b=some u->h'.get? b=some u)(AD:∃u,h'.get? e=some u):Un fs ex H (upd H x o) h h':=by
 have hx:∀b,H b=none->b≠x:=λb n z=>by subst z;rw[n]at mu;exact mu
 have hb:∀b,H b=none->b≠e:=λb n z=>by
  subst z;rcases he with r|r;.exact hx b n r
  .rw[n]at r;cases r
 have hm:∀b u,H b=some u->¬Mut (some u)->b≠x:=λb u q nm z=>by subst z;rw[q]at mu;exact nm mu
 refine⟨λb u q n _ _=>k b u (hb b n) q,λb u q n _ _=>⟨u.slots,k b u (hb b n) q⟩,λb u q n _=>by rw[aq (hx b n)];exact n,λb u q _=>?_,λb xs q=>by rw[aq (hm b _ q λz=>z)];exact q,λb u xs q=>by rw[aq (hm b _ q λz=>z)];exact q,λb ps q=>⟨#[],by rw[aq (hm b _ q λz=>z),q];simp⟩⟩;by_cases BH:b=e;.subst BH;exact AD
 .exact⟨u,k b u BH q⟩
end
def trk(h:Heap)(H:Hp):þ:=(List.range h.objs.size).filter λa=>(H a).isSome
def nY(h:Heap)(H:Hp):Heap:=PySem.W.hideAll h (trk h H)
theorem Ah(h:Heap)(H:Hp):(nY h H).objs.size=h.objs.size:=PySem.W.hideAll_size _ _
theorem Cv(e:h.get? b=some o)(n:H b=none):(nY h H).get? b=some o:=PySem.W.hideAll_get _ e λhm=>by have q:(H b).isSome=true:=(Ũ.mp hm).2;rw[n]at q;simp at q
theorem Gb(e:(nY h H).get? b=some o):h.get? b=some o/\H b=none:=by have e':h.get? b=some o:=PySem.W.of_hideAll (trk h H) e;refine⟨e',?_⟩;cases q:H b with|none=>rfl;|some x=>have hm:b∈trk h H:=Ũ.mpr ⟨ϕ.mpr (ö e'),by simp[q]⟩;have z:(nY h H).get? b=none:=PySem.W.hideAll_none (trk h H) hm;rw[z]at e;cases e
structure Mod(K:Frag)(mg:RG)(base:Heap):Prop where
 kin:K.In base
 glob:base.Ns mainGlobals mg
 blt:∃mb,base.Ns builtinsNs mb/\∀x:Str,x≠"__name__"->mb x=bootBuiltins x
 nolimit:base.NoLimit
structure Cx where
 prog:Program
 w:World
 K:Frag
 mg:RG
 base:Heap
 A:Around
 N:ç
 s₀:Shared
 H₀:Hp
 env:Env
 outer:List Env
 stack:List Env
 ex:þ
 fn:Str->Bool
 calm:Bool
 pn:Yq
 xe:RC
def ĉ(l:List Env):þ:=l.filterMap (·.frame)
abbrev Cx.fs(X:Cx):þ:=ĉ X.outer
def Vis(sc:Scope)(x:Str):Prop:=sc.names.lookup x=some .local\/sc.names.lookup x=some .cell\/sc.names.lookup x=some .free
def Loc(sc:Scope)(x:Str):Prop:=sc.names.lookup x=some .local\/sc.names.lookup x=some .cell
def Look(env:Env)(h:Heap)(m:RG)(x:Str)(u:Value):Prop:=(env.kindOf x=some .local/\m x=some u)\/((env.kindOf x=some .cell\/env.kindOf x=some .free)/\∃c,env.cells.lookup x=some c/\h.IsCell c (some u))
structure Cx.Ok(X:Cx):Prop where
 mod:Mod X.K X.mg X.base
 kind:X.env.scope.kind=.function
 glob:X.env.globals=mainGlobals
 blt:X.env.builtins=builtinsNs
 above:X.s₀.heap.objs.size<=X.env.locals
 inj:∀x y c,X.env.cells.lookup x=some c->X.env.cells.lookup y=some c->x=y
 has:∀x,(X.env.kindOf x=some .cell\/X.env.kindOf x=some .free)->∃c,X.env.cells.lookup x=some c
 cab:∀x c,X.fn x=true->X.env.cells.lookup x=some c->X.s₀.heap.objs.size<=c
 hd:X.calm=true->X.A.handled=none
 frames:X.A.frames=some X.stack
 stk:X.stack=X.outer\/(X.stack=X.env::X.outer/\X.env.frame=some X.env.locals)exf:∀b∈X.ex,b≠X.env.locals/\∀x c,X.env.cells.lookup x=some c->c≠b
 bs:∀b o,X.base.get? b=some o->X.s₀.heap.get? b=some o/\X.H₀ b=none
 bsz:X.base.objs.size<=X.s₀.heap.objs.size
 noex:∀b o,X.base.get? b=some o->b∉X.ex
 exfs:∀b∈X.ex,b∉X.fs
 funs:X.s₀.heap.FunFrames X.base X.outer
 frf:∀b∈X.fs,X.H₀ b=none
structure Ä(X:Cx)(Z7:Yq)(σ:List (Option V))(H:Hp)(s:Shared):Prop where
 ok:X.Ok
 os:s.os=X.s₀.os
 bare:AllBare s.gens
 base:Un X.fs X.ex X.H₀ H X.s₀.heap s.heap
 loc:∃m,s.heap.Ns X.env.locals m/\∀(i:Nat)x v,X.N[i]?=some x->σ[i]?=some (some v)->Vis X.env.scope x->∃u,Ì v u/\Look X.env s.heap m x u
 cell:∀x c,X.env.cells.lookup x=some c->∃v,s.heap.IsCell c v
 free:H X.env.locals=none
 freeC:∀x c,X.env.cells.lookup x=some c->H c=none
 pin:∀p∈X.pn++Z7,s.heap.get? p.1=some p.2/\H p.1=none/\p.1≠X.env.locals/\p.1∉X.fs/\∀v,p.2.data≠.cell v
 hok:û X.prog X.w H s.heap
 len:σ.length=X.N.length
section
variable{X:Cx}
theorem Cx.Ok.nofr(ok:X.Ok)(e:X.base.get? b=some o):b∉X.fs:=λhb=>by have:=(ok.funs.mem hb).1;rw[e]at this;cases this
theorem Ä.bs(I:Ä X Z7 σ H s):∀b o,X.base.get? b=some o->s.heap.get? b=some o/\H b=none:=λb o e=>⟨I.base.keep b o (I.ok.bs b o e).1 (I.ok.bs b o e).2 (I.ok.nofr e) (I.ok.noex b o e),I.base.free b o (I.ok.bs b o e).1 (I.ok.bs b o e).2 (I.ok.noex b o e)⟩
theorem Ä.bk(I:Ä X Z7 σ H s):∀b o,X.base.get? b=some o->s.heap.get? b=some o:=λb o e=>(I.bs b o e).1
theorem Ä.mod(I:Ä X Z7 σ H s):Mod X.K X.mg X.base:=I.ok.mod
theorem Ä.kIn(I:Ä X Z7 σ H s):X.K.In s.heap:=I.ok.mod.kin.keeps I.bk
theorem Ä.lt(I:Ä X Z7 σ H s):X.env.locals<s.heap.objs.size:=by obtain⟨_,hn,_⟩:=I.loc;exact hn.lt
theorem Ä.sz(I:Ä X Z7 σ H s):X.s₀.heap.objs.size<=s.heap.objs.size:=ĺ I.ok.above (Za9 I.lt)
theorem Ä.nofs(I:Ä X Z7 σ H s){a:Addr}(h:s.heap.objs.size<=a):a∉X.fs:=λhb=>by obtain⟨_,o,ho,_⟩:=I.ok.funs.mem hb;exact absurd (ĵ (ö ho) (ĺ I.sz h)) (Θ _)
theorem Ä.cne(I:Ä X Z7 σ H s):∀x c,X.env.cells.lookup x=some c->c≠X.env.locals:=λx c e z=>by obtain⟨v,o,ho,hd⟩:=I.cell x c e;obtain⟨m,⟨o',es,ep,ku,pE,_⟩,_⟩:=I.loc;rw[z,ku]at ho;cases ho;rw[pE]at hd;cases hd
theorem Ä.funs(I:Ä X Z7 σ H s):s.heap.FunFrames X.base X.outer:=by
 have all:∀(l:List Env),(∀b∈ĉ l,b∈X.fs)->X.s₀.heap.FunFrames X.base l->s.heap.FunFrames X.base l:=by intro l;induction l with|nil=>intro _ _;trivial;|cons env r ih=>intro hs hl;obtain⟨hk,⟨L,o,hf,hn,ho,hd⟩,hr⟩:=hl;have hL:L∈X.fs:=hs L (by unfold ĉ;rw[Za3,hf];exact Zap);obtain⟨sl,e⟩:=I.base.slot L o ho (I.ok.frf L hL) hL λz=>I.ok.exfs L z hL;exact⟨hk,⟨L,_,hf,hn,e,hd⟩,ih (λb hb=>hs b (by unfold ĉ;rw[Za3,hf];exact Zaj _ hb)) hr⟩
 exact all X.outer (λ_ hb=>hb) I.ok.funs
theorem Ä.stack(I:Ä X Z7 σ H s):s.heap.FunFrames X.base X.stack:=by
 rcases I.ok.stk with e|⟨e,hf⟩;.rw[e];exact I.funs
 .rw[e];obtain⟨m,hn,_⟩:=I.loc;refine .cons (by rw[I.ok.kind];decide) hf hn ?_ I.funs;exact Heap.get?_none_of_le (ĺ I.ok.bsz I.ok.above)
theorem Ä.stkSub(I:Ä X Z7 σ H s):∀b∈ĉ X.stack,b∈X.env.locals::X.fs:=λb hb=>by
 rcases I.ok.stk with e|⟨e,hf⟩;.rw[e]at hb;exact Zaj _ hb
 .rw[e]at hb;unfold ĉ at hb;rw[Za3,hf]at hb;exact hb
theorem Ä.stkFree(I:Ä X Z7 σ H s):∀b∈ĉ X.stack,H b=none:=λb hb=>by
 rcases Ġ.mp (I.stkSub b hb)with e|hb;.rw[e];exact I.free
 .obtain⟨_,o,ho,_⟩:=I.ok.funs.mem hb;exact I.base.free b o ho (I.ok.frf b hb) λz=>I.ok.exfs b z hb
theorem Ä.step{ch:þ}(I:Ä X Z7 σ H s)(oB:∀b∈ch,(b∈X.ex\/X.s₀.heap.objs.size<=b)/\b≠X.env.locals/\(∀x c,X.env.cells.lookup x=some c->c≠b)/\∀p∈X.pn++Z7,p.1≠b)(keep:∀b o,b≠X.env.locals->b∉X.fs->b∉ch->s.heap.get? b=some o->H b=none->h'.get? b=some o)(slot:∀b o,b≠X.env.locals->b∈X.fs->b∉ch->s.heap.get? b=some o->H b=none->∃sl,h'.get? b=some {o with slots:=sl})(free:∀b o,b∉ch->s.heap.get? b=some o->H b=none->H' b=none)(there:∀b o,b∉ch->s.heap.get? b=some o->∃o',h'.get? b=some o')(tups:∀b xs,H b=some (.tup xs)->H' b=some (.tup xs))(frzs:∀b o u,H b=some (.frz o u)->H' b=some (.frz o u))(tbls:∀b ps,H b=some (.tbl ps)->∃more,H' b=some (.tbl (ps++more)))(ns:∀m,s.heap.Ns X.env.locals m->h'.Ns X.env.locals m)(hok:û X.prog X.w H' h')(hg:AllBare g'):Ä X Z7 σ H' {s with heap:=h',gens:=g',drawn:=d',toks:=t'}:=by
 have EZ:∀b o,X.s₀.heap.get? b=some o->b≠X.env.locals:=λb o e=>ę (ĵ (ö e) I.ok.above);have E1:∀b o,X.s₀.heap.get? b=some o->b∉X.ex->b∉ch:=λb o e hx hb=>by
  rcases(oB b hb).1 with z|z;.exact hx z
  .exact absurd (ĵ (ö e) z) (Θ _)
 have cellK:∀x c,X.env.cells.lookup x=some c->∀v,s.heap.IsCell c v->h'.IsCell c v:=λx c e v hZ=>by
  obtain⟨o,ho,hd⟩:=hZ;have BI:c∉ch:=λz=>(oB c z).2.2.1 x c e rfl;by_cases hc:c∈X.fs;.obtain⟨sl,q⟩:=slot c o (I.cne x c e) hc BI ho (I.freeC x c e);exact⟨_,q,hd⟩
  .exact⟨o,keep c o (I.cne x c e) hc BI ho (I.freeC x c e),hd⟩
 refine⟨I.ok,I.os,hg,⟨λb o e n hb hx=>?_,λb o e n hb hx=>?_,λb o e n hx=>?_,λb o e hx=>?_,λb xs e=>tups b xs (I.base.tups b xs e),λb o xs e=>frzs b o xs (I.base.frzs b o xs e),λb ps e=>?_⟩,?_,λx c e=>?_,?_,λx c e=>?_,λp hp=>?_,hok,I.len⟩;.exact keep b o (EZ b o e) hb (E1 b o e hx) (I.base.keep b o e n hb hx) (I.base.free b o e n hx)
 .obtain⟨sl,e1⟩:=I.base.slot b o e n hb hx;obtain⟨E2,e2⟩:=slot b _ (EZ b o e) hb (E1 b o e hx) e1 (I.base.free b o e n hx);exact⟨E2,e2⟩
 .obtain⟨o',e1⟩:=I.base.there b o e hx;exact free b o' (E1 b o e hx) e1 (I.base.free b o e n hx)
 .obtain⟨o',e1⟩:=I.base.there b o e hx;exact there b o' (E1 b o e hx) e1
 .obtain⟨m1,e1⟩:=I.base.tbls b ps e;obtain⟨m2,e2⟩:=tbls b _ e1;exact⟨m1++m2,by rw[e2,Array.append_assoc]⟩
 .obtain⟨m,hn,hl⟩:=I.loc;refine⟨m,ns m hn,λi x v e1 e2 e3=>?_⟩;obtain⟨u,r,l⟩:=hl i x v e1 e2 e3;refine⟨u,r,?_⟩;rcases l with l|⟨k,c,e,z⟩;.exact .inl l
  .exact .inr ⟨k,c,e,cellK x c e _ z⟩
 .obtain⟨v,z⟩:=I.cell x c e;exact⟨v,cellK x c e v z⟩
 .obtain⟨m,⟨o,_,_,ho,_⟩,_⟩:=I.loc;exact free _ o (λz=>(oB _ z).2.1 rfl) ho I.free
 .obtain⟨v,o,ho,hd⟩:=I.cell x c e;exact free c o (λz=>(oB c z).2.2.1 x c e rfl) ho (I.freeC x c e)
 .obtain⟨e,n,ne,nf,d⟩:=I.pin p hp;have BI:p.1∉ch:=λz=>(oB p.1 z).2.2.2 p hp rfl;exact⟨keep p.1 p.2 ne nf BI e n,free p.1 p.2 BI e n,ne,nf,d⟩
theorem Ä.un(I:Ä X Z7 σ H s)(u:Un X.fs [] H H' s.heap h')(hok:û X.prog X.w H' h'):Ä X Z7 σ H' {s with heap:=h',toks:=t'}:=by obtain⟨m,⟨o,es,ep,ho,r⟩,_⟩:=id I.loc;obtain⟨sl,hL⟩:=u.any ho I.free Z2;exact I.step (g':=s.gens) (d':=s.drawn) (ch:=[]) (λ_ z=>nomatch z) (λb o _ hb _ e n=>u.keep b o e n hb Z2) (λb o _ hb _ e n=>u.slot b o e n hb Z2) (λb o _ e n=>u.free b o e n Z2) (λb o _ e=>u.there b o e Z2) u.tups u.frzs u.tbls (λm' hm=>by obtain⟨o',gz,wb,ku,r'⟩:=hm;rw[ho]at ku;cases ku;exact⟨_,gz,wb,hL,r'⟩) hok I.bare
theorem Ä.call(I:Ä X Z7 σ H s)(u:Un (ĉ X.stack) ch H H' s.heap h')(hok:û X.prog X.w H' h')(hg:AllBare g')(oB:∀b∈ch,(b∈X.ex\/X.s₀.heap.objs.size<=b)/\b≠X.env.locals/\(∀x c,X.env.cells.lookup x=some c->c≠b)/\∀p∈X.pn++Z7,p.1≠b):Ä X Z7 σ H' {s with heap:=h',gens:=g',drawn:=d',toks:=t'}:=by obtain⟨m,⟨o,es,ep,ho,r⟩,_⟩:=id I.loc;obtain⟨sl,hL⟩:=u.any ho I.free λz=>(oB _ z).2.1 rfl;exact I.step (ch:=ch) oB (λb o hL hb hc e n=>u.keep b o e n (λz=>(Ġ.mp (I.stkSub b z)).elim hL hb) hc) (λb o _ _ hc e n=>u.any e n hc) (λb o hc e n=>u.free b o e n hc) (λb o hc e=>u.there b o e hc) u.tups u.frzs u.tbls (λm' hm=>by obtain⟨o',gz,wb,ku,r'⟩:=hm;rw[ho]at ku;cases ku;exact⟨_,gz,wb,hL,r'⟩) hok hg
theorem Ä.turned(I:Ä X Z7 σ H s)(k:∀b o,b≠it->s.heap.get? b=some o->h'.get? b=some o)(hn:H it=none)(hL:it≠X.env.locals)(h1:it∈X.ex\/X.s₀.heap.objs.size<=it)(h2:∀x c,X.env.cells.lookup x=some c->c≠it)(h3:∀p∈X.pn++Z7,p.1≠it):Ä X Z7 σ H {s with heap:=h',toks:=t'}:=by
 have NL:∀b u,H b=some u->b≠it:=λb u e z=>by rw[z,hn]at e;cases e
 refine I.step (g':=s.gens) (d':=s.drawn) (ch:=[it]) (λb hb=>?_) (λb o _ _ hc e _=>k b o (λz=>hc (by simp[z])) e) (λb o _ _ hc e _=>⟨o.slots,k b o (λz=>hc (by simp[z])) e⟩) (λ_ _ _ _ n=>n) (λb o hc e=>⟨o,k b o (λz=>hc (by simp[z])) e⟩) (λ_ _ e=>e) (λ_ _ _ e=>e) (λb ps e=>⟨#[],by rw[e];simp⟩) (λm hm=>?_) (λb u e=>?_) I.bare
 .have e:b=it:=by simpa using hb
  subst e;exact⟨h1,hL,h2,h3⟩
 .obtain⟨o,es,ep,ho,r⟩:=hm;exact⟨o,es,ep,k _ o (Ne.symm hL) ho,r⟩
 .refine(I.hok b u e).stay (λc v hc q=>k c v ?_ q) (λ_ q=>q) λ_ _ q=>q;rcases hc with z|z;.rw[z];exact NL b u e
  .exact NL c _ z
theorem Ä.tok(I:Ä X Z7 σ H s)(t:Nat):Ä X Z7 σ H {s with toks:=t}:=I.un (h':=s.heap) (t':=t) Un.refl I.hok
theorem Ä.kept(I:Ä X Z7 σ H s)(k:∀b u,s.heap.get? b=some u->h'.get? b=some u):Ä X Z7 σ H {s with heap:=h',toks:=t'}:=I.un (Un.kept k) (I.hok.kept k)
theorem Ä.laid{a:Addr}(I:Ä X Z7 σ H s)(k:∀b u,s.heap.get? b=some u->h'.get? b=some u)(hp:s.heap.objs.size<=a)(new:Ñ X.prog X.w (upd H a o) h' a o):Ä X Z7 σ (upd H a o) {s with heap:=h',toks:=t'}:=I.un (Un.laid k hp (I.hok.fresh hp)) (I.hok.laid k hp new)
theorem Ä.write(I:Ä X Z7 σ H s)(mu:Mut (H x))(he:e=x\/H e=some (.own x))(k:∀b u,b≠e->s.heap.get? b=some u->h'.get? b=some u)(AD:∃u,h'.get? e=some u)(new:Ñ X.prog X.w (upd H x o) h' x o):Ä X Z7 σ (upd H x o) {s with heap:=h',toks:=t'}:=I.un (Un.write mu he k AD) (I.hok.write mu he k AD new)
theorem Ä.pins_of(I:Ä X Z7 σ H s)(h:∀p∈gN,s.heap.get? p.1=some p.2/\H p.1=none/\p.1≠X.env.locals/\p.1∉X.fs/\∀v,p.2.data≠.cell v):Ä X gN σ H s:=⟨I.ok,I.os,I.bare,I.base,I.loc,I.cell,I.free,I.freeC,λp hp=>(ē.mp hp).elim (λz=>I.pin p (Zav _ z)) (h p),I.hok,I.len⟩
theorem uv{N:ç}(hN:N.Nodup){i j:Nat}(a:N[i]?=some x)(b:N[j]?=some x):i=j:=by obtain⟨h1,e1⟩:=ĩ.mp a;obtain⟨h2,e2⟩:=ĩ.mp b;exact(List.getElem_inj hN).mp (e1.trans e2.symm)
theorem jb(I:Ä X Z7 σ H s)(hN:X.N.Nodup)(hi:X.N[i]?=some x)(hx:Loc X.env.scope x)(r:Ì v u)(h:∀s',Ä X Z7 (σ.set i (some v)) H s'->(∃a,Heap.SameBut a s.heap s'.heap/\(a=X.env.locals\/X.env.cells.lookup x=some a))->Q () s')(hf:X.fn x=true\/X.env.scope.names.lookup x=some .local:=by first|exact .inl rfl|exact .inr rfl|assumption):wpAny M A (storeName X.env x u) Q E s:=by
 obtain⟨m,hn,hl⟩:=id I.loc;have HV:(X.env.scope.kind==.class||(X.env.scope.kind==.module&&X.env.locals !=X.env.globals))=false:=by rw[I.ok.kind];rfl
 have BM:i<σ.length:=by rw[I.len];exact(ĩ.mp hi).1
 have cne:=I.cne;have tracked:∀{a:Addr}{h':Heap},(∃o,s.heap.get? a=some o/\H a=none)->Heap.SameBut a s.heap h'->û X.prog X.w H h':=λ{a h'}ha hs b ob e=>by
  obtain⟨_,_,hfree⟩:=ha;refine(I.hok b ob e).stay (λc w' hc q=>(hs.2 c ?_).trans q) (λ_ q=>q) λ_ _ q=>q;rintro rfl;rcases hc with rfl|hc;.rw[hfree]at e;cases e
  .rw[hfree]at hc;cases hc
 rcases hx with hk|hk
 .refine wpAny_storeName_local hk hn (λh' AE hs=>?_) HV;obtain⟨oL,_,_,RD,_⟩:=id hn;refine h _ ⟨I.ok,I.os,I.bare,⟨λb o e n hb hx=>?_,λb o e n hb hx=>?_,I.base.free,λb o e hx=>?_,I.base.tups,I.base.frzs,I.base.tbls⟩,⟨_,AE,λj y v' e1 e2 e3=>?_⟩,λy c e=>?_,I.free,I.freeC,λp hp=>?_,tracked ⟨oL,RD,I.free⟩ hs,by simpa using I.len⟩ ⟨_,hs,.inl rfl⟩;.exact(hs.2 b (ę (ĵ (ö e) I.ok.above))).trans (I.base.keep b o e n hb hx)
  .obtain⟨sl,e1⟩:=I.base.slot b o e n hb hx;exact⟨sl,(hs.2 b (ę (ĵ (ö e) I.ok.above))).trans e1⟩
  .obtain⟨o',e1⟩:=I.base.there b o e hx;exact⟨o',(hs.2 b (ę (ĵ (ö e) I.ok.above))).trans e1⟩
  .by_cases hj:j=i;.subst hj;rw[hi]at e1;cases e1;rw[Zaw BM]at e2;cases e2;exact⟨u,r,.inl ⟨hk,by simp⟩⟩
   .rw[List.getElem?_set_ne (Ne.symm hj)]at e2;obtain⟨u',r',q⟩:=hl j y v' e1 e2 e3;refine⟨u',r',?_⟩;rcases q with⟨k,e⟩|⟨k,c,e,z⟩;.refine .inl ⟨k,?_⟩;have:y≠x:=λe=>hj (uv hN e1 (e▸hi));simp[this,e]
    .exact .inr ⟨k,c,e,z.sameBut hs (cne y c e)⟩
  .obtain⟨w',z⟩:=I.cell y c e;exact⟨w',z.sameBut hs (cne y c e)⟩
  .obtain⟨e,n,ne,nf,d⟩:=I.pin p hp;exact⟨(hs.2 p.1 ne).trans e,n,ne,nf,d⟩
 .have pT:X.fn x=true:=by
   rcases hf with z|z;.exact z
   .rw[z]at hk;cases hk
  obtain⟨c,hc⟩:=I.ok.has x (.inl hk);obtain⟨w',z⟩:=I.cell x c hc;refine wpAny_storeName_cell I.ok.kind hk hc z (λh' bg hs=>?_);obtain⟨oc,E3,HZ⟩:=id z;refine h {s with heap:=h'} ⟨I.ok,I.os,I.bare,⟨λb o e n hb hx=>?_,λb o e n hb hx=>?_,I.base.free,λb o e hx=>?_,I.base.tups,I.base.frzs,I.base.tbls⟩,⟨m,hn.sameBut hs (Ne.symm (cne x c hc)),λj y v' e1 e2 e3=>?_⟩,λy c' e=>?_,I.free,I.freeC,λp hp=>?_,tracked ⟨oc,E3,I.freeC x c hc⟩ hs,by simpa using I.len⟩ ⟨c,hs,.inr hc⟩;.exact(hs.2 b (ę (ĵ (ö e) (I.ok.cab x c pT hc)))).trans (I.base.keep b o e n hb hx)
  .obtain⟨sl,e1⟩:=I.base.slot b o e n hb hx;exact⟨sl,(hs.2 b (ę (ĵ (ö e) (I.ok.cab x c pT hc)))).trans e1⟩
  .obtain⟨o',e1⟩:=I.base.there b o e hx;exact⟨o',(hs.2 b (ę (ĵ (ö e) (I.ok.cab x c pT hc)))).trans e1⟩
  .by_cases hj:j=i;.subst hj;rw[hi]at e1;cases e1;rw[Zaw BM]at e2;cases e2;exact⟨u,r,.inr ⟨.inl hk,c,hc,bg⟩⟩
   .rw[List.getElem?_set_ne (Ne.symm hj)]at e2;obtain⟨u',r',q⟩:=hl j y v' e1 e2 e3;refine⟨u',r',?_⟩;rcases q with q|⟨k,c',e,z'⟩;.exact .inl q
    .refine .inr ⟨k,c',e,z'.sameBut hs ?_⟩;rintro rfl;exact hj (uv hN e1 (I.ok.inj _ _ _ e hc▸hi))
  .by_cases E4:c'=c;.subst E4;exact⟨_,bg⟩
   .obtain⟨w2,z2⟩:=I.cell y c' e;exact⟨w2,z2.sameBut hs E4⟩
  .obtain⟨e,n,ne,nf,d⟩:=I.pin p hp;refine⟨(hs.2 p.1 ?_).trans e,n,ne,nf,d⟩;intro q;rw[q,E3]at e;have q':oc=p.2:=ŉ e;exact d w' (by rw[<-q'];exact HZ)
theorem fM(I:Ä X Z7 σ H s)(hN:X.N.Nodup)(hi:X.N[i]?=some x)(hx:Loc X.env.scope x)(r:Ì v u)(h:∀s',Ä X Z7 (σ.set i (some v)) H s'->Q () s')(hf:X.fn x=true\/X.env.scope.names.lookup x=some .local:=by first|exact .inl rfl|exact .inr rfl|assumption):wpAny M A (storeName X.env x u) Q E s:=jb I hN hi hx r (λs' I' _=>h s' I') hf
theorem Ä.call'(I:Ä X Z7 σ H s)(ho:s'.os=s.os)(u:Un (ĉ X.stack) ch H H' s.heap s'.heap)(hok:û X.prog X.w H' s'.heap)(hg:AllBare s'.gens)(oB:∀b∈ch,(b∈X.ex\/X.s₀.heap.objs.size<=b)/\b≠X.env.locals/\(∀x c,X.env.cells.lookup x=some c->c≠b)/\∀p∈X.pn++Z7,p.1≠b):Ä X Z7 σ H' s':=by obtain⟨h',g',d',t',o'⟩:=s';have e:o'=s.os:=ho;subst e;exact I.call (g':=g') (t':=t') (d':=d') u hok hg oB
end
abbrev XK:=Value->Option Addr->Hp->Prop
abbrev St:=List (Option V)
abbrev VK:=V->Hp->Prop
abbrev TE:=St->Hp->VK->Prop
abbrev TT:=St->Hp->(Bool->Hp->Prop)->Prop
abbrev TA:=St->Hp->(List V->Hp->Prop)->Prop
structure Ň where
 nx:St->Hp->Prop
 rt:VK
 bk:St->Hp->Prop:=λ_ _=>False
 ct:St->Hp->Prop:=λ_ _=>False
abbrev TS:=Ň->St->Hp->Prop
def EP(X:Cx)(Z7:Yq)(σ:St)(Q:VK)(u:Value)(s':Shared):Prop:=∃v H',Ä X Z7 σ H' s'/\Ì v u/\Q v H'
def TP(X:Cx)(Z7:Yq)(σ:St)(Q:Bool->Hp->Prop)(b:Bool)(s':Shared):Prop:=∃H',Ä X Z7 σ H' s'/\Q b H'
def AP(X:Cx)(Z7:Yq)(σ:St)(Q:List V->Hp->Prop)(us:gV)(s':Shared):Prop:=∃vs H',Ä X Z7 σ H' s'/\Ë vs us/\Q vs H'
def SP(X:Cx)(Z7:Yq)(D:Ň)(f:Flow)(s':Shared):Prop:=match f with|.next=>∃af H',Ä X Z7 af H' s'/\D.nx af H'|.brk=>∃af H',Ä X Z7 af H' s'/\D.bk af H'|.cont=>∃af H',Ä X Z7 af H' s'/\D.ct af H'|.ret u=>∃v af H',Ä X Z7 af H' s'/\Ì v u/\D.rt v H'
def PE(X:Cx)(e:Expr)(t:TE):Prop:=∀Z7 s(σ:St)H Q,Ä X Z7 σ H s->t σ H Q->wpAny (model X.prog X.w) X.A (eval e X.env) (EP X Z7 σ Q) X.xe s
def PT(X:Cx)(e:Expr)(t:TT):Prop:=∀Z7 s(σ:St)H Q,Ä X Z7 σ H s->t σ H Q->wpAny (model X.prog X.w) X.A (isTrue e X.env (eval e X.env)) (TP X Z7 σ Q) X.xe s
def PW(X:Cx)(e:Expr)(t:TT):Prop:=∀whole Z7 s(σ:St)H Q,Ä X Z7 σ H s->t σ H Q->wpAny (model X.prog X.w) X.A (isTrue e X.env whole) (TP X Z7 σ Q) X.xe s
theorem PW.pt(h:PW X e t):PT X e t:=h _
def PA(X:Cx)(es:ϲ)(t:TA):Prop:=∀pos Z7 s(σ:St)H Q,Ä X Z7 σ H s->t σ H Q->wpAny (model X.prog X.w) X.A (spliced (backTo pos (starEach es X.env))) (AP X Z7 σ Q) X.xe s
def PS(X:Cx)(st:Stmt)(t:TS):Prop:=∀Z7 s(σ:St)H D,Ä X Z7 σ H s->t D σ H->wpAny (model X.prog X.w) X.A (exec st X.env) (SP X Z7 D) X.xe s
def Ĵ(X:Cx)(st:List Stmt)(t:TS):Prop:=∀Z7 s(σ:St)H D,Ä X Z7 σ H s->t D σ H->wpAny (model X.prog X.w) X.A (execs st X.env) (SP X Z7 D) X.xe s
theorem Õ{Q Q':α->Shared->Prop}(h:wpAny M A t Q E s)(hQ:∀a s,Q a s->Q' a s):wpAny M A t Q' E s:=wpAny_mono h hQ λ_ _ x=>x
section
variable{X:Cx}
theorem bin(ha:PE X a ta)(hb:PE X b tb){σ:St}{R:V->V->Hp->Prop}(I:Ä X Z7 σ H s)(h:ta σ H λx H1=>tb σ H1 λy H2=>R x y H2){α:Type}{Q:α->Shared->Prop}{f:Value->Value->Sem α}(hf:∀v u s2 x y H2,Ä X Z7 σ H2 s2->Ì x v->Ì y u->R x y H2->wpAny (model X.prog X.w) X.A (f v u) Q X.xe s2):wpAny (model X.prog X.w) X.A (eval a X.env) (λv s₁=>wpAny (model X.prog X.w) X.A (eval b X.env) (λu s₂=>wpAny (model X.prog X.w) X.A (f v u) Q X.xe s₂) X.xe s₁) X.xe s:=by refine Õ (ha Z7 s σ H _ I h) λv s1=>?_;rintro⟨x,H1,I1,r1,q1⟩;refine Õ (hb Z7 s1 σ H1 _ I1 q1) λu s2=>?_;rintro⟨y,H2,I2,r2,q2⟩;exact hf v u s2 x y H2 I2 r1 r2 q2
inductive Z08(i:Nat)(σ:St)(H:Hp)(Q:VK):Prop|mk:∀v,(σ[i]?=some (some v))->(Q v H)->Z08 i σ H Q
def uw(i:Nat):TE:=λσ H Q=>Z08 i σ H Q
def tC(v:V):TE:=λ_ H Q=>Q v H
abbrev ū(x:Str):Prop:=(x==("__debug__":Str))=false
theorem wA{pos:Pos}(hN:X.N[i]?=some x)(hv:Vis X.env.scope x)(hd:ū x:=by decide)(eB:(x==("__classdict__":Str))=false:=by decide):PE X (.Name x pos) (uw i):=by
 intro Z7 s σ H Q I h;obtain⟨v,e,h⟩:=h;obtain⟨m,hn,hl⟩:=I.loc;obtain⟨u,r,l⟩:=hl i x v hN e hv;have fin:EP X Z7 σ Q u s:=⟨v,H,I,r,h⟩;rcases l with⟨hk,hm⟩|⟨hk,c,hc,hcell⟩;.exact wpAny_Name (wpAny_loadName_local I.ok.kind hk hn hm fin) hd
 .rcases hk with hk|hk;.exact wpAny_Name (wpAny_loadName_cell I.ok.kind hk hc hcell fin) hd
  .exact wpAny_Name (wpAny_loadName_free I.ok.kind hk hc hcell fin eB) hd
theorem aB{i j pos}:PE X (.Constant (.int i) j pos) (tC (.int i)):=λ_ _ _ H _ I h=>wpAny_Constant_int ⟨.int i,H,I.tok _,⟨_,rfl⟩,h⟩
theorem jG{b j pos}:PE X (.Constant (.bool b) j pos) (tC (.bl b)):=λ_ _ _ H _ I h=>Constant_bool ⟨.bl b,H,I,rfl,h⟩
theorem fW{j pos}:PE X (.Constant .none j pos) (tC .non):=λ_ _ _ H _ I h=>Constant_none ⟨.non,H,I,rfl,h⟩
theorem nZ{x j pos}:PE X (.Constant (.str x) j pos) (tC (.str x)):=λ_ _ _ H _ I h=>Calls.Constant_str ⟨.str x,H,I.tok _,⟨_,rfl⟩,h⟩
def Gl(X:Cx)(x:Str):Prop:=X.env.kindOf x=some .globalImplicit
theorem jc{σ:St}(I:Ä X Z7 σ H s)(hg:Gl X x)(hm:X.mg x=some u)(h:Q u s)(hd:ū x:=by decide):wpAny (model X.prog X.w) X.A (eval (.Name x pos) X.env) Q E s:=Calls.Name_function_global I.ok.kind hg (Calls.loadGlobal_global (by rw[I.ok.glob];exact I.mod.glob.keeps I.bk) hm h) hd
theorem jt{E:RC}{σ:St}{u:Value}{pos:Pos}{Q:RC}(I:Ä X Z7 σ H s)(hg:Gl X x)(hm:X.mg x=none)(hv:bootBuiltins x=some u)(h:Q u s)(hn:x≠"__name__":=by decide)(hd:ū x:=by decide):wpAny (model X.prog X.w) X.A (eval (.Name x pos) X.env) Q E s:=by obtain⟨mb,h1,h2⟩:=I.mod.blt;exact Calls.Name_function_global I.ok.kind hg (Calls.loadGlobal_builtin (by rw[I.ok.glob];exact I.mod.glob.keeps I.bk) hm (by rw[I.ok.blt];exact h1.keeps I.bk) ((h2 x hn).trans hv) h) hd
theorem bM(hg:Gl X x)(hm:X.mg x=some u)(r:Ì v u)(hd:ū x:=by decide):PE X (.Name x pos) (tC v):=λ_ _ _ H _ I h=>jc I hg hm ⟨v,H,I,r,h⟩ hd
theorem ni{pos:Pos}(hg:Gl X x)(hm:X.mg x=none)(hv:bootBuiltins x=some u)(r:Ì v u)(hn:x≠"__name__":=by decide)(hd:ū x:=by decide):PE X (.Name x pos) (tC v):=λ_ _ _ H _ I h=>jt I hg hm hv ⟨v,H,I,r,h⟩ hn hd
def PC(X:Cx)(op:CmpOp)(a b:Expr)(t:TE):Prop:=∀Z7 s(σ:St)H Q,Ä X Z7 σ H s->t σ H Q->wpAny (model X.prog X.w) X.A (eval a X.env) (λv s₁=>wpAny (model X.prog X.w) X.A (eval b X.env) (λu s₂=>wpAny (model X.prog X.w) X.A (compareOp op v u) (EP X Z7 σ Q) X.xe s₂) X.xe s₁) X.xe s
def tB(t:TE):TT:=λσ H Q=>t σ H λx H1=>∃c,x=.bl c/\Q c H1
theorem Nb(h:PC X op a b t)(h1:behindInMarks op b=false:=by first|exact nobehind _ Z3 Z3|rfl):PT X (.Compare a [op] [b] pos) (tB t):=by intro Z7 s σ H Q I hw;refine wpAny_isTrue_Compare1 (Õ (h Z7 s σ H _ I hw) λv s1 h1=>Õ h1 λu s2 h2=>Õ h2 λc s3=>?_) h1;rintro⟨x,H1,I1,r1,q1⟩;obtain⟨d,rfl,q⟩:=q1;cases r1;exact wpAny_truthy_bool ⟨H1,I1,q⟩
theorem dH(h:PE X e t)(he:∀whole,isTrue e X.env whole=(do let v<-whole;standAt e.pos;holding [v] (truthy v)):=by intro _;rfl):PT X e (tB t):=by intro Z7 s σ H Q I hw;refine isTrue_plain (Õ (h Z7 s σ H _ I hw) λv s1=>?_) (he _);rintro⟨x,H1,I1,r1,q1⟩;obtain⟨d,rfl,q⟩:=q1;cases r1;exact wpAny_truthy_bool ⟨H1,I1,q⟩
def Nf(t u:TT):TT:=λσ H Q=>t σ H λc H1=>if c=true then u σ H1 Q else Q false H1
def tOr(t u:TT):TT:=λσ H Q=>t σ H λc H1=>if c=true then Q true H1 else u σ H1 Q
def Kv(t:TT):TT:=λσ H Q=>t σ H λc H1=>Q (!c) H1
theorem rQ(ha:PT X a tA):PW X (.BoolOp .And [a] pos) tA:=by intro wh Z7 s σ H Q I h;refine isTrue_and (Õ (ha Z7 s σ H Q I h) λc s1 e=>?_);cases c with|true=>exact isTrue_and_nil e;|false=>exact e
theorem o7(ha:PT X a tA):PW X (.BoolOp .Or [a] pos) tA:=by intro wh Z7 s σ H Q I h;refine isTrue_or (Õ (ha Z7 s σ H Q I h) λc s1 e=>?_);cases c with|false=>exact isTrue_or_nil e;|true=>exact e
theorem wB(ha:PT X a tA)(hb:PW X (.BoolOp .And (b::rest) pos) E5):PW X (.BoolOp .And (a::b::rest) pos) (Nf tA E5):=by intro wh Z7 s σ H Q I h;refine isTrue_and (Õ (ha Z7 s σ H _ I h) λc s1=>?_);rintro⟨H1,I1,q1⟩;cases c with|true=>exact hb wh Z7 s1 σ H1 Q I1 q1;|false=>exact⟨H1,I1,q1⟩
theorem o9(ha:PT X a tA)(hb:PW X (.BoolOp .Or (b::rest) pos) E5):PW X (.BoolOp .Or (a::b::rest) pos) (tOr tA E5):=by intro wh Z7 s σ H Q I h;refine isTrue_or (Õ (ha Z7 s σ H _ I h) λc s1=>?_);rintro⟨H1,I1,q1⟩;cases c with|true=>exact⟨H1,I1,q1⟩;|false=>exact hb wh Z7 s1 σ H1 Q I1 q1
theorem cC(ha:PT X a tA):PT X (.UnaryOp .Not a pos) (Kv tA):=by intro Z7 s σ H Q I h;exact isTrue_not (ha Z7 s σ H (λc H1=>Q (!c) H1) I h)
def Ip(ta tb:TE):TE:=λσ H Q=>ta σ H λx H1=>∃c,x=.bl c/\if c=true then tb σ H1 Q else Q (.bl false) H1
def Kw(ta:TE):TE:=λσ H Q=>ta σ H λx H1=>∃c,x=.bl c/\Q (.bl (!c)) H1
theorem fX{op}(h:PE X a t):PE X (.BoolOp op [a] pos) t:=λZ7 s σ H Q I hw=>BoolOp_one (h Z7 s σ H Q I hw)
theorem cR(ha:PE X a ta)(hb:PE X (.BoolOp .And (b::rest) pos) tb):PE X (.BoolOp .And (a::b::rest) pos) (Ip ta tb):=by intro Z7 s σ H Q I h;refine BoolOp_and (Õ (ha Z7 s σ H _ I h) λv s1=>?_);rintro⟨x,H1,I1,r1,q1⟩;obtain⟨c,rfl,q1⟩:=q1;cases r1;refine wpAny_truthy_bool ?_;cases c with|true=>exact hb Z7 s1 σ H1 Q I1 q1;|false=>exact⟨.bl false,H1,I1,rfl,q1⟩
theorem Jl(ha:PE X a ta):PE X (.UnaryOp .Not a pos) (Kw ta):=by intro Z7 s σ H Q I h;refine UnaryOp_ (Õ (ha Z7 s σ H _ I h) λv s1=>?_);rintro⟨x,H1,I1,r1,q1⟩;obtain⟨c,rfl,q1⟩:=q1;cases r1;exact not_of (wpAny_truthy_bool ⟨.bl (!c),H1,I1,rfl,q1⟩)
def tIf(t:TT)(ta tb:TE):TE:=λσ H Q=>t σ H λc H1=>if c=true then ta σ H1 Q else tb σ H1 Q
theorem oh(hc:PT X c tA)(ha:PE X a ta)(hb:PE X b tb):PE X (.IfExp c a b pos) (tIf tA ta tb):=by intro Z7 s σ H Q I h;refine wpAny_IfExp (Õ (hc Z7 s σ H _ I h) λd s1=>?_);rintro⟨H1,I1,q1⟩;cases d with|true=>exact ha Z7 s1 σ H1 Q I1 q1;|false=>exact hb Z7 s1 σ H1 Q I1 q1
end
def É(K:Frag)(H:Hp)(a:Addr)(xs:List V):Prop:=Rd H a (.lst xs)\/∃o Z8 n,K.lookup a=some o/\o.cls=.type "list"/\o.dict=none/\o.data=.seq Z8 n/\Z8.size<=sizeLine/\Ë xs Z8.toList
def Ê(K:Frag)(H:Hp)(a:Addr)(xs:List V):Prop:=Rd H a (.tup xs)\/∃o Z8 n,K.lookup a=some o/\o.cls=.type "tuple"/\o.data=.seq Z8 n/\Z8.size<=sizeLine/\Ë xs Z8.toList
def Ng:Value->Option V|.none=>some .non|.bool b=>some (.bl b)|.int i _=>some (.int i)|.str x _=>some (.str x)|.bytes b _=>some (.byt b)|.float b _=>some (.flt b)|.ref a=>some (.ref a)|.type n=>some (.ty n)|_=>none
theorem Ì.abs(r:Ì x u):Ng u=some x:=by cases x with|non=>cases r;rfl;|bl _=>cases r;rfl;|int _=>obtain⟨t,rfl⟩:=r;rfl;|str _=>obtain⟨t,rfl⟩:=r;rfl;|byt _=>obtain⟨t,rfl⟩:=r;rfl;|flt _=>obtain⟨t,rfl⟩:=r;rfl;|ref _=>cases r;rfl;|ty _=>cases r;rfl
theorem Ì.inj(r:Ì x u)(q:Ì y u):x=y:=ŉ (r.abs.symm.trans q.abs)
theorem Ë.inj:∀{xs ys:List V}{us:gV},Ë xs us->Ë ys us->xs=ys|_,_,_,.nil,.nil=>rfl|_,_,_,.cons r t,.cons r' t'=>by rw[r.inj r',Ë.inj t t']
section
variable{σ:St}
theorem É.of{K:Frag}(h:H a=some (.lst xs)):É K H a xs:=.inl (.inl h)
theorem Ê.of{K:Frag}(h:H a=some (.tup xs)):Ê K H a xs:=.inl (.inl h)
theorem Ä.list(I:Ä X Z7 σ H s)(h:É X.K H a xs):∃Z8:gV,Ë xs Z8/\PlainL s.heap a Z8.toArray/\xs.length<=sizeLine:=by
 rcases h with h|⟨o,Z8,n,hk,hc,hd,hs,hz,r⟩;.obtain⟨z,Z8,n,r,e⟩:=h.ok I.hok;exact⟨Z8,r,⟨_,n,e,rfl,rfl,rfl⟩,z⟩
 .refine⟨Z8.toList,r,⟨o,n,I.kIn a o hk,hc,hd,by simpa using hs⟩,?_⟩;have e:=r.length;simp only[Array.length_toList]at e;lia
theorem Ä.tuple(I:Ä X Z7 σ H s)(h:Ê X.K H a xs):∃Z8:gV,Ë xs Z8/\IsTup s.heap a Z8.toArray/\xs.length<=sizeLine:=by
 rcases h with h|⟨o,Z8,n,hk,hc,hs,hz,r⟩;.obtain⟨z,Z8,r,p⟩:=h.ok I.hok;exact⟨Z8,r,p,z⟩
 .refine⟨Z8.toList,r,⟨o,I.kIn a o hk,hc,n,by simpa using hs⟩,?_⟩;have e:=r.length;simp only[Array.length_toList]at e;lia
theorem Ä.list_inj(I:Ä X Z7 σ H s)(h:É X.K H a xs)(h':É X.K H a ys):xs=ys:=by
 obtain⟨Z8,r,⟨o,n,e,_,_,d⟩,_⟩:=I.list h;obtain⟨its',r',⟨o',n',e',_,_,d'⟩,_⟩:=I.list h';rw[e]at e';cases e';rw[d]at d';injection d' with d1 _;have:Z8=its':=by simpa using congrArg Array.toList d1
 subst this;exact r.inj r'
theorem Ä.tuple_inj(I:Ä X Z7 σ H s)(h:Ê X.K H a xs)(h':Ê X.K H a ys):xs=ys:=by
 obtain⟨Z8,r,⟨o,e,_,n,d⟩,_⟩:=I.tuple h;obtain⟨its',r',⟨o',e',_,n',d'⟩,_⟩:=I.tuple h';rw[e]at e';cases e';rw[d]at d';injection d' with d1 _;have:Z8=its':=by simpa using congrArg Array.toList d1
 subst this;exact r.inj r'
end
abbrev Cx.wish(X:Cx)(E:RC):Cx:={X with xe:=E}
abbrev Cx.nox(X:Cx):Cx:=X.wish λ_ _=>False
theorem Cx.Ok.wish{X:Cx}(ok:X.Ok)(E:RC):(X.wish E).Ok:=⟨ok.mod,ok.kind,ok.glob,ok.blt,ok.above,ok.inj,ok.has,ok.cab,ok.hd,ok.frames,ok.stk,ok.exf,ok.bs,ok.bsz,ok.noex,ok.exfs,ok.funs,ok.frf⟩
theorem Cx.Ok.unwish{X:Cx}(ok:(X.wish E).Ok):X.Ok:=⟨ok.mod,ok.kind,ok.glob,ok.blt,ok.above,ok.inj,ok.has,ok.cab,ok.hd,ok.frames,ok.stk,ok.exf,ok.bs,ok.bsz,ok.noex,ok.exfs,ok.funs,ok.frf⟩
section
variable{σ:St}
theorem Ä.wish(I:Ä X Z7 σ H s)(E:RC):Ä (X.wish E) Z7 σ H s:=⟨I.ok.wish E,I.os,I.bare,I.base,I.loc,I.cell,I.free,I.freeC,I.pin,I.hok,I.len⟩
theorem Ä.unwish(I:Ä (X.wish E) Z7 σ H s):Ä X Z7 σ H s:=⟨I.ok.unwish,I.os,I.bare,I.base,I.loc,I.cell,I.free,I.freeC,I.pin,I.hok,I.len⟩
theorem SP.unwish(h:SP (X.wish E) Z7 D f s'):SP X Z7 D f s':=by cases f with|next=>obtain⟨af,H',I,q⟩:=h;exact⟨af,H',I.unwish,q⟩;|brk=>obtain⟨af,H',I,q⟩:=h;exact⟨af,H',I.unwish,q⟩;|cont=>obtain⟨af,H',I,q⟩:=h;exact⟨af,H',I.unwish,q⟩;|ret u=>obtain⟨v,af,H',I,r,q⟩:=h;exact⟨v,af,H',I.unwish,r,q⟩
theorem Ĵ.nox{st:List Stmt}(h:Ĵ X.nox st t):Ĵ X st t:=λZ7 s σ H D I hw=>wpAny_mono (h Z7 s σ H D (I.wish _) hw) (λ_ _ q=>q.unwish) λ_ _ z=>False.elim z
end
section
variable{st:Stmt}
def Cw:TS:=λD σ H=>D.nx σ H
def Gd(t u:TS):TS:=λD σ H=>t {D with nx:=u D} σ H
theorem bj:Ĵ X [] Cw:=λ_ _ σ H _ I h=>wpAny_execs_nil ⟨σ,H,I,h⟩
theorem aC(h1:PS X st t)(h2:Ĵ X rest u):Ĵ X (st::rest) (Gd t u):=by intro Z7 s σ H D I h;refine wpAny_execs_cons (Õ (h1 Z7 s σ H {D with nx:=u D} I h) λf s1 q=>?_);cases f with|next=>obtain⟨af,H',I',q⟩:=q;exact h2 Z7 s1 af H' D I' q;|ret v=>exact q;|brk=>exact q;|cont=>exact q
theorem aF(h1:PS X st t):Ĵ X [st] t:=by intro Z7 s σ H D I h;refine wpAny_execs_cons (Õ (h1 Z7 s σ H D I h) λf s1 q=>?_);cases f with|next=>exact wpAny_execs_nil q;|ret v=>exact q;|brk=>exact q;|cont=>exact q
theorem Ä.quiet{σ:St}(I:Ä X Z7 σ H s):interactive X.env=false:=by simp[interactive,I.ok.kind]
def Ky(te:TE):TS:=λD σ H=>te σ H λ_ H1=>D.nx σ H1
theorem cA(he:PE X e te)(hs:swapsWith e none pos.line X.env=pure false:=by rfl):PS X (.Expr e pos) (Ky te):=by intro Z7 s σ H D I h;exact wpAny_Expr_any (Õ (he Z7 s σ H _ I h) λv s1=>by rintro⟨x,H1,I1,r1,q1⟩;exact⟨σ,H1,I1,q1⟩) I.quiet hs
def Jm(te:TE):TS:=λD σ H=>te σ H D.rt
theorem aR(he:PE X e te):PS X (.Return (some e) pos) (Jm te):=by intro Z7 s σ H D I h;exact wpAny_Return_some (Õ (he Z7 s σ H _ I h) λv s1=>by rintro⟨x,H1,I1,r1,q1⟩;exact⟨x,σ,H1,I1,r1,q1⟩)
def Kz(c:TT)(t u:TS):TS:=λD σ H=>c σ H λb H1=>if b=true then t D σ H1 else u D σ H1
theorem cG(hc:PT X c tc)(ha:Ĵ X a t)(hb:Ĵ X b u):PS X (.If c a b pos) (Kz tc t u):=by intro Z7 s σ H D I h;refine wpAny_If (Õ (hc Z7 s σ H _ I h) λd s1=>?_);rintro⟨H1,I1,q1⟩;cases d with|true=>exact ha Z7 s1 σ H1 D I1 q1;|false=>exact hb Z7 s1 σ H1 D I1 q1
def Cy:TS:=λ_ _ _=>False
theorem jH:PS X st Cy:=λ_ _ _ _ _ _ h=>h.elim
theorem lA:Ĵ X Ic Cy:=λ_ _ _ _ _ _ h=>h.elim
end
abbrev TG:=V->St->Hp->(St->Hp->Prop)->Prop
abbrev TGs:=List V->St->Hp->(St->Hp->Prop)->Prop
def PG(X:Cx)(target:Expr)(t:TG):Prop:=∀Z7 s(σ:St)H v u Q,Ä X Z7 σ H s->Ì v u->t v σ H Q->wpAny (model X.prog X.w) X.A (assign target X.env u) (λ_ s'=>∃af H',Ä X Z7 af H' s'/\Q af H') X.xe s
def PGs(X:Cx)(ts:ϲ)(t:TGs):Prop:=∀Z7 s(σ:St)H vs us Q,Ä X Z7 σ H s->Ë vs us->t vs σ H Q->wpAny (model X.prog X.w) X.A (assignInOrder ((assignEach ts X.env).map (·.2)) us) (λ_ s'=>∃af H',Ä X Z7 af H' s'/\Q af H') X.xe s
abbrev Ai:=V->V->V->Hp->(Hp->Prop)->Prop
def Ge(X:Cx)(t:Ai):Prop:=∀Z7 s(σ:St)H o i v ov iv u Q,Ä X Z7 σ H s->Ì o ov->Ì i iv->Ì v u->t o i v H Q->wpAny (model X.prog X.w) X.A (setItem ov iv u) (λ_ s'=>∃H',Ä X Z7 σ H' s'/\Q H') X.xe s
abbrev TIp:=V->V->Hp->VK->Prop
def PIp(X:Cx)(op:Operator)(t:TIp):Prop:=∀Z7 s(σ:St)H x y v u Q,Ä X Z7 σ H s->Ì x v->Ì y u->t x y H Q->wpAny (model X.prog X.w) X.A (inplaceOp op v u) (EP X Z7 σ Q) X.xe s
section
variable{pos:Pos}
def bQ(i:Nat):TG:=λv σ H Q=>Q (σ.set i (some v)) H
theorem bN(hN:X.N.Nodup)(hi:X.N[i]?=some x)(hx:Loc X.env.scope x)(hf:X.fn x=true\/X.env.scope.names.lookup x=some .local:=by first|exact .inl rfl|exact .inr rfl|assumption):PG X (.Name x pos) (bQ i):=by intro Z7 s σ H v u Q I r h;exact wpAny_assign_Name (fM I hN hi hx r (λs' I'=>⟨_,H,I',h⟩) hf)
def ou:TGs:=λvs σ H Q=>vs=[]/\Q σ H
def cH(t:TG)(u:TGs):TGs:=λvs σ H Q=>∃v r,vs=v::r/\t v σ H λaf H'=>u r af H' Q
theorem aW:PGs X [] ou:=by intro Z7 s σ H vs us Q I r h;obtain⟨e,h⟩:=h;exact assignInOrder_nil ⟨σ,H,I,h⟩
theorem au(h1:PG X e t)(h2:PGs X es u)(hs:(assignEach (e::es) X.env).map (·.2)=assign e X.env::(assignEach es X.env).map (·.2):=by rfl):PGs X (e::es) (cH t u):=by intro Z7 s σ H vs us Q I r h;obtain⟨v,vr,e1,h⟩:=h;subst e1;cases r with|cons r rr=>rw[hs];refine assignInOrder_cons (Õ (h1 Z7 s σ H _ _ _ I r h) λ_ s1=>?_);rintro⟨oC,H1,I1,q1⟩;exact h2 Z7 s1 oC H1 _ _ Q I1 rr q1
inductive Z0k(K:Frag)(n:Nat)(t:TGs)(v:V)(σ:St)(H:Hp)(Q:St->Hp->Prop):Prop|mk:∀a xs,(v=.ref a)->(Ê K H a xs)->(xs.length=n)->(t xs σ H Q)->Z0k K n t v σ H Q
def mQ(K:Frag)(n:Nat)(t:TGs):TG:=λv σ H Q=>Z0k K n t v σ H Q
theorem bC{k:Nat}(hc:X.calm=true)(h:PGs X es t)(hn:(assignEach es X.env).length=n:=by rfl)(eW:(assignEach es X.env).findIdx? (·.1)=none:=by rfl):PG X (.Tuple es k pos) (mQ X.K n t):=by intro Z7 s σ H v u Q I r hw;obtain⟨a,xs,e1,hq,hl,hw⟩:=hw;subst e1;cases r;obtain⟨Z8,rv,ht,hz⟩:=I.tuple hq;refine assign_Tuple_tuple (I.ok.hd hc) ht (by simp[hn,<-hl,rv.length]) eW λh' hx=>?_;have I1:Ä X Z7 σ H {s with heap:=h'}:=I.kept (t':=s.toks) λb o e=>hx b o (ę (ö e)) e;exact h Z7 _ σ H xs _ Q I1 (by simpa using rv) hw
def Nh(to ti:TE)(t:Ai):TG:=λv σ H Q=>to σ H λo H1=>ti σ H1 λi H2=>t o i v H2 λH3=>Q σ H3
theorem oA(ho:PE X o to)(hi:PE X i ti)(hs:Ge X t)(ha:∀v,assign (.Subscript o i pos) X.env v=(do
   let ov<-holding [v] (eval o X.env)let iv<-holding [v,ov] (eval i X.env)standAt pos
   holding [v,ov,iv] (setItem ov iv v)release [v,ov,iv] []):=by intro _;rfl):PG X (.Subscript o i pos) (Nh to ti t):=by intro Z7 s σ H v u Q I r h;rw[ha];refine Â (wpAny_holding (Õ (ho Z7 s σ H _ I h) λov s1=>?_));rintro⟨x,H1,I1,r1,q1⟩;refine Â (wpAny_holding (Õ (hi Z7 s1 σ H1 _ I1 q1) λiv s2=>?_));rintro⟨y,H2,I2,r2,q2⟩;refine Â (wpAny_standAt (Â (wpAny_holding (Õ (hs Z7 s2 σ H2 x y v ov iv u _ I2 r1 r2 r q2) λ_ s3=>?_))));rintro⟨H3,I3,q3⟩;exact wpAny_release ⟨σ,H3,I3,q3⟩
def wC(te:TE)(g:TG):TS:=λD σ H=>te σ H λx H1=>g x σ H1 D.nx
theorem cO(he:PE X e te)(hg:PG X tg g)(hs:swapsWithSole [tg] e pos.line X.env=pure false:=by rfl)(hw:swappedStores [tg] e X.env=pure none:=by rfl)(h1:(assignEach [tg] X.env).map (·.2)=[assign tg X.env]:=by rfl):PS X (.Assign [tg] e pos) (wC te g):=by intro Z7 s σ H D I h;refine wpAny_Assign_stores (Õ (he Z7 s σ H _ I h) λv s1=>?_) hs hw;rintro⟨x,H1,I1,r1,q1⟩;rw[h1];exact Õ (hg Z7 s1 σ H1 x v _ I1 r1 q1) λ_ s2 q=>q
theorem lB(hN:X.N.Nodup)(hi:X.N[i]?=some x)(hx:Loc X.env.scope x)(he:PE X e te)(hs:swapsWith e (some (.Name x pos')) pos.line X.env=pure false:=by rfl)(hf:X.fn x=true\/X.env.scope.names.lookup x=some .local:=by first|exact .inl rfl|exact .inr rfl|assumption):PS X (.Assign [.Name x pos'] e pos) (wC te (bQ i)):=by intro Z7 s σ H D I h;refine wpAny_Assign_Name (Õ (he Z7 s σ H _ I h) λv s1=>?_) hs;rintro⟨y,H1,I1,r1,q1⟩;exact fM I1 hN hi hx r1 (λs2 I2=>⟨_,H1,I2,q1⟩) hf
def Ni(i j:Nat)(ta:TA):TS:=λD σ H=>ta σ H λvs H1=>∃v w,vs=[v,w]/\D.nx ((σ.set i (some v)).set j (some w)) H1
theorem Cz{kt k2 pt2}(hc:X.calm=true)(hN:X.N.Nodup)(hi:X.N[i]?=some x)(hj:X.N[j]?=some y)(wc:i≠j)(hx:X.env.scope.names.lookup x=some .local)(hy:X.env.scope.names.lookup y=some .local)(ha:PA X [a,b] ta)(hw:swappedStores [.Tuple [.Name x px,.Name y py] kt pt] (.Tuple [a,b] k2 pt2) X.env=pure (some [x,y]))(hs:swapsWithSole [.Tuple [.Name x px,.Name y py] kt pt] (.Tuple [a,b] k2 pt2) pos.line X.env=pure false:=by rfl):PS X (.Assign [.Tuple [.Name x px,.Name y py] kt pt] (.Tuple [a,b] k2 pt2) pos) (Ni i j ta):=by
 intro Z7 s σ H D I h;rw[exec_Assign_arm];refine Â (wpAny_standAt ?_);rw[hs];refine Â (Ô ?_);rw[Æ Z3];refine Â (Tuple_ (Õ (ha _ Z7 s σ H _ I h) λus s1=>?_));rintro⟨vs,H1,I1,r1,q1⟩;obtain⟨v,w,e1,q1⟩:=q1;subst e1;obtain⟨u1,u2,rfl,rv,fI⟩:∃u1 u2,us=[u1,u2]/\Ì v u1/\Ì w u2:=by cases r1 with|cons p q=>cases q with|cons p' q'=>cases q';exact⟨_,_,rfl,p,p'⟩
 refine ϖ ?_ (by show 2<=sizeLine;decide);have I2:Ä X Z7 σ H1 {s1 with heap:=s1.heap.push {cls:=.type "tuple",data:=.seq [u1,u2].toArray}}:=I1.kept (t':=s1.toks) λb o e=>ÿ _ e;rw[hw];refine Â (Ô ?_);show wpAny (model X.prog X.w) X.A (do rule "assign.swapped-stores";let items<-unpackItems (.ref s1.heap.objs.size) 2 none;assignInOrder [λv=>bindName X.env y v,λv=>bindName X.env x v] items.reverse;pure Flow.next) _ _ _;refine Â (wpAny_rule (Â (unpackItems_tuple (items:=#[u1,u2]) (I.ok.hd hc) (IsTup.new s1.heap _) λh' cm=>?_)));have I3:=I2.kept (h':=h') (t':=s1.toks) λb o e=>cm b o (ę (ö e)) e;show wpAny _ _ (assignInOrder [λv=>bindName X.env y v,λv=>bindName X.env x v] [u2,u1]>>=λ_=>pure Flow.next) _ _ _;refine Â (assignInOrder_cons (wpAny_bindName (fM I3 hN hj (.inl hy) fI (λs2 I4=>?_) (.inr hy))));refine assignInOrder_cons (wpAny_bindName (fM I4 hN hi (.inl hx) rv (λs3 I5=>assignInOrder_nil (Ô ?_)) (.inr hx)));rw[List.set_comm _ _ (Ne.symm wc)]at I5;exact⟨_,H1,I5,q1⟩
inductive Z0a(i:Nat)(te:TE)(ti:TIp)(D:Ň)(σ:St)(H:Hp):Prop|mk:∀x,(σ[i]?=some (some x))->(te σ H λy H1=>ti x y H1 λz H2=>D.nx (σ.set i (some z)) H2)->Z0a i te ti D σ H
def Nj(i:Nat)(te:TE)(ti:TIp):TS:=λD σ H=>Z0a i te ti D σ H
theorem oE(hN:X.N.Nodup)(hi:X.N[i]?=some x)(hx:Loc X.env.scope x)(he:PE X e te)(ho:PIp X op ti)(hf:X.fn x=true\/X.env.scope.names.lookup x=some .local:=by first|exact .inl rfl|exact .inr rfl|assumption):PS X (.AugAssign (.Name x pos') op e pos) (Nj i te ti):=by
 intro Z7 s σ H D I h;obtain⟨v,e1,h⟩:=h;obtain⟨m,hn,hl⟩:=I.loc;have RE:Vis X.env.scope x:=by rcases hx with k|k;exact .inl k;exact .inr (.inl k)
 obtain⟨u,r,l⟩:=hl i x v hi e1 RE;refine wpAny_AugAssign_Name ?_;have go:wpAny (model X.prog X.w) X.A (eval e X.env) (λw s₂=>wpAny (model X.prog X.w) X.A (inplaceOp op u w) (λr s₃=>wpAny (model X.prog X.w) X.A (storeName X.env x r) (λ_=>SP X Z7 D .next) X.xe s₃) X.xe s₂) X.xe s:=by refine Õ (he Z7 s σ H _ I h) λw s1=>?_;rintro⟨y,H1,I1,r1,q1⟩;refine Õ (ho Z7 s1 σ H1 v y u w _ I1 r r1 q1) λz s2=>?_;rintro⟨zv,H2,I2,r2,q2⟩;exact fM I2 hN hi hx r2 (λs3 I3=>⟨_,H2,I3,q2⟩) hf
 rcases l with⟨hk,hm⟩|⟨hk,c,hc,hcell⟩;.exact wpAny_loadName_local I.ok.kind hk hn hm go
 .rcases hk with hk|hk;.exact wpAny_loadName_cell I.ok.kind hk hc hcell go
  .rcases hx with k|k;.have:X.env.scope.names.lookup x=some .free:=hk;rw[k]at this;cases this
   .have:X.env.scope.names.lookup x=some .free:=hk;rw[k]at this;cases this
def KC(to ti te:TE)(pV:V->V->Hp->VK->Prop)(E6:TIp)(p9:Ai):TS:=λD σ H=>to σ H λo H1=>ti σ H1 λi H2=>pV o i H2 λx H3=>te σ H3 λy H4=>E6 x y H4 λz H5=>p9 o i z H5 λH6=>D.nx σ H6
def KD(X:Cx)(t:V->V->Hp->VK->Prop):Prop:=∀Z7 s(σ:St)H o i ov iv Q,Ä X Z7 σ H s->Ì o ov->Ì i iv->t o i H Q->wpAny (model X.prog X.w) X.A (getItem ov iv) (EP X Z7 σ Q) X.xe s
theorem rR(ho:PE X o to)(hi:PE X i ti)(hg:KD X pV)(he:PE X e te)(hp:PIp X op E6)(hs:Ge X p9)(ha:∀ov iv new,augStore i ov iv new=(do holding [new,ov,iv] (setItem ov iv new);release [new,ov,iv] [];pure .next):=by intros;rfl):PS X (.AugAssign (.Subscript o i we) op e pos) (KC to ti te pV E6 p9):=by intro Z7 s σ H D I h;refine wpAny_AugAssign_SubscriptAny (Õ (ho Z7 s σ H _ I h) λov s1=>?_) ha;rintro⟨x1,H1,I1,r1,q1⟩;refine Õ (hi Z7 s1 σ H1 _ I1 q1) λiv s2=>?_;rintro⟨x2,H2,I2,r2,q2⟩;refine Õ (hg Z7 s2 σ H2 x1 x2 ov iv _ I2 r1 r2 q2) λold s3=>?_;rintro⟨x3,H3,I3,r3,q3⟩;refine Õ (he Z7 s3 σ H3 _ I3 q3) λv s4=>?_;rintro⟨x4,H4,I4,r4,q4⟩;refine Õ (hp Z7 s4 σ H4 x3 x4 old v _ I4 r3 r4 q4) λnew s5=>?_;rintro⟨x5,H5,I5,r5,q5⟩;exact Õ (hs Z7 s5 σ H5 x1 x2 x5 ov iv new _ I5 r1 r2 r5 q5) λ_ s6=>by rintro⟨H6,I6,q6⟩;exact⟨σ,H6,I6,q6⟩
def ipI(f:Int->Int->Int):TIp:=λx y H Q=>∃i j,x=.int i/\y=.int j/\Q (.int (f i j)) H
theorem CG:PIp X .Add (ipI λi j=>i+j):=by intro Z7 s σ H x y v u Q I r1 r2 h;obtain⟨i,j,e1,e2,q⟩:=h;subst e1;subst e2;obtain⟨t,rfl⟩:=r1;obtain⟨t',rfl⟩:=r2;exact iadd_int ⟨.int _,H,I.tok _,⟨_,rfl⟩,q⟩
theorem CJ:PIp X .Sub (ipI λi j=>i-j):=by intro Z7 s σ H x y v u Q I r1 r2 h;obtain⟨i,j,e1,e2,q⟩:=h;subst e1;subst e2;obtain⟨t,rfl⟩:=r1;obtain⟨t',rfl⟩:=r2;exact isub_int ⟨.int _,H,I.tok _,⟨_,rfl⟩,q⟩
end
section
def Jo(c:TT)(tb:TS):TS:=λD σ H=>∃W:Nat->St->Hp->Prop,(∃m,W m σ H)/\∀m σ H,W m σ H->c σ H λb H1=>if b=true then∃N,(∀af H',N af H'->∃m',m'<m/\W m' af H')/\tb {D with nx:=N,ct:=N,bk:=D.nx} σ H1 else D.nx σ H1
theorem uA(hp:PassesOwn (model X.prog X.w) X.A X.env X.xe)(hc:PT X c tc)(hb:Ĵ X body tb):PS X (.While c body [] pos) (Jo tc tb):=by intro Z7 s σ H D I h;obtain⟨W,⟨m0,w0⟩,turn⟩:=h;refine wpAny_While (codeAny_whileLoop (λn s'=>∃af H',Ä X Z7 af H' s'/\W n af H') ?_ m0 ⟨σ,H,I,w0⟩);rintro n s1⟨oC,H1,I1,w1⟩;refine wpAny_passesOwn hp (Õ (hc Z7 s1 oC H1 _ I1 (turn n oC H1 w1)) λb s2=>?_);rintro⟨H2,I2,q2⟩;cases b with
 |true=>obtain⟨N,hN,q2⟩:=q2;rw[È rfl];refine wpAny_passesOwn hp (Õ (hb Z7 s2 oC H2 _ I2 q2) λf s3 q3=>?_);cases f with|next=>obtain⟨fN,H3,I3,n3⟩:=q3;obtain⟨m',hm,w3⟩:=hN fN H3 n3;exact⟨m',hm,fN,H3,I3,w3⟩;|cont=>obtain⟨fN,H3,I3,n3⟩:=q3;obtain⟨m',hm,w3⟩:=hN fN H3 n3;exact⟨m',hm,fN,H3,I3,w3⟩;|brk=>exact q3;|ret v=>exact q3
 |false=>rw[Æ Ō];exact wpAny_execs_nil ⟨oC,H2,I2,q2⟩
end
structure It where
 go:Nat->Hp->Prop
 yld:Nat->Hp->V->Hp->Prop
 stop:Nat->Hp->Prop
def lC(X:Cx)(Z7:Yq)(H:Hp)(b:Addr):Prop:=H b=none/\b≠X.env.locals/\b∉X.fs/\(b∈X.ex\/X.s₀.heap.objs.size<=b)/\(∀x c,X.env.cells.lookup x=some c->c≠b)/\∀p∈X.pn++Z7,p.1≠b
theorem Ä.fpOk{σ:St}{b:Addr}(I:Ä X Z7 σ H s)(hb:s.heap.objs.size<=b)(hn:H' b=none):lC X Z7 H' b:=by
 refine⟨hn,ϧ (ĵ I.lt hb),I.nofs hb,.inr (ĺ I.sz hb),λx c e z=>?_,λp hp z=>?_⟩;.obtain⟨v,q⟩:=I.cell x c e;exact absurd (ĵ q.lt (by rw[z];exact hb)) (Θ _)
 .exact absurd (ĵ (ö (I.pin p hp).1) (by rw[z];exact hb)) (Θ _)
structure Ł(P:Program)(w:World)(K:Frag)(tg:Expr)(J:It)(fp:þ)(it:Addr)(tn:Nat->Heap->Prop):Prop where
 mem:it∈fp
 obj:∀i h,tn i h->∀b∈fp,∃o,h.get? b=some o/\∀v,o.data≠.cell v
 keep:∀i h h',tn i h->(∀b∈fp,∀o,h.get? b=some o->h'.get? b=some o)->tn i h'
 item:∀X,X.prog=P->X.w=w->X.K=K->X.calm=true->∀i Z7 s(σ:St)H E,Ä X Z7 σ H s->(∀b∈fp,lC X Z7 H b)->tn i s.heap->J.go i H->wpAny (model P w) X.A (pyNext (.ref it)) (λr s1=>∃u,r=some u/\wpAny (model P w) X.A (letOwnedTupleGo tg (.ref it) u) (λ_ s2=>∃x H',Ä X Z7 σ H' s2/\Ì x u/\J.yld i H x H'/\tn (i+1) s2.heap/\∀b∈fp,H' b=none) E s1) E s
 done:∀X,X.prog=P->X.w=w->X.K=K->X.calm=true->∀i Z7 s(σ:St)(H:Hp)(E:RC),Ä X Z7 σ H s->(∀b∈fp,lC X Z7 H b)->tn i s.heap->J.stop i H->wpAny (model P w) X.A (pyNext (.ref it)) (λr s1=>r=none/\Ä X Z7 σ H s1) E s
 self:∀(A:Around)(i:Nat)(s:Shared)(Q:RC)(E:RC),tn i s.heap->Q (.ref it) s->wpAny (model P w) A (pyIter (.ref it)) Q E s
abbrev TI:=St->Hp->(It->Hp->Prop)->Prop
def PIE(X:Cx)(Z7:Yq)(σ:St)(tg:Expr)(R:It->Hp->Prop)(E7:Value)(s2:Shared):Prop:=∃(it:Addr)(fp:þ)(tn:Nat->Heap->Prop)(J:It)(H':Hp),E7=.ref it/\Ä X Z7 σ H' s2/\Ł X.prog X.w X.K tg J fp it tn/\tn 0 s2.heap/\(∀b∈fp,lC X Z7 H' b)/\R J H'
def PI(X:Cx)(tg iter:Expr)(wi:TI):Prop:=∀Z7 s(σ:St)H R,Ä X Z7 σ H s->wi σ H R->wpAny (model X.prog X.w) X.A (eval iter X.env) (λv s1=>wpAny (model X.prog X.w) X.A (pyIter v) (PIE X Z7 σ tg R) X.xe s1) X.xe s
theorem yh(ho:s.heap.get? it=some o)(hc:o.cls=.type n)(hd:o.data=.fields vs)(hn:["enumerate","zip","dict_itemiterator","dict_reverseitemiterator","odict_iterator","itertools.zip_longest","itertools.pairwise"].contains n=false)(hQ:Q () s):wpAny M A (letOwnedTupleGo tg (.ref it) u) Q E s:=by cases tg<;>first|exact Ô hQ;|(cases u<;>first|exact Ô hQ;|(refine Â (wpAny_load ho ?_);rw[hc,hd];show wpAny M A (if(["enumerate","zip","dict_itemiterator","dict_reverseitemiterator","odict_iterator","itertools.zip_longest","itertools.pairwise"].contains n&&vs[0]?==some (rawInt _))=true then _ else _) Q E s;rw[Æ (by intro h;rw[hn]at h;cases h)];exact Ô hQ))
def Itl(K:Frag)(a:Addr):It:=⟨λi H=>∃xs x,É K H a xs/\xs[i]?=some x,λi H x H'=>H'=H/\∀xs,É K H a xs->xs[i]?=some x,λi H=>∃xs,É K H a xs/\xs.length<=i⟩
def Itt(K:Frag)(a:Addr):It:=⟨λi H=>∃xs x,Ê K H a xs/\xs[i]?=some x,λi H x H'=>H'=H/\∀xs,Ê K H a xs->xs[i]?=some x,λi H=>∃xs,Ê K H a xs/\xs.length<=i⟩
def Itr(lo:Int)(n:Nat):It:=⟨λi _=>i<n,λi H x H'=>H'=H/\x=.int (lo+i),λi _=>n<=i⟩
theorem Aj{K:Frag}(a it:Addr):Ł P w K tg (Itl K a) [it] it (λi h=>h.IsListIter it a i)where
 mem:=by simp
 obj:=λi h st b hb=>by
  have e:b=it:=by simpa using hb
  subst e;obtain⟨o,e,c,d⟩:=st;exact⟨o,e,λv z=>by rw[d]at z;cases z⟩
 keep:=λi h h' st k=>st.at λo e=>k it Z2 o e;item:=by intro X hP hw hK hc i Z7 s σ H E I hf st hg;subst hP hw hK;obtain⟨xs,x,hq,hx⟩:=hg;obtain⟨Z8,rv,p,hz⟩:=I.list hq;obtain⟨u,hu,ru⟩:=rv.get hx;obtain⟨f0,f1,f2,f3,f4,f5⟩:=hf it Z2;refine wpAny_pyNext_list_item st p.isList (x:=u) (by simpa using hu) λh' Z9 sb=>?_;have I1:Ä X Z7 σ H {s with heap:=h'}:=I.turned (t':=s.toks) (λb o hb e=>(sb.2 b hb).trans e) f0 f1 f3 f4 f5;obtain⟨o,e,c,d⟩:=id Z9;exact⟨u,rfl,yh (s:={s with heap:=h'}) e c d Z3 ⟨x,H,I1,ru,⟨rfl,λys hy=>by rw[I.list_inj hy hq];exact hx⟩,Z9,λb hb=>(hf b hb).1⟩⟩
 done:=by intro X hP hw hK hc i Z7 s σ H E I hf st hg;subst hP hw hK;obtain⟨xs,hq,hx⟩:=hg;obtain⟨Z8,rv,p,hz⟩:=I.list hq;obtain⟨f0,f1,f2,f3,f4,f5⟩:=hf it Z2;have hl:=rv.length;exact wpAny_pyNext_list_end (I.ok.hd hc) st p.isList (by simp;lia) λh' eb=>⟨rfl,I.turned (t':=s.toks) (λb o hb e=>eb b o hb e) f0 f1 f3 f4 f5⟩
 self:=λ_ _ _ _ _ st h=>wpAny_pyIter_listiter st h
theorem wF{K:Frag}(a it:Addr):Ł P w K tg (Itt K a) [it] it (λi h=>h.IsTupleIter it a i)where
 mem:=by simp
 obj:=λi h st b hb=>by
  have e:b=it:=by simpa using hb
  subst e;obtain⟨o,e,c,d⟩:=st;exact⟨o,e,λv z=>by rw[d]at z;cases z⟩
 keep:=λi h h' st k=>st.at λo e=>k it Z2 o e;item:=by intro X hP hw hK hc i Z7 s σ H E I hf st hg;subst hP hw hK;obtain⟨xs,x,hq,hx⟩:=hg;obtain⟨Z8,rv,p,hz⟩:=I.tuple hq;obtain⟨u,hu,ru⟩:=rv.get hx;obtain⟨f0,f1,f2,f3,f4,f5⟩:=hf it Z2;refine wpAny_pyNext_tuple_item st (show s.heap.IsTuple a Z8.toArray from p) (x:=u) (by simpa using hu) λh' Z9 sb=>?_;have I1:Ä X Z7 σ H {s with heap:=h'}:=I.turned (t':=s.toks) (λb o hb e=>(sb.2 b hb).trans e) f0 f1 f3 f4 f5;obtain⟨o,e,c,d⟩:=id Z9;exact⟨u,rfl,yh (s:={s with heap:=h'}) e c d Z3 ⟨x,H,I1,ru,⟨rfl,λys hy=>by rw[I.tuple_inj hy hq];exact hx⟩,Z9,λb hb=>(hf b hb).1⟩⟩
 done:=by intro X hP hw hK hc i Z7 s σ H E I hf st hg;subst hP hw hK;obtain⟨xs,hq,hx⟩:=hg;obtain⟨Z8,rv,p,hz⟩:=I.tuple hq;obtain⟨f0,f1,f2,f3,f4,f5⟩:=hf it Z2;have hl:=rv.length;exact wpAny_pyNext_tuple_end (I.ok.hd hc) st (show s.heap.IsTuple a Z8.toArray from p) (by simp;lia) λh' eb=>⟨rfl,I.turned (t':=s.toks) (λb o hb e=>eb b o hb e) f0 f1 f3 f4 f5⟩
 self:=λ_ _ _ _ _ st h=>wpAny_pyIter_tupleiter st h
theorem wG{K:Frag}(it:Addr)(lo:Int)(n:Nat):Ł P w K tg (Itr lo n) [it] it (λi h=>IsRangeIter h it (lo+(i:Nat)*1) ((n:Int)-(i:Nat)) 1)where
 mem:=by simp
 obj:=λi h st b hb=>by
  have e:b=it:=by simpa using hb
  subst e;exact⟨_,st,λv z=>by have z':Data.fields _=Data.cell v:=z;cases z'⟩
 keep:=λi h h' st k=>k it Z2 _ st;item:=by intro X hP hw hK hc i Z7 s σ H E I hf st hg;subst hP hw hK;obtain⟨f0,f1,f2,f3,f4,f5⟩:=hf it Z2;have W:=Walks.range (prog:=X.prog) (w:=X.w) (I.ok.hd hc) it lo 1 n;refine W.item i s _ _ hg st λv h' tk hv Z9 kk=>?_;obtain⟨t,rfl⟩:=hv;have I1:Ä X Z7 σ H {s with heap:=h',toks:=tk}:=I.turned (λb o hb e=>kk b o (by simpa using hb) e) f0 f1 f3 f4 f5;refine⟨_,rfl,yh (s:={s with heap:=h',toks:=tk}) (n:="range_iterator") Z9 rfl rfl Z3 ⟨.int (lo+i),H,I1,⟨t,?_⟩,⟨rfl,rfl⟩,Z9,λb hb=>(hf b hb).1⟩⟩;rw[Int.mul_one]
 done:=by intro X hP hw hK hc i Z7 s σ H E I hf st hg;subst hP hw hK;obtain⟨f0,f1,f2,f3,f4,f5⟩:=hf it Z2;exact wpAny_pyNext_range_end (I.ok.hd hc) st (by have:n<=i:=hg;lia) λh' eb=>⟨rfl,I.turned (t':=s.toks) (λb o hb e=>eb b o hb e) f0 f1 f3 f4 f5⟩
 self:=λ_ _ _ _ _ st h=>wpAny_pyIter_rangeiter st h
section
variable{tg:Expr}
def KH(K:Frag)(tl:TE):TI:=λσ H R=>tl σ H λx H1=>∃a,x=.ref a/\(∃xs,É K H1 a xs)/\R (Itl K a) H1
def KJ(K:Frag)(tl:TE):TI:=λσ H R=>tl σ H λx H1=>∃a,x=.ref a/\(∃xs,Ê K H1 a xs)/\R (Itt K a) H1
theorem di(hl:PE X l tl):PI X tg l (KH X.K tl):=by
 intro Z7 s σ H R I h;refine Õ (hl Z7 s σ H _ I h) λv s1=>?_;rintro⟨x,H1,I1,r1,q1⟩;obtain⟨a,e,⟨xs,hq⟩,q⟩:=q1;subst e;cases r1;obtain⟨Z8,rv,p,hz⟩:=I1.list hq;refine wpAny_pyIter_list p.isList ?_;refine⟨s1.heap.objs.size,[s1.heap.objs.size],_,_,H1,rfl,I1.kept (t':=s1.toks) λb o e=>ÿ _ e,Aj a _,⟨_,Ħ _ rfl,rfl,rfl⟩,λb hb=>?_,q⟩;have e:b=s1.heap.objs.size:=by simpa using hb
 subst e;exact I1.fpOk (Ø _) (I1.hok.fresh (Ø _))
theorem dX(hl:PE X l tl):PI X tg l (KJ X.K tl):=by
 intro Z7 s σ H R I h;refine Õ (hl Z7 s σ H _ I h) λv s1=>?_;rintro⟨x,H1,I1,r1,q1⟩;obtain⟨a,e,⟨xs,hq⟩,q⟩:=q1;subst e;cases r1;obtain⟨Z8,rv,p,hz⟩:=I1.tuple hq;refine wpAny_pyIter_tuple (p) ?_;refine⟨s1.heap.objs.size,[s1.heap.objs.size],_,_,H1,rfl,I1.kept (t':=s1.toks) λb o e=>ÿ _ e,wF a _,⟨_,Ħ _ rfl,rfl,rfl⟩,λb hb=>?_,q⟩;have e:b=s1.heap.objs.size:=by simpa using hb
 subst e;exact I1.fpOk (Ø _) (I1.hok.fresh (Ø _))
theorem uB{σ:St}{lo hi:Int}(I:Ä X Z7 σ H s)(h1:-(2^62)<=lo)(h2:lo<2^62)(h3:-(2^62)<=hi)(h4:hi<2^62)(q:R (Itr lo (hi-lo).toNat) H):wpAny (model X.prog X.w) X.A (pyIter (.ref s.heap.objs.size)) (PIE X Z7 σ tg R) E {s with heap:=s.heap.push {cls:=.type "range",data:=.fields #[.int lo t,.int hi u,.int 1 v]},toks:=tk}:=by
 refine wpAny_pyIter_range (IsRange.new ..) (small_one h1 h2 h3 h4) ?_;have I1:Ä X Z7 σ H {s with heap:=s.heap.push {cls:=.type "range",data:=.fields #[.int lo t,.int hi u,.int 1 v]},toks:=tk}:=I.kept λb o e=>ÿ _ e;refine⟨(s.heap.push {cls:=.type "range",data:=.fields #[.int lo t,.int hi u,.int 1 v]}).objs.size,[(s.heap.push {cls:=.type "range",data:=.fields #[.int lo t,.int hi u,.int 1 v]}).objs.size],_,_,H,rfl,I1.kept (t':=tk) λb o e=>ÿ _ e,wG _ lo (hi-lo).toNat,?_,λb hb=>?_,q⟩
 .have e1:lo+((0:Nat):Int)*1=lo:=by simp
  have e2:(((hi-lo).toNat:Nat):Int)-((0:Nat):Int)=Builtin.Range.rangeSize lo hi 1:=by rw[rangeSize_one];split<;>lia
  rw[e1,e2];exact Ħ _ rfl
 .have e:b=(s.heap.push {cls:=.type "range",data:=.fields #[.int lo t,.int hi u,.int 1 v]}).objs.size:=by simpa using hb
  subst e;exact I1.fpOk (Ø _) (I1.hok.fresh (Ø _))
def KN(ta:TA):TI:=λσ H R=>ta σ H λvs H1=>∃j,vs=[.int j]/\-(2^62)<=j/\j<2^62/\R (Itr 0 j.toNat) H1
def KQ(ta:TA):TI:=λσ H R=>ta σ H λvs H1=>∃i j,vs=[.int i,.int j]/\(-(2^62)<=i/\i<2^62/\-(2^62)<=j/\j<2^62)/\R (Itr i (j-i).toNat) H1
theorem d7(hg:Gl X "range")(hm:X.mg "range"=none)(ha:PA X [a] ta)(hs:starEach [a] X.env=[(false,eval a X.env)]:=by rfl):PI X tg (.Call (.Name "range" p) [a] [] pos) (KN ta):=by intro Z7 s σ H R I h;refine Call_ (jt I hg hm boot_range (PyProof.Rows.callWith_type1 (Õ (ha pos Z7 s σ H _ I h) λus s1=>?_) hs rfl));rintro⟨vs,H1,I1,r1,q1⟩;obtain⟨j,e,q1,q2,q⟩:=q1;subst e;cases r1 with|cons r rr=>cases rr;obtain⟨t,rfl⟩:=r;exact call_range_1 (uB I1 Z1 Z1 q1 q2 (by simpa using q))
theorem jd{p pos:Pos}(hg:Gl X "range")(hm:X.mg "range"=none)(ha:PA X [a,b] ta)(hs:starEach [a,b] X.env=[(false,eval a X.env),(false,eval b X.env)]:=by rfl)(lT:starEach [b] X.env=[(false,eval b X.env)]:=by rfl):PI X tg (.Call (.Name "range" p) [a,b] [] pos) (KQ ta):=by intro Z7 s σ H R I h;refine Call_ (jt I hg hm boot_range (PyProof.Rows.callWith_type1 (Õ (ha pos Z7 s σ H _ I h) λus s1=>?_) (by rw[hs,lT]) (by rw[lT];rfl)));rintro⟨vs,H1,I1,r1,q1⟩;obtain⟨i,j,e,⟨q1,q2,q3,q4⟩,q⟩:=q1;subst e;cases r1 with|cons r rr=>cases rr with|cons r' rr=>cases rr;obtain⟨t,rfl⟩:=r;obtain⟨t',rfl⟩:=r';exact call_range_2 (uB I1 q1 q2 q3 q4 q)
def Nk(wi:TI)(g:TG)(tb:TS):TS:=λD σ H=>wi σ H λJ H1=>∃W:Nat->Nat->St->Hp->Prop,(∃m,W 0 m σ H1)/\∀i m σ H,W i m σ H->(J.stop i H/\D.nx σ H)\/(J.go i H/\∃N,(∀af H',N af H'->∃m',m'<m/\W (i+1) m' af H')/\∀x H',J.yld i H x H'->g x σ H' λbo H2=>tb {D with nx:=N,ct:=N,bk:=D.nx} bo H2)
def dI(fp:þ)(h:Heap):Yq:=fp.filterMap λb=>(h.get? b).map λo=>(b,o)
theorem ik(hb:b∈fp)(e:h.get? b=some o):(b,o)∈dI fp h:=List.mem_filterMap.mpr ⟨b,hb,by rw[e];rfl⟩
theorem lD(hp:p∈dI fp h):p.1∈fp/\h.get? p.1=some p.2:=by obtain⟨b,hb,e⟩:=List.mem_filterMap.mp hp;cases q:h.get? b with|none=>rw[q]at e;cases e;|some o=>rw[q]at e;have e':(b,o)=p:=ŉ e;subst e';exact⟨hb,q⟩
theorem Ä.pinned{σ:St}(I:Ä X Z7 σ H s)(hf:∀b∈fp,lC X Z7 H b)(ho:∀b∈fp,∃o,s.heap.get? b=some o/\∀v,o.data≠.cell v):Ä X (Z7++dI fp s.heap) σ H s:=I.pins_of λp hp=>(ē.mp hp).elim (λz=>I.pin p (ň _ z)) λz=>by obtain⟨hb,e⟩:=lD z;obtain⟨f0,f1,f2,_⟩:=hf p.1 hb;obtain⟨o,e',d⟩:=ho p.1 hb;rw[e]at e';cases e';exact⟨e,f0,f1,f2,d⟩
theorem Ä.unpinned{σ:St}(I:Ä X (Z7++pl) σ H s):Ä X Z7 σ H s:=I.pins_of λp hp=>I.pin p (ň _ (Zav _ hp))
theorem bZ(hp:PassesOwn (model X.prog X.w) X.A X.env X.xe)(hc:X.calm=true)(hi:PI X tg iter wi)(hg:PG X tg g)(hb:Ĵ X body tb)(hs:∀x,foldedSetIterable iter X.env x=pure x:=by intro _;rfl):PS X (.For tg iter body [] pos) (Nk wi g tb):=by
 intro Z7 s σ H D I h;refine wpAny_For (Õ (hi Z7 s σ H _ I h) λv s1 h1=>Õ h1 λE7 s2 h2=>?_) hs;obtain⟨it,fp,tn,J,H2,e,I2,T,st2,f2,W,⟨m0,w0⟩,turn⟩:=h2;subst e;have wm:∀{H':Hp},(∀b∈fp,H' b=none)->∀b∈fp,lC X Z7 H' b:=λhn b hb=>⟨hn b hb,(f2 b hb).2⟩;refine codeAny_forLoop_any (λn s'=>∃i af H',Ä X Z7 af H' s'/\tn i s'.heap/\(∀b∈fp,H' b=none)/\W i n af H') ?_ m0 ⟨0,σ,H2,I2,st2,λb hb=>(f2 b hb).1,w0⟩;rintro n s3⟨i,fN,H3,I3,ja,BN,w3⟩;rcases turn i n fN H3 w3 with⟨stop,qn⟩|⟨go,N,hN,step⟩;.refine wpAny_passesOwn hp (Õ (T.done X rfl rfl rfl hc i Z7 s3 fN H3 X.xe I3 (wm BN) ja stop) λr s4=>?_);rintro⟨hr,I4⟩;subst hr;exact wpAny_execs_nil ⟨fN,H3,I4,qn⟩
 .refine wpAny_passesOwn hp (Õ (T.item X rfl rfl rfl hc i Z7 s3 fN H3 X.xe I3 (wm BN) ja go) λr s4=>?_);rintro⟨u,hr,h4⟩;subst hr;refine wpAny_passesOwn hp (Õ h4 λ_ s5=>?_);rintro⟨x,H5,I5,r5,y5,wo,Iq⟩;have Iy:=I5.pinned (wm Iq) (T.obj _ _ wo);refine wpAny_passesOwn hp (Õ (hg _ s5 fN H5 x u _ Iy r5 (step x H5 y5)) λ_ s6=>?_);rintro⟨AF,H6,I6,q6⟩;refine wpAny_passesOwn hp (Õ (hb _ s6 AF H6 _ I6 q6) λf s7 q7=>?_);have again:∀{l8:St}{H7:Hp},Ä X (Z7++dI fp s5.heap) l8 H7 s7->N l8 H7->∃m,m<n/\∃i af H',Ä X Z7 af H' s7/\tn i s7.heap/\(∀b∈fp,H' b=none)/\W i m af H':=λ{l8 H7}I7 n7=>by obtain⟨m',hm,w7⟩:=hN l8 H7 n7;refine⟨m',hm,i+1,l8,H7,I7.unpinned,T.keep _ _ _ wo λb hb o e=>(I7.pin (b,o) (ň _ (ň _ (ik hb e)))).1,λb hb=>?_,w7⟩;obtain⟨o,e,d⟩:=T.obj _ _ wo b hb;exact(I7.pin (b,o) (ň _ (ň _ (ik hb e)))).2.1
  cases f with|next=>obtain⟨l8,H7,I7,n7⟩:=q7;exact again I7 n7;|cont=>obtain⟨l8,H7,I7,n7⟩:=q7;exact again I7 n7;|brk=>obtain⟨l8,H7,I7,q7⟩:=q7;exact⟨l8,H7,I7.unpinned,q7⟩;|ret v=>obtain⟨x7,l8,H7,I7,r7,q7⟩:=q7;exact⟨x7,l8,H7,I7.unpinned,r7,q7⟩
end
theorem gU{K:Frag}{g:TG}{tb:TS}{D:Ň}{σ:St}{H:Hp}(Pv:Nat->St->Hp->Prop)(h0:Pv 0 σ H)(hl:∀i σ H,i<=xs.length->Pv i σ H->É K H a xs)(hs:∀i x σ H,xs[i]?=some x->Pv i σ H->g x σ H λbo H2=>tb {D with nx:=Pv (i+1),ct:=Pv (i+1),bk:=D.nx} bo H2)(hd:∀σ H,Pv xs.length σ H->D.nx σ H):∃W:Nat->Nat->St->Hp->Prop,(∃m,W 0 m σ H)/\∀i m σ H,W i m σ H->((Itl K a).stop i H/\D.nx σ H)\/((Itl K a).go i H/\∃N,(∀af H',N af H'->∃m',m'<m/\W (i+1) m' af H')/\∀x H',(Itl K a).yld i H x H'->g x σ H' λbo H2=>tb {D with nx:=N,ct:=N,bk:=D.nx} bo H2):=by
 refine⟨λi m σ H=>m=xs.length-i/\i<=xs.length/\Pv i σ H,⟨xs.length,by simp,Ě _,h0⟩,?_⟩;rintro i m σ H⟨rfl,hi,p⟩;have q:=hl i σ H hi p;by_cases aE:i<xs.length;.refine .inr ⟨⟨xs,xs[i],q,by simp[aE]⟩,Pv (i+1),λaf H' p'=>⟨xs.length-(i+1),Z1,rfl,aE,p'⟩,λx H' y=>?_⟩;obtain⟨e,y⟩:=y;subst e;exact hs i x σ _ (y xs q) p
 .have e:i=xs.length:=Z1;subst e;exact .inl ⟨⟨xs,q,Ø _⟩,hd σ H p⟩
theorem Gf{K:Frag}{g:TG}{tb:TS}{D:Ň}{σ:St}{H:Hp}(Pv:Nat->St->Hp->Prop)(h0:Pv 0 σ H)(hl:∀i σ H,i<=xs.length->Pv i σ H->Ê K H a xs)(hs:∀i x σ H,xs[i]?=some x->Pv i σ H->g x σ H λbo H2=>tb {D with nx:=Pv (i+1),ct:=Pv (i+1),bk:=D.nx} bo H2)(hd:∀σ H,Pv xs.length σ H->D.nx σ H):∃W:Nat->Nat->St->Hp->Prop,(∃m,W 0 m σ H)/\∀i m σ H,W i m σ H->((Itt K a).stop i H/\D.nx σ H)\/((Itt K a).go i H/\∃N,(∀af H',N af H'->∃m',m'<m/\W (i+1) m' af H')/\∀x H',(Itt K a).yld i H x H'->g x σ H' λbo H2=>tb {D with nx:=N,ct:=N,bk:=D.nx} bo H2):=by
 refine⟨λi m σ H=>m=xs.length-i/\i<=xs.length/\Pv i σ H,⟨xs.length,by simp,Ě _,h0⟩,?_⟩;rintro i m σ H⟨rfl,hi,p⟩;have q:=hl i σ H hi p;by_cases aE:i<xs.length;.refine .inr ⟨⟨xs,xs[i],q,by simp[aE]⟩,Pv (i+1),λaf H' p'=>⟨xs.length-(i+1),Z1,rfl,aE,p'⟩,λx H' y=>?_⟩;obtain⟨e,y⟩:=y;subst e;exact hs i x σ _ (y xs q) p
 .have e:i=xs.length:=Z1;subst e;exact .inl ⟨⟨xs,q,Ø _⟩,hd σ H p⟩
theorem cU{lo:Int}{g:TG}{tb:TS}{D:Ň}(Pv:Nat->St->Hp->Prop)(h0:Pv 0 σ H)(hs:∀i σ H,i<n->Pv i σ H->g (.int (lo+i)) σ H λbo H2=>tb {D with nx:=Pv (i+1),ct:=Pv (i+1),bk:=D.nx} bo H2)(hd:∀σ H,Pv n σ H->D.nx σ H):∃W:Nat->Nat->St->Hp->Prop,(∃m,W 0 m σ H)/\∀i m σ H,W i m σ H->((Itr lo n).stop i H/\D.nx σ H)\/((Itr lo n).go i H/\∃N,(∀af H',N af H'->∃m',m'<m/\W (i+1) m' af H')/\∀x H',(Itr lo n).yld i H x H'->g x σ H' λbo H2=>tb {D with nx:=N,ct:=N,bk:=D.nx} bo H2):=by
 refine⟨λi m σ H=>m=n-i/\i<=n/\Pv i σ H,⟨n,by simp,Ě _,h0⟩,?_⟩;rintro i m σ H⟨rfl,hi,p⟩;by_cases aE:i<n;.refine .inr ⟨aE,Pv (i+1),λaf H' p'=>⟨n-(i+1),Z1,rfl,aE,p'⟩,λx H' y=>?_⟩;obtain⟨e,y⟩:=y;subst e y;exact hs i σ _ aE p
 .have e:i=n:=Z1;subst e;exact .inl ⟨Ø _,hd σ H p⟩
abbrev R2:=V->V->Hp->VK->Prop
def Ē(X:Cx)(f:Value->Value->Sem Value)(r:R2):Prop:=∀Z7 s(σ:St)H x y v u Q,Ä X Z7 σ H s->Ì x v->Ì y u->r x y H Q->wpAny (model X.prog X.w) X.A (f v u) (EP X Z7 σ Q) X.xe s
def UnR(X:Cx)(f:Value->Sem Value)(r:V->Hp->VK->Prop):Prop:=∀Z7 s(σ:St)H x v Q,Ä X Z7 σ H s->Ì x v->r x H Q->wpAny (model X.prog X.w) X.A (f v) (EP X Z7 σ Q) X.xe s
def dF(X:Cx)(f:Value)(r:List V->Hp->VK->Prop):Prop:=∀Z7 s(σ:St)H xs us Q,Ä X Z7 σ H s->Ë xs us->r xs H Q->wpAny (model X.prog X.w) X.A (call f us) (EP X Z7 σ Q) X.xe s
def Nm(X:Cx)(r:V->Hp->(Bool->Hp->Prop)->Prop):Prop:=∀Z7 s(σ:St)H x v Q,Ä X Z7 σ H s->Ì x v->r x H Q->wpAny (model X.prog X.w) X.A (truthy v) (TP X Z7 σ Q) X.xe s
def ώ(r:R2)(ta tb:TE):TE:=λσ H Q=>ta σ H λx H1=>tb σ H1 λy H2=>r x y H2 Q
def tUn(r:V->Hp->VK->Prop)(ta:TE):TE:=λσ H Q=>ta σ H λx H1=>r x H1 Q
inductive RII(C:Int->Int->Prop)(g:Int->Int->V)(x:V)(y:V)(H:Hp)(Q:VK):Prop|mk:∀i j,(x=.int i)->(y=.int j)->(C i j)->(Q (g i j) H)->RII C g x y H Q
def rI(C:Int->Int->Prop)(g:Int->Int->V):R2:=λx y H Q=>RII C g x y H Q
inductive RI0I(g:Int->Int->V)(x:V)(y:V)(H:Hp)(Q:VK):Prop|mk:∀i j,(x=.int i)->(y=.int j)->(Q (g i j) H)->RI0I g x y H Q
def Ψ(g:Int->Int->V):R2:=λx y H Q=>RI0I g x y H Q
inductive RUI(g:Int->V)(x:V)(H:Hp)(Q:VK):Prop|mk:∀i,(x=.int i)->(Q (g i) H)->RUI g x H Q
def rU(g:Int->V):V->Hp->VK->Prop:=λx H Q=>RUI g x H Q
section
theorem Jp(ha:PE X a ta)(hb:PE X b tb){σ:St}{R:V->V->Hp->Prop}(I:Ä X Z7 σ H s)(h:ta σ H λx H1=>tb σ H1 λy H2=>R x y H2){Q:RC}{f:Value->Value->Sem Value}(hf:∀v u s2 x y H2,Ä X Z7 σ H2 s2->Ì x v->Ì y u->R x y H2->wpAny (model X.prog X.w) X.A (f v u) Q X.xe s2):wpAny (model X.prog X.w) X.A (eval a X.env) (λv s₁=>wpAny (model X.prog X.w) X.A (eval b X.env) (λu s₂=>wpAny (model X.prog X.w) X.A (f v u) Q X.xe s₂) X.xe s₁) X.xe s:=by refine Õ (ha Z7 s σ H _ I h) λv s1=>?_;rintro⟨x,H1,I1,r1,q1⟩;refine Õ (hb Z7 s1 σ H1 _ I1 q1) λu s2=>?_;rintro⟨y,H2,I2,r2,q2⟩;exact hf v u s2 x y H2 I2 r1 r2 q2
theorem aQ(ho:Ē X (binaryOp op) r)(ha:PE X a ta)(hb:PE X b tb):PE X (.BinOp a op b pos) (ώ r ta tb):=by intro Z7 s σ H Q I h;exact wpAny_BinOp (Jp ha hb I h λv u s2 x y H2 I2 rx ry q=>ho Z7 s2 σ H2 x y v u Q I2 rx ry q)
theorem yj(ho:UnR X (unaryOp op) r)(ha:PE X a ta):PE X (.UnaryOp op a pos) (tUn r ta):=by intro Z7 s σ H Q I h;exact UnaryOp_ (Õ (ha Z7 s σ H _ I h) λv s1=>by rintro⟨x,H1,I1,r1,q1⟩;exact ho Z7 s1 σ H1 x v Q I1 r1 q1)
theorem opI{g:Int->Int->Int}(rule:∀i j t u s Q E,C i j->Q (.int (g i j) s.toks) {s with toks:=s.toks+1}->wpAny (model X.prog X.w) X.A (f (.int i t) (.int j u)) Q E s):Ē X f (rI C λi j=>.int (g i j)):=by intro Z7 s σ H x y v u Q I rx ry h;obtain⟨i,j,rfl,rfl,hc,q⟩:=h;obtain⟨t,rfl⟩:=rx;obtain⟨t',rfl⟩:=ry;exact rule i j t t' s _ _ hc ⟨.int (g i j),H,I.tok _,⟨_,rfl⟩,q⟩
theorem KR{g:Int->Int->Int}(rule:∀i j t u s Q E,Q (.int (g i j) s.toks) {s with toks:=s.toks+1}->wpAny (model X.prog X.w) X.A (f (.int i t) (.int j u)) Q E s):Ē X f (Ψ λi j=>.int (g i j)):=by intro Z7 s σ H x y v u Q I rx ry h;obtain⟨i,j,rfl,rfl,q⟩:=h;obtain⟨t,rfl⟩:=rx;obtain⟨t',rfl⟩:=ry;exact rule i j t t' s _ _ ⟨.int (g i j),H,I.tok _,⟨_,rfl⟩,q⟩
theorem Gg{g:Int->Int->Bool}(rule:∀i j t u s Q E,Q (.bool (g i j)) s->wpAny (model X.prog X.w) X.A (f (.int i t) (.int j u)) Q E s):Ē X f (Ψ λi j=>.bl (g i j)):=by intro Z7 s σ H x y v u Q I rx ry h;obtain⟨i,j,rfl,rfl,q⟩:=h;obtain⟨t,rfl⟩:=rx;obtain⟨t',rfl⟩:=ry;exact rule i j t t' s _ _ ⟨.bl (g i j),H,I,rfl,q⟩
def KY(i j:Int):Prop:=0<j/\j<1073741824
def Np(i j:Int):Prop:=0<=j/\j<=1000000/\i.natAbs<2^64
def Z06(i j:Int):Prop:=(-(2^64)<i/\i<2^64)\/(-(2^64)<j/\j<2^64)
theorem Z06.ok(h:Z06 i j):IntMulOk i j:=by
 rcases h with⟨h1,h2⟩|⟨h1,h2⟩;.exact .of_left (intBits_le_64 h1 h2)
 .exact .of_right (intBits_le_64 h1 h2)
theorem bL:Ē X (binaryOp .Add) (Ψ λi j=>.int (i+j)):=KR λ_ _ _ _ _ _ _ q=>add_int q
theorem du:Ē X (binaryOp .Sub) (Ψ λi j=>.int (i-j)):=KR λ_ _ _ _ _ _ _ q=>sub_int q
theorem fY:Ē X (binaryOp .Mult) (rI Z06 λi j=>.int (i*j)):=opI λ_ _ _ _ _ _ _ hc q=>mul_int q hc.ok
theorem je:Ē X (binaryOp .FloorDiv) (rI KY λi j=>.int (i/j)):=opI λi j _ _ _ _ _ hc q=>by have h1:(0:Int)<j:=hc.1;have h2:j<1073741824:=hc.2;exact floordiv_int Z1 (by rw[Int.fdiv_eq_ediv_of_nonneg i Z1];exact q) (.inl (PyProof.noPylong_small Z1))
theorem gQ:Ē X (binaryOp .Mod) (rI (λ_ j=>0<j) λi j=>.int (i%j)):=opI λi j _ _ _ _ _ hc q=>by exact mod_int' Z1 (by rw[Int.fmod_eq_emod_of_nonneg i Z1];exact q)
theorem wH:Ē X (binaryOp .Pow) (rI Np λi j=>.int (i^j.toNat)):=opI λ_ _ _ _ _ _ _ hc q=>pow_int_small hc.1 hc.2.1 hc.2.2 q
theorem unI{g:Int->Int}(rule:∀i t s Q E,Q (.int (g i) s.toks) {s with toks:=s.toks+1}->wpAny (model X.prog X.w) X.A (f (.int i t)) Q E s):UnR X f (rU λi=>.int (g i)):=by intro Z7 s σ H x v Q I rx h;obtain⟨i,rfl,q⟩:=h;obtain⟨t,rfl⟩:=rx;exact rule i t s _ _ ⟨.int (g i),H,I.tok _,⟨_,rfl⟩,q⟩
theorem rT:UnR X (unaryOp .USub) (rU λi=>.int (-i)):=unI λ_ _ _ _ _ q=>neg_int q
end
def KZ:V->V->Bool|.non,.non=>true|.non,.int _=>true|.int _,.non=>true|.non,.bl _=>true|.bl _,.non=>true|.non,.str _=>true|.str _,.non=>true|.int _,.int _=>true|.bl _,.bl _=>true|.str _,.str _=>true|.byt _,.byt _=>true|.int _,.str _=>true|.str _,.int _=>true|.bl _,.str _=>true|.str _,.bl _=>true|_,_=>false
def rEq:R2:=λx y H Q=>KZ x y=true/\Q (.bl (decide (x=y))) H
def rNe:R2:=λx y H Q=>KZ x y=true/\Q (.bl (!decide (x=y))) H
theorem ym:decide (V.int i=V.int j)=(i==j):=by rw[Zbi];simp
theorem CK:decide (V.bl i=V.bl j)=(i==j):=by rw[Zbi];simp
theorem yo:decide (V.str i=V.str j)=(i==j):=by rw[Zbi];simp
theorem yp:decide (V.byt i=V.byt j)=(i.toList==j.toList):=by rw[Zbi];cases i;cases j;simp
section
theorem bD{σ:St}(I:Ä X Z7 σ H s)(q:Q (.bl k) H)(e:k=k'):EP X Z7 σ Q (.bool k') s:=by subst e;exact⟨.bl k,H,I,rfl,q⟩
theorem mz:Ē X (compareOp .Eq) rEq:=by intro Z7 s σ H x y v u Q I rx ry h;obtain⟨hs,q⟩:=h;cases x with
 |non=>cases rx;cases y with|non=>cases ry;exact PySem.EqNone.eq_none_none (bD I q Z2);|bl j=>cases ry;exact PySem.EqNone.eq_none_bool (bD I q Z2);|int j=>obtain⟨t',rfl⟩:=ry;exact PySem.EqNone.eq_none_int (bD I q Z2);|str j=>obtain⟨t',rfl⟩:=ry;exact PySem.EqNone.eq_none_str (bD I q Z2);|_=>exact absurd (show false=true from hs) Ō
 |bl i=>cases rx;cases y with|non=>cases ry;exact PySem.EqNone.eq_bool_none (bD I q Z2);|bl j=>cases ry;exact eq_bool (bD I q CK);|str j=>obtain⟨t',rfl⟩:=ry;exact PySem.EqMixed.eq_bool_str (bD I q Z2);|_=>exact absurd (show false=true from hs) Ō
 |int i=>obtain⟨t,rfl⟩:=rx;cases y with|non=>cases ry;exact PySem.EqNone.eq_int_none (bD I q Z2);|int j=>obtain⟨t',rfl⟩:=ry;exact eq_int (bD I q ym);|str j=>obtain⟨t',rfl⟩:=ry;exact PySem.EqMixed.eq_int_str (bD I q Z2);|_=>exact absurd (show false=true from hs) Ō
 |str i=>obtain⟨t,rfl⟩:=rx;cases y with|non=>cases ry;exact PySem.EqNone.eq_str_none (bD I q Z2);|bl j=>cases ry;exact PySem.EqMixed.eq_str_bool (bD I q Z2);|int j=>obtain⟨t',rfl⟩:=ry;exact PySem.EqMixed.eq_str_int (bD I q Z2);|str j=>obtain⟨t',rfl⟩:=ry;exact eq_str (bD I q yo);|_=>exact absurd (show false=true from hs) Ō
 |byt i=>obtain⟨t,rfl⟩:=rx;cases y with|byt j=>obtain⟨t',rfl⟩:=ry;exact PySem.W.eq_bytes (bD I q yp);|_=>exact absurd (show false=true from hs) Ō
 |_=>cases y<;>exact absurd (show false=true from hs) Ō
theorem CN:Ē X (compareOp .NotEq) rNe:=by intro Z7 s σ H x y v u Q I rx ry h;obtain⟨hs,q⟩:=h;cases x with
 |non=>cases rx;cases y with|non=>cases ry;exact PySem.EqNone.ne_none_none (bD I q Z2);|bl j=>cases ry;exact PySem.EqNone.ne_none_bool (bD I q Z2);|int j=>obtain⟨t',rfl⟩:=ry;exact PySem.EqNone.ne_none_int (bD I q Z2);|str j=>obtain⟨t',rfl⟩:=ry;exact PySem.EqNone.ne_none_str (bD I q Z2);|_=>exact absurd (show false=true from hs) Ō
 |bl i=>cases rx;cases y with|non=>cases ry;exact PySem.EqNone.ne_bool_none (bD I q Z2);|bl j=>cases ry;exact ne_bool (bD I q (congrArg not CK));|str j=>obtain⟨t',rfl⟩:=ry;exact PySem.EqMixed.ne_bool_str (bD I q Z2);|_=>exact absurd (show false=true from hs) Ō
 |int i=>obtain⟨t,rfl⟩:=rx;cases y with|non=>cases ry;exact PySem.EqNone.ne_int_none (bD I q Z2);|int j=>obtain⟨t',rfl⟩:=ry;exact ne_int (bD I q (congrArg not ym));|str j=>obtain⟨t',rfl⟩:=ry;exact PySem.EqMixed.ne_int_str (bD I q Z2);|_=>exact absurd (show false=true from hs) Ō
 |str i=>obtain⟨t,rfl⟩:=rx;cases y with|non=>cases ry;exact PySem.EqNone.ne_str_none (bD I q Z2);|bl j=>cases ry;exact PySem.EqMixed.ne_str_bool (bD I q Z2);|int j=>obtain⟨t',rfl⟩:=ry;exact PySem.EqMixed.ne_str_int (bD I q Z2);|str j=>obtain⟨t',rfl⟩:=ry;exact ne_str (bD I q (congrArg not yo));|_=>exact absurd (show false=true from hs) Ō
 |byt i=>obtain⟨t,rfl⟩:=rx;cases y with|byt j=>obtain⟨t',rfl⟩:=ry;exact PySem.W.ne_bytes (bD I q (congrArg not yp));|_=>exact absurd (show false=true from hs) Ō
 |_=>cases y<;>exact absurd (show false=true from hs) Ō
theorem jJ:Ē X (compareOp .Lt) (Ψ λi j=>.bl (decide (i<j))):=Gg λ_ _ _ _ _ _ _ q=>lt_int q
theorem bT:Ē X (compareOp .LtE) (Ψ λi j=>.bl (decide (i<=j))):=Gg λ_ _ _ _ _ _ _ q=>le_int q
theorem mD:Ē X (compareOp .Gt) (Ψ λi j=>.bl (decide (j<i))):=Gg λ_ _ _ _ _ _ _ q=>gt_int q
theorem uC:Ē X (compareOp .GtE) (Ψ λi j=>.bl (decide (j<=i))):=Gg λ_ _ _ _ _ _ _ q=>ge_int q
theorem rW:Ē X (compareOp .Is) (λx y H Q=>y=.non/\Q (.bl (decide (x=.non))) H):=by intro Z7 s σ H x y v u Q I rx ry h;obtain⟨rfl,q⟩:=h;cases ry;refine is_none_gen (bD I q ?_);cases x<;>first|(cases rx;rfl);|(obtain⟨t,rfl⟩:=rx;rfl)
theorem Gh:Ē X (compareOp .IsNot) (λx y H Q=>y=.non/\Q (.bl (!decide (x=.non))) H):=by intro Z7 s σ H x y v u Q I rx ry h;obtain⟨rfl,q⟩:=h;cases ry;refine isnot_none_gen (bD I q ?_);cases x<;>first|(cases rx;rfl);|(obtain⟨t,rfl⟩:=rx;rfl)
theorem bh(b:Expr)(h:op≠.In:=by decide)(h2:op≠.NotIn:=by decide):behindInMarks op b=false:=by
 have e1:(op==CmpOp.In)=false:=by cases op<;>first|rfl|exact absurd rfl h
 have e2:(op==CmpOp.NotIn)=false:=by cases op<;>first|rfl|exact absurd rfl h2
 cases b<;>simp[behindInMarks,e1,e2]
theorem jf(ho:Ē X (compareOp op) r)(ha:PE X a ta)(hb:PE X b tb)(hm:behindInMarks op b=false):PE X (.Compare a [op] [b] pos) (ώ r ta tb):=by intro Z7 s σ H Q I h;exact wpAny_Compare1 (Jp ha hb I h λv u s2 x y H2 I2 rx ry q=>ho Z7 s2 σ H2 x y v u Q I2 rx ry q) hm
def CP(t:TE):TT:=λσ H Q=>t σ H λx H'=>∃k,x=.bl k/\Q k H'
theorem bf(ho:Ē X (compareOp op) r)(ha:PE X a ta)(hb:PE X b tb)(hm:behindInMarks op b=false):PT X (.Compare a [op] [b] pos) (CP (ώ r ta tb)):=by intro Z7 s σ H Q I h;refine wpAny_isTrue_Compare1 (Õ (ha Z7 s σ H _ I h) λv s1⟨x,H1,I1,r1,q1⟩=>Õ (hb Z7 s1 σ H1 _ I1 q1) λu s2⟨y,H2,I2,r2,q2⟩=>Õ (ho Z7 s2 σ H2 x y v u _ I2 r1 r2 q2) λc s3⟨z,H3,I3,r3,k,e,q3⟩=>?_) hm;subst e;cases r3;exact wpAny_truthy_bool ⟨H3,I3,q3⟩
def wI(r r':R2)(ta tb tc:TE):TE:=λσ H Q=>ta σ H λx H1=>tb σ H1 λy H2=>r x y H2 λz H3=>∃k,z=.bl k/\(if k=true then tc σ H3 λw' H4=>r' y w' H4 Q else Q (.bl false) H3)
theorem dw(ho:Ē X (compareOp op) r)(ku:Ē X (compareOp wq) r')(ha:PE X a ta)(hb:PE X b tb)(hc:PE X c tc)(hm:lastMarks [op,wq] [b,c]=false:=by with_unfolding_all rfl):PE X (.Compare a [op,wq] [b,c] pos) (wI r r' ta tb tc):=by intro Z7 s σ H Q I h;refine Compare_chain (Õ (ha Z7 s σ H _ I h) λv s1⟨x,H1,I1,r1,q1⟩=>chain_link (Õ (hb Z7 s1 σ H1 _ I1 q1) λu s2⟨y,H2,I2,r2,q2⟩=>Õ (ho Z7 s2 σ H2 x y v u _ I2 r1 r2 q2) λd s3⟨z,H3,I3,r3,k,e,q3⟩=>?_)) hm;subst e;cases r3;refine wpAny_truthy_bool ?_;cases k with|false=>exact ite_ff ⟨.bl false,H3,I3,rfl,q3⟩;|true=>exact ite_tt (chain_last (Õ (hc Z7 s3 σ H3 _ I3 q3) λw' s4=>by rintro⟨z',H4,I4,r4,q4⟩;exact ku Z7 s4 σ H4 y z' u w' Q I4 r2 r4 q4))
theorem gw(ho:Ē X (compareOp op) r)(ku:Ē X (compareOp wq) r')(ha:PE X a ta)(hb:PE X b tb)(hc:PE X c tc)(hm:lastMarks [op,wq] [b,c]=false:=by with_unfolding_all rfl):PT X (.Compare a [op,wq] [b,c] pos) (CP (wI r r' ta tb tc)):=by intro Z7 s σ H Q I h;refine isTrue_chain (Õ (ha Z7 s σ H _ I h) λv s1⟨x,H1,I1,r1,q1⟩=>test_link (Õ (hb Z7 s1 σ H1 _ I1 q1) λu s2⟨y,H2,I2,r2,q2⟩=>Õ (ho Z7 s2 σ H2 x y v u _ I2 r1 r2 q2) λd s3⟨z,H3,I3,r3,k,e,q3⟩=>?_)) hm;subst e;cases r3;refine wpAny_truthy_bool ?_;cases k with|false=>obtain⟨k',e',q'⟩:=q3;cases e';exact ite_ff ⟨H3,I3,q'⟩;|true=>refine ite_tt (test_last (Õ (hc Z7 s3 σ H3 _ I3 q3) λw' s4⟨z',H4,I4,r4,q4⟩=>Õ (ku Z7 s4 σ H4 y z' u w' _ I4 r2 r4 q4) λd' s5=>?_));rintro⟨z2,H5,I5,r5,k2,e2,q5⟩;subst e2;cases r5;exact wpAny_truthy_bool ⟨H5,I5,q5⟩
def La(K:Frag)(x:V)(H:Hp)(k:Bool):Prop:=match x with|.non=>k=false|.bl b=>k=b|.int i=>k=(i !=0)|.str y=>y.length<=sizeLine/\k=((y.length:Int)!=0)|.byt y=>y.size<=sizeLine/\k=((y.size:Int)!=0)|.ref p=>(∃xs,É K H p xs/\k=!xs.isEmpty)\/(∃xs,Ê K H p xs/\k=!xs.isEmpty)\/∃kvs,H p=some (.dK kvs)/\k=!kvs.isEmpty|_=>False
theorem wJ{vs:List (κ×Value)}(r:KV kvs vs):(!vs.isEmpty)=!kvs.isEmpty:=by cases r<;>rfl
theorem oF(r:Ë xs Z8):(!Z8.toArray.isEmpty)=!xs.isEmpty:=by cases r<;>simp
theorem lE:(sizeLine:Nat)<2^63:=by rw[sizeLine_eq];decide
theorem Jq:Nm X (λx H Q=>∃k,La X.K x H k/\Q k H):=by intro Z7 s σ H x v Q I rx h;obtain⟨k,e,q⟩:=h;have hl:=lE;have hs:sizeLine=16777216:=sizeLine_eq;cases x with|non=>cases rx;have e':k=false:=e;subst e';exact truthy_none ⟨H,I,q⟩;|bl b=>cases rx;have e':k=b:=e;subst e';exact wpAny_truthy_bool ⟨H,I,q⟩;|int i=>obtain⟨t,rfl⟩:=rx;have e':k=(i !=0):=e;subst e';exact PySem.P.truthy_int ⟨H,I,q⟩;|str y=>obtain⟨t,rfl⟩:=rx;obtain⟨hy,e'⟩:y.length<=sizeLine/\k=((y.length:Int)!=0):=e;subst e';exact PySem.P.truthy_str Z1 ⟨H,I.tok _,q⟩;|byt y=>obtain⟨t,rfl⟩:=rx;obtain⟨hy,e'⟩:y.size<=sizeLine/\k=((y.size:Int)!=0):=e;subst e';exact PySem.W.truthy_bytes Z1 ⟨H,I.tok _,q⟩;|ref p=>
  cases rx;have e':(∃xs,É X.K H p xs/\k=!xs.isEmpty)\/(∃xs,Ê X.K H p xs/\k=!xs.isEmpty)\/∃kvs,H p=some (.dK kvs)/\k=!kvs.isEmpty:=e;rcases e' with⟨xs,hx,e'⟩|⟨xs,hx,e'⟩|⟨kvs,hx,e'⟩;.subst e';obtain⟨Z8,r,pl,hz⟩:=I.list hx;have hlen:=r.length;exact wpAny_truthy_list pl.isList (by simp only[List.size_toArray];lia) ⟨H,I.tok _,by rw[oF r];exact q⟩
  .subst e';obtain⟨Z8,r,pl,hz⟩:=I.tuple hx;have hlen:=r.length;exact truthy_tuple pl (by simp only[List.size_toArray];lia) ⟨H,I.tok _,by rw[oF r];exact q⟩
  .subst e';obtain⟨hz,hS,vs,r,m⟩:kvs.length<=sizeLine/\(p==sysModules)=false/\∃vs,KV kvs vs/\s.heap.DictOf (bx X.prog X.w) p vs:=I.hok p _ hx;have hlen:kvs.length=vs.length:=Paired.length r;exact wpAny_truthy_dict hS m Z1 ⟨H,I.tok _,by rw[wJ r];exact q⟩;|_=>exact(show False from e).elim
theorem CQ(ha:PE X a ta)(he:∀whole,isTrue a X.env whole=(do let v<-whole;standAt a.pos;holding [v] (truthy v))):PT X a (λσ H Q=>ta σ H λx H'=>∃k,La X.K x H' k/\Q k H'):=by intro Z7 s σ H Q I h;exact isTrue_plain (Õ (ha Z7 s σ H _ I h) λv s1=>by rintro⟨x,H1,I1,r1,q1⟩;exact Jq Z7 s1 σ H1 x v Q I1 r1 q1) (he _)
theorem ò(r:Ë [x] us):∃u,us=[u]/\Ì x u:=by cases r with|cons r1 r2=>cases r2;exact⟨_,rfl,r1⟩
theorem Œ(r:Ë [x,y] us):∃u w',us=[u,w']/\Ì x u/\Ì y w':=by cases r with|cons r1 r2=>cases r2 with|cons r3 r4=>cases r4;exact⟨_,_,rfl,r1,r3⟩
theorem qC(hc:X.calm=true):dF X (.builtin "max") (λxs H Q=>∃i j,xs=[.int i,.int j]/\Q (.int (if j>i then j else i)) H):=by
 intro Z7 s σ H xs us Q I r h;obtain⟨i,j,rfl,q⟩:=h;obtain⟨u,w',rfl,⟨t,rfl⟩,⟨t',rfl⟩⟩:=Œ r;refine max_two_ints (I.ok.hd hc) λh' tk k=>⟨_,H,I.kept k,?_,q⟩;by_cases hj:j>i;.rw[È hj,È hj];exact⟨_,rfl⟩
 .rw[Æ hj,Æ hj];exact⟨_,rfl⟩
theorem gW(hc:X.calm=true):dF X (.builtin "min") (λxs H Q=>∃i j,xs=[.int i,.int j]/\Q (.int (if j<i then j else i)) H):=by
 intro Z7 s σ H xs us Q I r h;obtain⟨i,j,rfl,q⟩:=h;obtain⟨u,w',rfl,⟨t,rfl⟩,⟨t',rfl⟩⟩:=Œ r;refine min_two_ints (I.ok.hd hc) λh' tk k=>⟨_,H,I.kept k,?_,q⟩;by_cases hj:j<i;.rw[È hj,È hj];exact⟨_,rfl⟩
 .rw[Æ hj,Æ hj];exact⟨_,rfl⟩
theorem Ak:dF X (.type "int") (λxs H Q=>(∃i,xs=[.int i]/\Q (.int i) H)\/∃k,xs=[.bl k]/\Q (.int (if k then 1 else 0)) H):=by
 intro Z7 s σ H xs us Q I r h;rcases h with⟨i,rfl,q⟩|⟨k,rfl,q⟩;.obtain⟨u,rfl,t,rfl⟩:=ò r;exact call_int_int ⟨.int i,H,I,⟨_,rfl⟩,q⟩
 .obtain⟨u,rfl,r1⟩:=ò r;cases r1;exact call_int_bool ⟨.int (if k then 1 else 0),H,I.tok _,⟨_,rfl⟩,q⟩
end
structure Z0n(h:Heap)(x dx C:Addr)(mA:RG):Prop where
 obj:h.get? x=some (PySem.W.instObj C dx)ns:h.Ns1 dx mA
 ne:dx≠x
theorem Al{h:Heap}(n:h.Ns1 dx mA):∃od,h.get? dx=some od/\∀name,PySem.W.lookIn name od=some (mA name):=by
 obtain⟨o,es,ep,ho,hd,hk,_,hm⟩:=n;refine⟨o,ho,λname=>?_⟩;have e:=hm name;unfold nsFind findBy at e;rw[<-Array.find?_toList]at e;unfold PySem.W.lookIn;rw[hd];dsimp only;split;.rename_i y q;rw[q]at e;exact congrArg some e
 .rename_i q;rw[q]at e;have a:es.toList.any (·.refKey)=false:=by rw[List.any_eq_false];intro y hy;obtain⟨z,t,IA⟩:=hk y (Array.mem_toList_iff.mp hy);simp[DictEntry.refKey,IA]
  have a':¬es.toList.any (·.refKey)=true:=by rw[a];exact Ō
  rw[Æ a'];exact congrArg some e
theorem Z0n.look(I:Z0n h x dx C mA):∃od,PySem.W.InstAt h x (PySem.W.instObj C dx) C (some od)/\∀name,PySem.W.lookIn name od=some (mA name):=let⟨od,ho,hl⟩:=Al I.ns;⟨od,⟨I.obj,rfl,rfl,ho⟩,hl⟩
section
end
theorem Ĭ.some_of(r:Ĭ (some v) o):∃u,o=some u/\Ì v u:=by cases o with|none=>exact(r).elim;|some u=>exact⟨u,rfl,r⟩
section
theorem Gi(hok:û P w H h)(e:H a=some (.ins C dx fs)):∃mA,Z0n h a dx C mA/\(∀f,Ĭ (fs.lookup f) (mA f))/\PySem.Within mA (fs.map (·.1))/\fs.length<=1000/\H dx=some (.own a):=by obtain⟨d,z,ne,ob,mA,n,r,q⟩:=(hok a _ e);exact⟨mA,⟨ob,n,ne⟩,r,q,z,d⟩
end
structure Cls(K:Frag)(C:Addr):Prop where
 pg:PySem.W.plainGet K C Str.empty=true
 hd:PySem.W.hasDictIn K C=true
 po:PySem.W.plainOver K C=true
 sa:PySem.W.findIn K (.ref C) "__setattr__"=some (some (.builtin "object.__setattr__"))
theorem Cls.get{K:Frag}(c:Cls K C)(f:Str):PySem.W.plainGet K C f=true:=c.pg
section
end
section
end
section
variable{σ:St}
inductive Ĥ(K:Frag)(H:Hp):V->Value->Prop where|non:Ĥ K H .non (.type "NoneType")|bl(x:Bool):Ĥ K H (.bl x) (.type "bool")|int(i:Int):Ĥ K H (.int i) (.type "int")|str(x:Str):Ĥ K H (.str x) (.type "str")|flt(x:UInt64):Ĥ K H (.flt x) (.type "float")|lst{a:Addr}{xs:List V}(e:H a=some (.lst xs)):Ĥ K H (.ref a) (.type "list")|frz{a:Addr}{o:Obj}{xs:List V}(e:H a=some (.frz o (.lst xs))):Ĥ K H (.ref a) (.type "list")|tup{a:Addr}{xs:List V}(e:H a=some (.tup xs)):Ĥ K H (.ref a) (.type "tuple")|dK{a:Addr}{kvs:List (Key×V)}(e:H a=some (.dK kvs)):Ĥ K H (.ref a) (.type "dict")|dT{a:Addr}{kvs:List (List Key×V)}(e:H a=some (.dT kvs)):Ĥ K H (.ref a) (.type "dict")|ins{a C dx:Addr}{fs:List (Str×V)}(e:H a=some (.ins C dx fs))(cl:Cls K C)(ha:PySem.W.findIn K (.ref C) "__class__"=some (some (.builtin "object.__class__")))(hn:PySem.W.specialIn K (.builtin "object.__class__") "__get__"=some (some (.builtin "getset_descriptor.__get__")))(BO:PySem.W.takesIn K (.builtin "object.__class__")=some true)(hm:PySem.W.mroIn K C (.type "object")=some true):Ĥ K H (.ref a) (.ref C)
theorem Am(I:Ä X Z7 σ H s)(rx:Ì x u)(ty:Ĥ X.K H x t)(e:PySem.W.kitOne X.K t c=some b)(h:∀tk,Q (.bool b) {s with toks:=tk}):wpAny (model X.prog X.w) A (call (.builtin "isinstance") [u,c]) Q E s:=by cases ty with|non=>cases(show u=Value.none from rx);exact PySem.W.kia_one PySem.W.kitx_none I.kIn True.intro e (λz=>nomatch z) h;|bl y=>cases(show u=Value.bool y from rx);exact PySem.W.kia_one PySem.W.kitx_bool I.kIn True.intro e (λz=>nomatch z) h;|int i=>obtain⟨t,q⟩:=(show∃t,u=Value.int i t from rx);cases q;exact PySem.W.kia_one PySem.W.kitx_int I.kIn True.intro e (λz=>nomatch z) h;|str y=>obtain⟨t,q⟩:=(show∃t,u=Value.str y t from rx);cases q;exact PySem.W.kia_one PySem.W.kitx_str I.kIn True.intro e (λz=>nomatch z) h;|flt y=>obtain⟨t,q⟩:=(show∃t,u=Value.float y t from rx);cases q;exact PySem.W.kia_one PySem.W.kitx_float I.kIn True.intro e (λz=>nomatch z) h;|@lst a xs ea=>cases(show u=Value.ref a from rx);obtain⟨_,_,n,_,h1⟩:=(show Ñ X.prog X.w H s.heap a (.lst xs)from I.hok a _ ea);exact PySem.W.kia_one PySem.W.kitx_list I.kIn ⟨_,h1,rfl⟩ e (λz=>nomatch z) h;|@frz a ob xs ea=>cases(show u=Value.ref a from rx);obtain⟨_,_,_,n,_,h1⟩:=(show Ñ X.prog X.w H s.heap a (.frz ob (.lst xs))from I.hok a _ ea);exact PySem.W.kia_one PySem.W.kitx_list I.kIn ⟨_,h1,rfl⟩ e (λz=>nomatch z) h;|@tup a xs ea=>cases(show u=Value.ref a from rx);obtain⟨_,_,_,p⟩:=(show Ñ X.prog X.w H s.heap a (.tup xs)from I.hok a _ ea);obtain⟨o,h1,h2,_⟩:=p;exact PySem.W.kia_one PySem.W.kitx_tuple I.kIn ⟨o,h1,h2⟩ e (λz=>nomatch z) h;|@dK a kvs ea=>cases(show u=Value.ref a from rx);obtain⟨_,_,vs,_,p⟩:=(show Ñ X.prog X.w H s.heap a (.dK kvs)from I.hok a _ ea);obtain⟨o,es,ep,h1,h2,_⟩:=p;exact PySem.W.kia_one PySem.W.kitx_dict I.kIn ⟨o,h1,h2.1⟩ e (λz=>nomatch z) h;|@dT a kvs ea=>cases(show u=Value.ref a from rx);obtain⟨_,_,xs,_,o,es,ep,h1,h2,_⟩:=(show Ñ X.prog X.w H s.heap a (.dT kvs)from I.hok a _ ea);exact PySem.W.kia_one PySem.W.kitx_dict I.kIn ⟨o,h1,h2.1⟩ e (λz=>nomatch z) h;|@ins a C dx fs ea cl ha hn BO hm=>cases(show u=Value.ref a from rx);obtain⟨mA,O,_⟩:=Gi I.hok ea;obtain⟨od,J,_⟩:=O.look;exact PySem.W.kia_one (PySem.W.kitx_own (cl.get _) cl.hd ha hn BO hm) I.kIn J e (λz=>nomatch z) h
end
structure ä(k:Nat)(A:Around):Prop where
 hd:A.handled=none
 dp:A.depth+3*k+5<recursionLimit
 un:A.units+16*k+200<cLine
 gd:A.guards=some []
theorem ä.mono(r:ä k A)(h:j<=k):ä j A:=⟨r.hd,by have:=r.dp;lia,by have:=r.un;lia,r.gd⟩
theorem ä.deeper(r:ä (k+1) A)(env:Env):ä k (A.deeper env):=⟨r.hd,by have:=r.dp;show A.depth+1+3*k+5<_;lia,by have:=r.un;show A.units+3+16*k+200<_;lia,r.gd⟩
theorem ä.depth(r:ä k A):A.depth<recursionLimit:=by have:=r.dp;lia
theorem ä.units(r:ä k A):A.units+64<cLine:=by have:=r.un;lia
def wK:TA:=λ_ H Q=>Q [] H
def iH(ta:TE)(tr:TA):TA:=λσ H Q=>ta σ H λx H1=>tr σ H1 λxs H2=>Q (x::xs) H2
section
theorem ao:PA X [] wK:=λ_ _ _ _ H Q I h=>Calls.spliced_nil ⟨[],H,I,.nil,h⟩
abbrev Qa6(X:Cx)(e:Expr)(es:List Expr):Prop:=starEach (e::es) X.env=(false,eval e X.env)::starEach es X.env
theorem aK(ha:PE X e te)(hr:PA X es t)(hs:Qa6 X e es:=by rfl):PA X (e::es) (iH te t):=by intro pos Z7 s σ H Q I h;rw[hs];show wpAny _ _ (spliced ((false,eval e X.env)::backTo pos (starEach es X.env))) _ _ s;refine Calls.spliced_cons (Õ (ha Z7 s σ H _ I h) λu s1=>?_);rintro⟨x,H1,I1,r1,q1⟩;exact Õ (hr pos Z7 s1 σ H1 _ I1 q1) λus s2=>by rintro⟨xs,H2,I2,r2,q2⟩;exact⟨x::xs,H2,I2,.cons r1 r2,q2⟩
def Jr(t:TA):TE:=λσ H Q=>t σ H λxs H1=>xs.length<=sizeLine/\∀p,H1 p=none->Q (.ref p) (upd H1 p (.tup xs))
def Gj(t:TA):TE:=λσ H Q=>t σ H λxs H1=>xs.length<=sizeLine/\∀p,H1 p=none->Q (.ref p) (upd H1 p (.lst xs))
theorem bO{x1}(h:PA X es t):PE X (.Tuple es x1 pos) (Jr t):=by intro Z7 s σ H Q I hq;refine wpAny_Tuple_spliced (Õ (h pos Z7 s σ H _ I hq) λus s1⟨xs,H1,I1,r,z,q⟩=>⟨by rw[<-r.length];exact z,?_⟩);have hf:H1 s1.heap.objs.size=none:=I1.hok.fresh (Ø _);refine⟨.ref s1.heap.objs.size,upd H1 s1.heap.objs.size (.tup xs),I1.laid (t':=s1.toks) (λb u e=>ÿ _ e) (Ø _) ?_,rfl,q _ hf⟩;exact⟨z,us,r,⟨_,Ħ _ rfl,rfl,_,rfl⟩⟩
theorem cP(h:PA X es t):PE X (.List es pos) (Gj t):=by intro Z7 s σ H Q I hq;refine wpAny_List_spliced (Õ (h pos Z7 s σ H _ I hq) λus s1⟨xs,H1,I1,r,z,q⟩=>⟨by rw[<-r.length];exact z,?_⟩);have hf:H1 s1.heap.objs.size=none:=I1.hok.fresh (Ø _);refine⟨.ref s1.heap.objs.size,upd H1 s1.heap.objs.size (.lst xs),I1.laid (t':=s1.toks) (λb u e=>ÿ _ e) (Ø _) ?_,rfl,q _ hf⟩;exact⟨z,us,0,r,Ħ _ rfl⟩
end
abbrev Sp:=List V->Hp->VK->XK->Prop
abbrev CXT:=List Env->Hp->Shared->XK->RC
structure ķ(P:Program)(w:World)(K:Frag)(mg:RG)(base:Heap)(A:Around)(outer:List Env)(s:Shared)(H:Hp):Prop where
 frames:A.frames=some outer
 mod:Mod K mg base
 bs:∀b o,base.get? b=some o->s.heap.get? b=some o/\H b=none
 bsz:base.objs.size<=s.heap.objs.size
 funs:s.heap.FunFrames base outer
 frf:∀b∈ĉ outer,H b=none
 hok:û P w H s.heap
 bare:AllBare s.gens
def CE(outer:List Env)(P:Program)(w:World)(H:Hp)(s:Shared)(Q:VK)(u:Value)(s':Shared):Prop:=∃v H',s'.os=s.os/\AllBare s'.gens/\Un (ĉ outer) [] H H' s.heap s'.heap/\û P w H' s'.heap/\Ì v u/\Q v H'
def CR(CX:CXT)(outer:List Env)(P:Program)(w:World)(H:Hp)(s:Shared)(Q:VK)(E:XK)(r:Result)(s':Shared):Prop:=match r with|.ok (.ret u)=>CE outer P w H s Q u s'|.ok _=>False|.error e=>CX outer H s E e s'
structure Í(P:Program)(w:World)(K:Frag)(mg:RG)(base:Heap)(CX:CXT)(k:Nat)(f:Addr)(fd:FuncData)(ps:ç)(sp:Sp):Prop where
 len:∀vs H Q E,sp vs H Q E->vs.length=ps.length
 run:∀A outer s H args us vs Q E,ä k A->ķ P w K mg base A outer s H->BindsTo s fd args (ps.zip us)->Ë vs us->sp vs H Q E->codeAny (model P w) A (.call (.ref f) args) (CR CX outer P w H s Q E) s
theorem Í.imp{K:Frag}(F:Í P w K mg base CX k f fd ps sp)(h:∀vs H Q E,sp' vs H Q E->sp vs H Q E):Í P w K mg base CX k f fd ps sp':=⟨λvs H Q E q=>F.len vs H Q E (h _ _ _ _ q),λA outer s H args us vs Q E hr he hb hv hs=>F.run A outer s H args us vs Q E hr he hb hv (h _ _ _ _ hs)⟩
section
variable{σ:St}
theorem Ä.env0(I:Ä X Z7 σ H s):ķ X.prog X.w X.K X.mg X.base X.A X.stack s H:=⟨I.ok.frames,I.ok.mod,I.bs,ĺ I.ok.bsz I.sz,I.stack,I.stkFree,I.hok,I.bare⟩
theorem Ä.after(I:Ä X Z7 σ H s)(h:CE X.stack X.prog X.w H s Q u s'):EP X Z7 σ Q u s':=by obtain⟨v,H',os,bare,un,hok,r,q⟩:=h;obtain⟨hh,g,d,t,RF⟩:=s';obtain rfl:RF=s.os:=os;exact⟨v,H',I.call (h':=hh) (g':=g) (d':=d) (t':=t) (ch:=[]) un hok bare (λb z=>absurd z Z2),r,q⟩
end
def uD(sp:Sp)(sL:List V)(E:XK)(t:TA):TE:=λσ H Q=>t σ H λvs H1=>sp (vs++sL) H1 Q E
def ï(K:Frag)(fd:FuncData)(ps:ç)(ds:gV):Prop:=∀s us,K.In s.heap->(us++ds).length=ps.length->BindsTo s fd ⟨us,[]⟩ (ps.zip (us++ds))
theorem ï.all{K:Frag}(h:∀us,us.length=ps.length->bindArgs fd ⟨us,[]⟩=pure (ps.zip us)):ï K fd ps []:=λs us _ hl=>by rw[Į]at hl⊢;exact .of_eq (h us hl)
def rY(CX:CXT)(X:Cx)(E:XK):Prop:=∀Z7(σ:St)H s e s',Ä X Z7 σ H s->CX X.stack H s E e s'->X.xe e s'
section
variable{p pos apos:Pos}
theorem Js{σ:St}(F:Í X.prog X.w X.K X.mg X.base CX k f fd ps sp)(hr:ä k X.A)(hb:ï X.K fd ps ds)(hd:Ë sL ds)(hx:rY CX X E)(I:Ä X Z7 σ H s)(r:Ë vs us)(h:sp (vs++sL) H Q E):wpAny (model X.prog X.w) X.A (call (.ref f) us) (EP X Z7 σ Q) X.xe s:=by
 have r2:Ë (vs++sL) (us++ds):=r.append hd;have hl:(us++ds).length=ps.length:=by rw[<-r2.length];exact F.len _ _ _ _ h
 refine wpAny_call (codeAny_mono (F.run X.A X.stack s H ⟨us,[]⟩ (us++ds) (vs++sL) Q E hr I.env0 (hb s us I.kIn hl) r2 h) λr s' hq=>?_);cases r with|error e=>exact hx Z7 σ H s e s' I hq;|ok fl=>cases fl with|ret u=>exact I.after hq;|next=>exact False.elim hq;|brk=>exact False.elim hq;|cont=>exact False.elim hq
abbrev Qa7(X:Cx)(p:Pos)(es:List Expr):Prop:=(backTo p (starEach es X.env)).any (·.1)=false
theorem yq(F:Í X.prog X.w X.K X.mg X.base CX k f fd ps sp)(hr:ä k X.A)(hg:Gl X x)(hm:X.mg x=some (.ref f))(hk:PySem.W.keepIn X.K (.ref f)=true)(hb:ï X.K fd ps ds)(hd:Ë sL ds)(hx:rY CX X E)(ha:PA X (e::es) t)(fe:ū x:=by decide)(he:Qa6 X e es:=by rfl)(eR:Qa7 X pos es:=by rfl):PE X (.Call (.Name x p) (e::es) [] pos) (uD sp sL E t):=by intro Z7 s σ H Q I h;refine wpAny_Call_Name_kw (jc I hg hm ?_ fe);refine PySem.W.callWith_K (h₀:=X.base) I.ok.mod.kin hk (Õ (ha pos Z7 s σ H _ I h) λus s1⟨vs,H1,I1,r,q⟩=>⟨I1.kIn,?_⟩) he eR;exact Js F hr hb hd hx I1 r q
end
section
end
structure Á(N P:ç)(sc:Scope):Prop where
 kind:sc.kind=.function
 co:sc.isCoroutine=false
 gen:sc.isGenerator=false
 nd:N.Nodup
 pre:N.take P.length=P
 par:∀x∈P,sc.names.lookup x=some .local\/sc.names.lookup x=some .cell
 nofree:∀y∈sc.names,y.2≠.free
theorem qD{kindOf:Str->Option NameKind}:∀{binds:List (Str×Value)}{m:RG},(∀v,(x,v)∉binds)->bindL kindOf binds m x=m x
 |[],_,_=>rfl|(n,v)::r,m,h=>by
  unfold bindL;rw[qD λw hw=>h w (Zaj _ hw)];split
  .have:x≠n:=by rintro rfl;exact h v Zap
   simp[this]
  .rfl
theorem qF{kindOf:Str->Option NameKind}:∀{binds:List (Str×Value)}{m:RG},(∀v,(x,v)∉binds)->bindC kindOf binds m x=m x
 |[],_,_=>rfl|(n,v)::r,m,h=>by
  unfold bindC;rw[qF λw hw=>h w (Zaj _ hw)];split;.rfl
  .have:x≠n:=by rintro rfl;exact h v Zap
   simp[this]
theorem qG{kindOf:Str->Option NameKind}:∀{P:ç}{vs:gV}{i:Nat}{m:RG},P.Nodup->P[i]?=some x->vs[i]?=some v->kindOf x=some .local->bindL kindOf (P.zip vs) m x=some v|[],_,_,_,_,h,_,_=>by simp at h;|_::_,[],_,_,_,_,h,_=>by simp at h;|p::P,w::vs,0,m,nd,h1,h2,hk=>by simp at h1 h2;subst h1;subst h2;show bindL kindOf ((p,w)::P.zip vs) m p=_;unfold bindL;rw[qD λv hv=>(Zba.mp nd).1 (ϟ hv).1,È hk];simp;|p::P,w::vs,i+1,m,nd,h1,h2,hk=>by show bindL kindOf ((p,w)::P.zip vs) m x=_;unfold bindL;exact qG (i:=i) (Zba.mp nd).2 (by simpa using h1) (by simpa using h2) hk
theorem qH{kindOf:Str->Option NameKind}:∀{P:ç}{vs:gV}{i:Nat}{m:RG},P.Nodup->P[i]?=some x->vs[i]?=some v->kindOf x≠some .local->bindC kindOf (P.zip vs) m x=some v|[],_,_,_,_,h,_,_=>by simp at h;|_::_,[],_,_,_,_,h,_=>by simp at h;|p::P,w::vs,0,m,nd,h1,h2,hk=>by simp at h1 h2;subst h1;subst h2;show bindC kindOf ((p,w)::P.zip vs) m p=_;unfold bindC;rw[qF λv hv=>(Zba.mp nd).1 (ϟ hv).1,Æ hk];simp;|p::P,w::vs,i+1,m,nd,h1,h2,hk=>by show bindC kindOf ((p,w)::P.zip vs) m x=_;unfold bindC;exact qH (i:=i) (Zba.mp nd).2 (by simpa using h1) (by simpa using h2) hk
def start(N:ç)(vs:List V):St:=vs.map some++List.replicate (N.length-vs.length) none
def iJ(CX:CXT)(P:Program)(w:World)(K:Frag)(mg:RG)(base:Heap)(N:ç)(qual:Str)(scope:Scope)(f:Addr)(cd:Value)(A:Around)(outer:List Env)(s:Shared)(H:Hp)(E:XK):Cx where prog:=P;w:=w;K:=K;mg:=mg;base:=base;A:=A.deeper (envOfC qual scope s.heap.objs.size f cd);N:=N;s₀:=s;H₀:=H;env:=envOfC qual scope s.heap.objs.size f cd;outer:=outer;stack:=envOfC qual scope s.heap.objs.size f cd::outer;ex:=[];calm:=true;fn:=λ_=>true;pn:=[];xe:=λe s'=>wpAny (model P w) (A.deeper (envOfC qual scope s.heap.objs.size f cd)) (leaving (envOfC qual scope s.heap.objs.size f cd) e) (λ_ kR=>CX outer H s E e kR) (λe' kR=>CX outer H s E e' kR) s'
theorem uE{sc:Scope}(h:sc.names.lookup x=some .cell):∃c,(cellsFrom n sc.names []).lookup x=some c:=by have q:=PySem.W.cellsFrom_some sc.names n [] (.inl h);exact Zau.mp q
theorem qI{K:Frag}(S:Á N ps scope)(hd:A.handled=none)(e0:ķ P w K mg base A outer s H)(hl:vs.length=ps.length)(r:Ë vs us)(x:InCallC s s.heap.objs.size (bindL (envOfC qual scope s.heap.objs.size f cd).kindOf (ps.zip us) λ_=>none) (cellsFrom (s.heap.objs.size+1) scope.names []) (bindC (envOfC qual scope s.heap.objs.size f cd).kindOf (ps.zip us) λ_=>none) s1):Ä (iJ CX P w K mg base N qual scope f cd A outer s H E) [] (start N vs) H s1:=by
 have eR:ps.length<=N.length:=by have:=congrArg List.length S.pre;rw[Ė]at this;lia
 obtain⟨h1,tk,rfl,hk⟩:=x.done;have BQ:∀b:Addr,b∉(iJ CX P w K mg base N qual scope f cd A outer s H E).ex:=λb z=>absurd (show b∈([]:þ)from z) Z2;refine⟨⟨e0.mod,S.kind,rfl,rfl,Ø _,λy z c h1 h2=>?_,λy hy=>?_,λy c _ h=>?_,λ_=>hd,Around.frames_deeper e0.frames,.inr ⟨rfl,rfl⟩,λb z=>absurd z (BQ b),e0.bs,e0.bsz,λb _ _=>BQ b,λb z=>absurd z (BQ b),e0.funs,e0.frf⟩,rfl,e0.bare,Un.kept hk,⟨_,x.toInCall.ns,λi y v h1 h2 h3=>?_⟩,λy c h=>⟨_,x.cell y c h⟩,e0.hok.fresh (Ø _),λy c h=>?_,λp hp=>absurd (show p∈([]:Yq)from hp) Z2,e0.hok.kept hk,?_⟩;.exact name_of_addr x.apart (PySem.mem_of_lookup h1) (PySem.mem_of_lookup h2)
 .have hy:scope.names.lookup y=some .cell\/scope.names.lookup y=some .free:=hy;rcases hy with hy|hy;.exact uE hy
  .exact absurd rfl (S.nofree _ (PySem.mem_of_lookup hy))
 .exact Za9 (x.above y c (PySem.mem_of_lookup h))
 .have hi:i<vs.length:=by
   unfold start at h2;by_cases hi:i<vs.length;.exact hi
   .rw[ϸ (by simpa using hi)]at h2;rw[Zbk]at h2;split at h2<;>cases h2
  have ha:vs[i]?=some v:=by unfold start at h2;rw[Ϸ (by simpa using hi),ý]at h2;cases e:vs[i]? with|none=>rw[e]at h2;cases h2;|some a=>rw[e]at h2;cases h2;rfl
  obtain⟨u,hu,rv⟩:=r.get ha;have hp:ps[i]?=some y:=by rw[<-S.pre,Za2 Z1];exact h1
  have NM:ps.Nodup:=by rw[<-S.pre];exact S.nd.sublist (List.take_sublist _ _)
  refine⟨u,rv,?_⟩;rcases S.par y (Κ hp)with k|k;.exact .inl ⟨k,qG NM hp hu k⟩
  .obtain⟨c,e⟩:=uE (n:=s.heap.objs.size+1) k;refine .inr ⟨.inl k,c,e,?_⟩;have q:=x.cell y c e;rw[qH NM hp hu (by show scope.names.lookup y≠_;rw[k];decide)]at q;exact q
 .exact e0.hok.fresh (Za9 (x.above y c (PySem.mem_of_lookup h)))
 .unfold start;show _=N.length;rw[ì,Ð,Zbb];lia
theorem CT{K:Frag}{dV kV doc pm ai ct oc:Value}{an od:Option Addr}{kS:Array (Option Value)}{N ps:ç}{sp:Sp}(lk:K.lookup f=some ⟨oc,od,.func (PySem.W.fnOf name qual params body scope dV kV doc pm an ai ct),kS⟩)(eB:PySem.W.codeIn K ai qual=true)(S:Á N ps scope)(len:∀vs H Q E,sp vs H Q E->vs.length=ps.length)(aI:∀A outer s H vs Q E,ä k (A.deeper (envOfC qual scope s.heap.objs.size f ai))->sp vs H Q E->∃t,Ĵ (iJ CX P w K mg base N qual scope f ai A outer s H E) body t/\t {nx:=λ_ H'=>Q .non H',rt:=Q} (start N vs) H):Í P w K mg base CX (k+1) f (PySem.W.fnOf name qual params body scope dV kV doc pm an ai ct) ps sp:=by
 refine⟨len,λA outer s H args us vs Q E hr e0 hb r gS=>?_⟩;have hl:=len _ _ _ _ gS;have KX:K.In s.heap:=e0.mod.kin.keeps λb o e=>(e0.bs b o e).1;have lim:s.heap.NoLimit:=e0.mod.nolimit.keeps λb o e=>(e0.bs b o e).1;have l9:∀y∈ps.zip us,scope.names.lookup y.1=some .local\/(scope.names.lookup y.1=some .cell/\((cellsFrom (s.heap.objs.size+1) scope.names []).lookup y.1).isSome=true):=λ⟨n,v⟩hy=>by
  rcases S.par n (ϟ hy).1 with q|q;.exact .inl q
  .exact .inr ⟨q,PySem.W.cellsFrom_some _ _ _ (.inl q)⟩
 refine codeAny_call_function hr.depth (KX _ _ lk) rfl S.co S.gen rfl (PySem.W.codeRec_of KX eB) (hb _ _ _ _ ?_);refine wpAny_newFunctionEnv_cells S.kind l9 λenv he s1 x=>?_;subst he;refine⟨lim.keeps x.toInCall.keep,codeAny_func ?_⟩;obtain⟨t,ht,hq⟩:=aI A outer s H vs Q E (hr.deeper _) gS;have I:Ä (iJ CX P w K mg base N qual scope f ai A outer s H E) [] (start N vs) H s1:=qI S hr.hd e0 hl r x;refine wpAny_mono (ht [] s1 (start N vs) H _ I hq) (λfl s' hs=>?_) λe s' hs=>hs;have fin:∀{af:St}{H':Hp}{v:V}{u:Value},Ä (iJ CX P w K mg base N qual scope f ai A outer s H E) [] af H' s'->Ì v u->Q v H'->CE outer P w H s Q u s':=λ{af H' v u}J rv q=>⟨v,H',J.os,J.bare,J.base,J.hok,rv,q⟩;cases fl with|ret u=>obtain⟨v,af,H',J,rv,q⟩:=hs;exact fin J rv q;|next=>obtain⟨af,H',J,q⟩:=hs;exact fin (v:=V.non) (u:=Value.none) J rfl q;|brk=>obtain⟨_,_,_,q⟩:=hs;exact False.elim q;|cont=>obtain⟨_,_,_,q⟩:=hs;exact False.elim q
section
variable{p pos:Pos}{id T:String}
def tCB(r:List V->Hp->VK->Prop)(t:TA):TE:=λσ H Q=>t σ H λvs H1=>r vs H1 Q
theorem aM(hc:dF X (.builtin id) r)(hg:Gl X x)(hm:X.mg x=none)(hv:bootBuiltins x=some (.builtin id))(ha:PA X (e::es) t)(hn:x≠"__name__":=by decide)(fe:ū x:=by decide)(he:Qa6 X e es:=by rfl)(eR:Qa7 X pos es:=by rfl):PE X (.Call (.Name x p) (e::es) [] pos) (tCB r t):=by intro Z7 s σ H Q I h;refine wpAny_Call_Name_kw (jt I hg hm hv ?_ hn fe);exact PyProof.Rows.callWith_builtin1 (Õ (ha pos Z7 s σ H _ I h) λus s1=>by rintro⟨vs,H1,I1,r1,q1⟩;exact hc Z7 s1 σ H1 vs us Q I1 r1 q1) he eR
theorem bB(hc:dF X (.type T) r)(hg:Gl X x)(hm:X.mg x=none)(hv:bootBuiltins x=some (.type T))(ha:PA X (e::es) t)(hn:x≠"__name__":=by decide)(fe:ū x:=by decide)(he:Qa6 X e es:=by rfl)(eR:Qa7 X pos es:=by rfl):PE X (.Call (.Name x p) (e::es) [] pos) (tCB r t):=by intro Z7 s σ H Q I h;refine wpAny_Call_Name_kw (jt I hg hm hv ?_ hn fe);exact PyProof.Rows.callWith_type1 (Õ (ha pos Z7 s σ H _ I h) λus s1=>by rintro⟨vs,H1,I1,r1,q1⟩;exact hc Z7 s1 σ H1 vs us Q I1 r1 q1) he eR
end
end L2
namespace HT
open PySem PyProof.Rows
section
open PySem.SeqAt
open PySem.AutoSeq1 (wpAny_loadPart')
open PySem.MeetsSeq PySem.MeetsSeq2 PySem.MeetsSeq3
end
section
theorem cat_tup(ht:IsTup s.heap t vs.toArray)(hb:IsTup s.heap b ws.toArray)(hv:vs≠[])(h1:ws=[]->Q (.ref t) s)(h2:ws≠[]->Q (.ref s.heap.objs.size) {s with heap:=s.heap.push {cls:=.type "tuple",data:=.seq (vs++ws).toArray}})(hsz:vs.length+ws.length<=sizeLine):wpAny (model prog w) A (binaryOp .Add (.ref t) (.ref b)) Q E s:=by
 obtain⟨⟨cls,dd,data,sl⟩,ho,hc,n,hd⟩:=id ht;obtain⟨⟨IB,AG,data2,kz⟩,qa,wt,n2,hd2⟩:=id hb;simp only at hc hd wt hd2;subst hc hd wt hd2;have e:vs.toArray++ws.toArray=(vs++ws).toArray:=by simp
 by_cases hw:ws=[];.exact concat_meets ⟨_,ho,rfl⟩ ⟨_,qa,rfl⟩ noFill_tuple_add seq_tuple_add PySem.F.slot_tuple_add PySem.F.entry_tuple_add (PySem.F.args_tuple_add_2 _ _) (tuple_addW1 t b vs.toArray ws.toArray n n2 dd AG sl kz (by simpa using hv) (by simp[hw])) ⟨ho,qa,h1 hw⟩
 .refine concat_meets ⟨_,ho,rfl⟩ ⟨_,qa,rfl⟩ noFill_tuple_add seq_tuple_add PySem.F.slot_tuple_add PySem.F.entry_tuple_add (PySem.F.args_tuple_add_2 _ _) (tuple_addW2 t b vs.toArray ws.toArray n n2 dd AG sl kz (by simpa using hv) (by simpa using hw) (by rw[Ď];exact hsz)) ⟨ho,qa,?_⟩;rw[e];exact h2 hw
def sIx(n d:Nat):Option Int->Nat|none=>d|some v=>if v<0 then(v+(n:Int)).toNat else min v.toNat n
theorem sIx_none(n d:Nat):sIx n d none=d:=rfl
theorem sIx_nat(n d k:Nat):sIx n d (some (k:Int))=min k n:=by rfl
theorem Jt(n d:Nat)(hd:d<=n)(o:Option Int):sIx n d o<=n:=by cases o with|none=>exact hd;|some v=>
  show(if v<0 then(v+(n:Int)).toNat else min v.toNat n)<=n;by_cases hv:v<0;.rw[È hv];lia
  .rw[Æ hv];exact Nat.min_le_right _ _
theorem yt(v:Int)(n d:Nat):(if v<0 then max (v+(n:Int)) 0 else min v (n:Int))=((sIx n d (some v):Nat):Int):=by
 show(if v<0 then max (v+(n:Int)) 0 else min v (n:Int))=(((if v<0 then(v+(n:Int)).toNat else min v.toNat n):Nat):Int);by_cases hv:v<0;.simp only[if_pos hv];lia
 .simp only[if_neg hv];lia
theorem wL(lo hi:Option Int)(n:Nat):Builtin.Slice.sliceAdjust lo hi 1 (n:Int)=(((sIx n 0 lo:Nat):Int),((sIx n n hi:Nat):Int)):=by
 refine Prod.ext ?_ ?_;.cases lo with|none=>rfl;|some v=>exact yt v n 0
 .cases hi with|none=>rfl;|some v=>exact yt v n n
theorem wM(i j:Nat):Builtin.Slice.slicePlaces (i:Int) (j:Int) 1=j-i:=by unfold Builtin.Slice.slicePlaces;split<;>lia
theorem oG(p:IsPart v o)(h:Q o s):wpAny (model prog w) A (Builtin.Slice.slicePartIndex v) Q E s:=by cases p with|none=>exact slicePart_none h;|int i t=>exact slicePart_int h
theorem gY{lo hi:Option Int}{Q:Int×Int×Nat->Shared->Prop}(hs:s.heap.IsSliceOf sl vl vu .none)(pl:IsPart vl lo)(pu:IsPart vu hi)(h:Q (((sIx n 0 lo:Nat):Int),1,sIx n n hi-sIx n 0 lo) s):wpAny (model prog w) A (Builtin.Slice.sliceApplied (.ref sl) (pure (n:Int))) Q E s:=by obtain⟨os,wx,E8,BU⟩:=id hs;unfold Builtin.Slice.sliceApplied Builtin.Slice.sliceFields;refine Â (Â (wpAny_field wx BU (x:=vl) rfl (Â (wpAny_field wx BU (x:=vu) rfl (Â (wpAny_field wx BU (x:=.none) rfl (Ô ?_)))))));refine Â (slicePart_none ?_);show wpAny _ _ (if((1:Int)==0)=true then _ else _) _ _ s;rw[Æ Z3];refine Â (oG pl (Â (oG pu (Â (Ô ?_)))));show wpAny _ _ (match Builtin.Slice.sliceAdjust lo hi 1 (n:Int)with|(lo,hi)=>pure (lo,(1:Int),Builtin.Slice.slicePlaces lo hi 1)) _ _ s;rw[wL lo hi n];show wpAny _ _ (pure (((sIx n 0 lo:Nat):Int),(1:Int),Builtin.Slice.slicePlaces ((sIx n 0 lo:Nat):Int) ((sIx n n hi:Nat):Int) 1)) _ _ s;rw[wM];exact Ô h
theorem CV(xs:Qa0)(i k:Nat):((List.range k).filterMap λ(m:Nat)=>xs[((i:Int)+(m:Int)*1).toNat]?).toArray=((xs.toList.drop i).take k).toArray:=by
 have e:(λ(m:Nat)=>xs[((i:Int)+(m:Int)*1).toNat]?)=λm=>xs[i+m]?:=by grind
 rw[e];have:=pick_run xs i k;rw[List.filterMap_map]at this;have e2:((λx=>xs[x]?)∘λx=>i+x)=λm=>xs[i+m]?:=rfl;rw[e2]at this;rw[this]
theorem getItem_tuple_cut{lo hi:Option Int}(ht:IsTup s.heap t items)(hs:s.heap.IsSliceOf sl vl vu .none)(pl:IsPart vl lo)(pu:IsPart vu hi)(hw:¬(sIx items.size 0 lo=0/\sIx items.size items.size hi=items.size))(h:Q (.ref s.heap.objs.size) {s with heap:=s.heap.push {cls:=.type "tuple",data:=.seq ((items.toList.drop (sIx items.size 0 lo)).take (sIx items.size items.size hi-sIx items.size 0 lo)).toArray}})(hsz:items.size<=sizeLine):wpAny (model prog w) A (getItem (.ref t) (.ref sl)) Q E s:=by
 have js:sizeOk (.seq ((items.toList.drop (sIx items.size 0 lo)).take (sIx items.size items.size hi-sIx items.size 0 lo)).toArray):=by show((items.toList.drop (sIx items.size 0 lo)).take (sIx items.size items.size hi-sIx items.size 0 lo)).toArray.size<=sizeLine;rw[Ď,Ė,Za5,ő];lia
 have hj:sIx items.size items.size hi<=items.size:=Jt _ _ (Ø _) hi;obtain⟨os,wx,E8,BU⟩:=id hs;have IC:s.TypeIs (.ref sl) "slice":=⟨os,wx,E8⟩;unfold getItem;try with_reducible refine wpAny_holding ?_
 first|refine Â (Ô ?_)|skip
 refine Â (wpAny_sequenceKey ht.typeIs Z3 ?_);refine Â (wpAny_callSpecial?_slot (name:=Str.ofString "__getitem__") ht.typeIs PyProof.Rows.slot_tuple_getitem (wpAny_call_entry PyProof.Rows.slot_tuple_getitem ht.typeIs entry_tuple_getitem ?_ (args_tuple_getitem _ _)));show wpAny _ _ (Builtin.Tuple.tupleItemsOf (.ref t)>>=_) _ _ s;refine Â (tupleItemsOf_ ht ?_);refine Â (wpAny_typeOf IC ?_);rw[È Z3];refine Â (gY hs pl pu ?_);have ID:¬((((sIx items.size 0 lo:Nat):Int)==0&&(1:Int)==1&&(sIx items.size items.size hi-sIx items.size 0 lo)==items.size)=true):=by intro q;rw[ġ,ġ]at q;have q1:((sIx items.size 0 lo:Nat):Int)=0:=eq_of_beq q.1.1;have q2:sIx items.size items.size hi-sIx items.size 0 lo=items.size:=eq_of_beq q.2;exact hw ⟨Z1,Z1⟩
 show wpAny _ _ (if(((sIx items.size 0 lo:Nat):Int)==0&&(1:Int)==1&&(sIx items.size items.size hi-sIx items.size 0 lo)==items.size)=true then _ else _) _ _ s;rw[Æ ID,CV];first|exact Â (m:=Builtin.Tuple.tupleExact _) (ϖ (Ô ⟨_,rfl,Ô h⟩) js);|exact Â (m:=Builtin.Tuple.tupleExact _) (ϖ (Â (Ô (Ô ⟨_,rfl,Ô h⟩))) js);|exact Â (Â (m:=Builtin.Tuple.tupleExact _) (ϖ (Ô (Ô ⟨_,rfl,Ô h⟩)) js));|exact Â (Â (m:=Builtin.Tuple.tupleExact _) (ϖ (Ô ⟨_,rfl,Ô h⟩) js))
end
end HT
namespace L2
open PySem PySem.Spec PyProof.Rows
abbrev TO:=St->Hp->(Option Int->Hp->Prop)->Prop
def PO(X:Cx)(e:Option Expr)(t:TO):Prop:=∀Z7 s(σ:St)H Q,Ä X Z7 σ H s->t σ H Q->wpAny (model X.prog X.w) X.A (evalPart e X.env) (λu s'=>∃o H',Ä X Z7 σ H' s'/\IsPart u o/\Q o H') X.xe s
def Gk:TO:=λ_ H Q=>Q none H
def Lb(t:TE):TO:=λσ H Q=>t σ H λx H1=>∃i,x=.int i/\Q (some i) H1
theorem ĝ{ns:PP}:∀{us:gV},Ë (ns.map V.int) us->IntsAre us ns:=by induction ns with|nil=>intro us r;rw[List.map_nil]at r;cases r;exact .nil;|cons n ns ih=>intro us r;cases r with|cons r1 r2=>obtain⟨t,e⟩:=r1;subst e;exact .cons n t (ih r2)
section
variable{lo hi:Option Expr}
theorem jK:PO X none Gk:=by intro Z7 s σ H Q I h;exact Ô ⟨none,H,I,.none,h⟩
theorem jL(h:PE X e te):PO X (some e) (Lb te):=by intro Z7 s σ H Q I hw;refine Õ (h Z7 s σ H _ I hw) λu s1=>?_;rintro⟨x,H1,I1,r1,q1⟩;obtain⟨i,rfl,q⟩:=q1;obtain⟨t,rfl⟩:=r1;exact⟨some i,H1,I1,.int i t,q⟩
def SlR(X:Cx)(r:V->Option Int->Option Int->Hp->VK->Prop):Prop:=∀Z7 s(σ:St)H x v vl vu lo hi sl Q,Ä X Z7 σ H s->Ì x v->s.heap.IsSliceOf sl vl vu .none->IsPart vl lo->IsPart vu hi->r x lo hi H Q->∃T id,typeLookup (.type T) "__getitem__"=pure (some (.builtin id))/\s.TypeIs v T/\wpAny (model X.prog X.w) X.A (getItem v (.ref sl)) (EP X Z7 σ Q) X.xe s
def tSl(r:V->Option Int->Option Int->Hp->VK->Prop)(te:TE)(tl th:TO):TE:=λσ H Q=>te σ H λx H1=>tl σ H1 λl H2=>th σ H2 λu H3=>r x l u H3 Q
theorem iK(hr:SlR X r)(he:PE X e te)(hl:PO X lo tl)(hu:PO X hi th):PE X (.Subscript e (.Slice lo hi none p2) pos) (tSl r te tl th):=by intro Z7 s σ H Q I h;refine Subscript_ (Õ (he Z7 s σ H _ I h) λv s1=>?_);rintro⟨x,H1,I1,r1,q1⟩;refine wpAny_Slice (Õ (hl Z7 s1 σ H1 _ I1 q1) λvl s2⟨l,H2,I2,pl,q2⟩=>Õ (hu Z7 s2 σ H2 _ I2 q2) λvu s3=>?_);rintro⟨u,H3,I3,pu,q3⟩;refine Ô ?_;have I4:Ä X Z7 σ H3 {s3 with heap:=s3.heap.push {cls:=.type "slice",data:=.fields #[vl,vu,.none]}}:=I3.kept (t':=s3.toks) λb ob q=>ÿ _ q;obtain⟨T,id,hT,ht,hg⟩:=hr Z7 {s3 with heap:=s3.heap.push {cls:=.type "slice",data:=.fields #[vl,vu,.none]}} σ H3 x v vl vu l u s3.heap.objs.size Q I4 r1 (Heap.IsSliceOf.new ..) pl pu q3;exact tail_any (ops:=[.ref s3.heap.objs.size,v]) ht hT hg (by with_unfolding_all rfl)
def ju(xs:List V)(lo hi:Option Int):List V:=(xs.drop (HT.sIx xs.length 0 lo)).take (HT.sIx xs.length xs.length hi-HT.sIx xs.length 0 lo)
theorem mF(xs:List V)(lo hi:Option Int):(ju xs lo hi).length<=xs.length:=by unfold ju;rw[Ė,Za5];lia
inductive Z0e(K:Frag)(x:V)(lo:Option Int)(hi:Option Int)(H:Hp)(Q:VK):Prop|mk:∀a xs,(x=.ref a)->(Ê K H a xs)->(¬(HT.sIx xs.length 0 lo=0/\HT.sIx xs.length xs.length hi=xs.length))->(∀p,H p=none->Q (.ref p) (upd H p (.tup (ju xs lo hi))))->Z0e K x lo hi H Q
def Nq(K:Frag):V->Option Int->Option Int->Hp->VK->Prop:=λx lo hi H Q=>Z0e K x lo hi H Q
theorem Ju:SlR X (Nq X.K):=by
 intro Z7 s σ H x v vl vu lo hi sl Q I rx hs pl pu h;obtain⟨a,xs,rfl,hx,hw,q⟩:=h;cases rx;obtain⟨Z8,r,ht,hz⟩:=I.tuple hx;have hlen:Z8.toArray.size=xs.length:=by rw[Ď];exact r.length.symm
 refine⟨"tuple",_,PyProof.Rows.slot_tuple_getitem.lookup,ht.typeIs,?_⟩;refine HT.getItem_tuple_cut ht hs pl pu (by rw[hlen];exact hw) ?_ (by rw[hlen];exact hz);rw[hlen];refine⟨.ref s.heap.objs.size,_,I.laid (t':=s.toks) (o:=.tup (ju xs lo hi)) (λb ob q=>ÿ _ q) (Ø _) ?_,rfl,q _ (I.hok.fresh (Ø _))⟩;exact⟨ĺ (mF xs lo hi) hz,_,(r.drop (HT.sIx xs.length 0 lo)).take (HT.sIx xs.length xs.length hi-HT.sIx xs.length 0 lo),IsTup.new _ _⟩
inductive ϱ(K:Frag)(x:V)(y:V)(H:Hp)(Q:VK):Prop|mk:∀a b xs ys,(x=.ref a)->(y=.ref b)->(Ê K H a xs)->(Ê K H b ys)->(xs≠[])->(xs.length+ys.length<=sizeLine)->((ys=[]->Q (.ref a) H))->((ys≠[]->∀p,H p=none->Q (.ref p) (upd H p (.tup (xs++ys)))))->ϱ K x y H Q
def Ld(K:Frag):R2:=λx y H Q=>ϱ K x y H Q
theorem Ë.nil_iff(r:Ë xs us):us=[]↔xs=[]:=by cases r with|nil=>simp;|cons _ _=>simp
theorem yu:Ē X (binaryOp .Add) (Ld X.K):=by intro Z7 s σ H x y v u Q I rx ry h;obtain⟨a,b,xs,ys,rfl,rfl,ha,hb,hx,hz,q1,q2⟩:=h;cases rx;cases ry;obtain⟨Z8,r1,p1,_⟩:=I.tuple ha;obtain⟨cq,r2,p2,_⟩:=I.tuple hb;refine HT.cat_tup p1 p2 (λz=>hx (r1.nil_iff.mp z)) (λz=>⟨.ref a,H,I,rfl,q1 (r2.nil_iff.mp z)⟩) (λz=>?_) (by rw[<-r1.length,<-r2.length];exact hz);refine⟨.ref s.heap.objs.size,_,I.laid (t':=s.toks) (o:=.tup (xs++ys)) (λb ob q=>ÿ _ q) (Ø _) ?_,rfl,q2 (λw=>z (r2.nil_iff.mpr w)) _ (I.hok.fresh (Ø _))⟩;exact⟨by rw[ì];exact hz,_,r1.append r2,IsTup.new _ _⟩
end
def Ϝ(n:Nat)(i:Int):Option Nat:=if 0<=i then(if i<n then some i.toNat else none)else if-(n:Int)<=i then some (i+n).toNat else none
def ŏ{α:Type}(xs:List α)(i:Int):Option α:=(Ϝ xs.length i).bind λj=>xs[j]?
theorem yw(h:Ϝ n i=some j):seqIndex? i n=some j/\j<n/\-(n:Int)<=i/\i<n:=by
 unfold Ϝ at h;by_cases h0:0<=i
 .rw[È h0]at h;by_cases h1:i<n;.rw[È h1]at h;have e:i.toNat=j:=ŉ h;exact⟨by rw[seqIndex_of h0 h1,e],Z1,Z1,h1⟩
  .rw[Æ h1]at h;cases h
 .rw[Æ h0]at h;by_cases h1:-(n:Int)<=i;.rw[È h1]at h;have e:(i+n).toNat=j:=ŉ h;exact⟨by rw[seqIndex_neg Z1 h1,e],Z1,h1,Z1⟩
  .rw[Æ h1]at h;cases h
theorem yx{v:α}(h:ŏ xs i=some v):∃j,seqIndex? i xs.length=some j/\xs[j]?=some v/\j<xs.length/\-(xs.length:Int)<=i/\i<xs.length:=by unfold ŏ at h;cases e:Ϝ xs.length i with|none=>rw[e]at h;cases h;|some j=>rw[e]at h;obtain⟨h1,h2,h3,h4⟩:=yw e;exact⟨j,h1,h,h2,h3,h4⟩
theorem dU{j:Nat}{v:α}(h:xs[j]?=some v):ŏ xs (j:Int)=some v:=by
 have hj:j<xs.length:=(ĩ.mp h).1;have e:Ϝ xs.length (j:Int)=some j:=by unfold Ϝ;rw[È Z1,È Z1];simp
 unfold ŏ;rw[e];exact h
def rZ(b:Expr):Prop:=∀o i,subscripted b false o i=operate [o,i] (getItem o i)
def IxR(X:Cx)(r:R2):Prop:=∀value slice Z7 s(σ:St)H x y v u Q,Ä X Z7 σ H s->Ì x v->Ì y u->r x y H Q->subscripted slice false v u=operate [v,u] (getItem v u)->wpAny (model X.prog X.w) X.A (subscriptTail value slice v u) (EP X Z7 σ Q) X.xe s
def MtR(X:Cx)(id:String)(r:V->List V->Hp->VK->Prop):Prop:=∀Z7 s(σ:St)H x xs v us Q,Ä X Z7 σ H s->Ì x v->Ë xs us->r x xs H Q->wpAny (model X.prog X.w) X.A (call (.builtin id) (v::us)) (EP X Z7 σ Q) X.xe s
section
variable{ta tb:TE}
theorem Ir(hr:IxR X r)(ha:PE X a ta)(hb:PE X b tb)(hs:rZ b):PE X (.Subscript a b pos) (ώ r ta tb):=by intro Z7 s σ H Q I h;exact Subscript_ (Jp ha hb I h λv u s2 x y H2 I2 rx ry q=>hr a b Z7 s2 σ H2 x y v u Q I2 rx ry q (hs _ _))
inductive Z0i(K:Frag)(x:V)(y:V)(H:Hp)(Q:VK):Prop|mk:∀p xs i v,(x=.ref p)->(y=.int i)->(É K H p xs)->(ŏ xs i=some v)->(Q v H)->Z0i K x y H Q
def Le(K:Frag):R2:=λx y H Q=>Z0i K x y H Q
inductive Z0h(K:Frag)(x:V)(y:V)(H:Hp)(Q:VK):Prop|mk:∀p xs i v,(x=.ref p)->(y=.int i)->(Ê K H p xs)->(ŏ xs i=some v)->(Q v H)->Z0h K x y H Q
def Lf(K:Frag):R2:=λx y H Q=>Z0h K x y H Q
theorem bV:IxR X (Le X.K):=by
 intro value slice Z7 s σ H x y v u Q I rx ry h hs;obtain⟨p,xs,i,z,rfl,rfl,hq,he,q⟩:=h;cases rx;obtain⟨t,rfl⟩:=ry;obtain⟨Z8,r,pl,hz⟩:=I.list hq;obtain⟨j,h1,h2,h3,h4,h5⟩:=yx he;obtain⟨w,ew,fI⟩:=r.get h2;have hl:=r.length;have hn:=lE;have fin:EP X Z7 σ Q w s:=⟨z,H,I,fI,q⟩;by_cases h0:0<=i
 .have hj:i.toNat=j:=by rw[seqIndex_of h0 h5]at h1;exact ŉ h1
  exact item_listR pl.isList h0 Z1 (by rw[hj];simpa using ew) fin hs
 .have hj:(i+(Z8.toArray.size:Int)).toNat=j:=by rw[seqIndex_neg Z1 h4]at h1;rw[Ď,<-hl];exact ŉ h1
  exact subscriptTail_builtinR (x:=w) pl.isList.typeIs slot_list_getitem.lookup (wpAny_getItem_list_neg (Q:=λr s'=>r=w/\EP X Z7 σ Q r s') pl.isList Z1 (by rw[Ď]<;>lia) Z1 (by rw[hj];simpa using ew) ⟨rfl,fin⟩) hs
theorem cB:IxR X (Lf X.K):=by intro value slice Z7 s σ H x y v u Q I rx ry h hs;obtain⟨p,xs,i,z,rfl,rfl,hq,he,q⟩:=h;cases rx;obtain⟨t,rfl⟩:=ry;obtain⟨Z8,r,pl,hz⟩:=I.tuple hq;obtain⟨j,h1,h2,h3,h4,h5⟩:=yx he;obtain⟨w,ew,fI⟩:=r.get h2;have hl:=r.length;have hn:=lE;have fin:EP X Z7 σ Q w s:=⟨z,H,I,fI,q⟩;exact subscriptTail_builtinR (x:=w) pl.typeIs slot_tuple_getitem.lookup (getItem_tuple (j:=j) (Q:=λr s'=>r=w/\EP X Z7 σ Q r s') pl Z1 Z1 (by rw[Ď,<-hl];exact h1) (by simpa using ew) ⟨rfl,fin⟩) hs
theorem wN(Z8:gV)(n j:Nat)(u:Value):Obj.mapSeq (·.setIfInBounds j u) {cls:=.type "list",data:=.seq Z8.toArray n}={cls:=.type "list",data:=.seq (Z8.set j u).toArray n}:=by simp[Obj.mapSeq]
theorem Ä.lst{σ:St}(I:Ä X Z7 σ H s)(h:H p=some (.lst xs)):∃(Z8:gV)(n:Nat),Ë xs Z8/\s.heap.get? p=some {cls:=.type "list",data:=.seq Z8.toArray n}/\xs.length<=sizeLine:=by obtain⟨z,Z8,n,r,e⟩:=I.hok p _ h;exact⟨Z8,n,r,e,z⟩
theorem Ä.lstUpd{σ:St}{Z8 its':gV}(I:Ä X Z7 σ H s)(h:H p=some (.lst xs))(ho:s.heap.get? p=some {cls:=.type "list",data:=.seq Z8.toArray n})(hf:f {cls:=.type "list",data:=.seq Z8.toArray n}={cls:=.type "list",data:=.seq its'.toArray n'})(r:Ë ys its')(hz:ys.length<=sizeLine)(t:Nat):Ä X Z7 σ (upd H p (.lst ys)) {s with heap:=s.heap.update p f,toks:=t}:=by
 have e:(s.heap.update p f).get? p=some {cls:=.type "list",data:=.seq its'.toArray n'}:=by rw[Heap.get?_update_self f ho (by rw[hf]<;>rfl),hf]
 refine I.write (x:=p) (e:=p) (by rw[h];trivial) (.inl rfl) (λb u hb q=>(Heap.get?_update_other _ _ (Ne.symm hb)).trans q) ⟨_,e⟩ ?_;exact⟨hz,its',n',r,e⟩
inductive Ϯ(o:V)(i:V)(v:V)(H:Hp)(Q:Hp->Prop):Prop|mk:∀p xs k j,(o=.ref p)->(i=.int k)->(H p=some (.lst xs))->(Ϝ xs.length k=some j)->(Q (upd H p (.lst (xs.set j v))))->Ϯ  o i v H Q
def Lg:V->V->V->Hp->(Hp->Prop)->Prop:=λo i v H Q=>Ϯ  o i v H Q
theorem Ā:Ge X Lg:=by
 intro Z7 s σ H o i v ov iv u Q I ro ri rv h;obtain⟨p,xs,k,j,rfl,rfl,hp,hj,q⟩:=h;cases ro;obtain⟨t,rfl⟩:=ri;obtain⟨Z8,n,r,ho,hz⟩:=I.lst hp;obtain⟨h1,h2,h3,h4⟩:=yw hj;have hl:=r.length;have hn:=lE;have I':Ä X Z7 σ (upd H p (.lst (xs.set j v))) {s with heap:=s.heap.update p (Obj.mapSeq (·.setIfInBounds j u))}:=I.lstUpd hp ho (wN Z8 n j u) (r.set rv j) (by rw[Za1];exact hz) s.toks;by_cases h0:0<=k
 .have hk:k.toNat=j:=by rw[seqIndex_of h0 h4]at h1;exact ŉ h1
  exact PySem.W.ki_setAt ho h0 Z1 (by rw[Ď,<-hl];exact h4) (by rw[hk];exact⟨_,I',q⟩)
 .have hk:(k+(Z8.toArray.size:Int)).toNat=j:=by rw[seqIndex_neg Z1 h3]at h1;rw[Ď,<-hl];exact ŉ h1
  exact PySem.W.ki_setBack ho Z1 (by rw[Ď,<-hl];exact h3) Z1 (by rw[hk];exact⟨_,I',q⟩)
theorem sr(lo hi:Option Int)(n:Nat):(sliceBounds lo hi none n).1=((HT.sIx n 0 lo:Nat):Int)/\(sliceBounds lo hi none n).2.1=((HT.sIx n n hi:Nat):Int)/\(sliceBounds lo hi none n).2.2=1:=by
 refine⟨?_,?_,rfl⟩;.cases lo with|none=>simp[sliceBounds,HT.sIx];|some i=>
   simp only[sliceBounds,HT.sIx,Option.getD_none,show(1:Int)>0 by decide,if_true];by_cases h:i<0;.simp only[h,if_true]<;>lia
   .simp only[h,if_false]<;>lia
 .cases hi with|none=>simp[sliceBounds,HT.sIx];|some i=>
   simp only[sliceBounds,HT.sIx,Option.getD_none,show(1:Int)>0 by decide,if_true];by_cases h:i<0;.simp only[h,if_true]<;>lia
   .simp only[h,if_false]<;>lia
theorem q9(Z8:gV)(lo hi:Option Int):slicePick Z8.toArray lo hi none=((Z8.drop (HT.sIx Z8.length 0 lo)).take (HT.sIx Z8.length Z8.length hi-HT.sIx Z8.length 0 lo)).toArray:=by obtain⟨h1,h2,h3⟩:=sr lo hi Z8.toArray.size;unfold slicePick;rw[h1,h2,h3];simp only[sliceRange_one,pick_run]<;>rfl
inductive Z0f(K:Frag)(x:V)(lo:Option Int)(hi:Option Int)(H:Hp)(Q:VK):Prop|mk:∀a xs,(x=.ref a)->(É K H a xs)->(∀p,H p=none->Q (.ref p) (upd H p (.lst (ju xs lo hi))))->Z0f K x lo hi H Q
def Nr(K:Frag):V->Option Int->Option Int->Hp->VK->Prop:=λx lo hi H Q=>Z0f K x lo hi H Q
theorem yz:SlR X (Nr X.K):=by intro Z7 s σ H x v vl vu lo hi sl Q I rx hs pl pu h;obtain⟨a,xs,rfl,hx,q⟩:=h;cases rx;obtain⟨Z8,r,ht,hz⟩:=I.list hx;have hlen:=r.length;refine⟨"list",_,slot_list_getitem.lookup,ht.isList.typeIs,?_⟩;refine wpAny_getItem_list_slice ht.isList hs pl pu .none Z2 ?_ (by rw[Ď]<;>lia);rw[q9,<-hlen];refine⟨.ref s.heap.objs.size,_,I.laid (t':=s.toks) (o:=.lst (ju xs lo hi)) (λb ob q=>ÿ _ q) (Ø _) ?_,rfl,q _ (I.hok.fresh (Ø _))⟩;exact⟨ĺ (mF xs lo hi) hz,_,0,(r.drop (HT.sIx xs.length 0 lo)).take (HT.sIx xs.length xs.length hi-HT.sIx xs.length 0 lo),Ħ _ rfl⟩
theorem bu:dF X (.builtin "len") (λxs H Q=>∃p ys,xs=[.ref p]/\(É X.K H p ys\/Ê X.K H p ys)/\Q (.int ys.length) H):=by
 intro Z7 s σ H xs us Q I r h;obtain⟨p,ys,rfl,hq,q⟩:=h;obtain⟨u,rfl,rx⟩:=ò r;cases rx;have hn:=lE;rcases hq with hq|hq;.obtain⟨Z8,r',pl,hz⟩:=I.list hq;have hlen:=r'.length;exact Calls.call_len_list pl.isList (by simp only[List.size_toArray]<;>lia) ⟨.int ys.length,H,I.tok _,⟨s.toks+1,by rw[Ď,hlen]⟩,q⟩
 .obtain⟨Z8,r',pl,hz⟩:=I.tuple hq;have hlen:=r'.length;exact len_tuple pl (by simp only[List.size_toArray]<;>lia) ⟨.int ys.length,H,I.tok _,⟨s.toks+1,by rw[Ď,hlen]⟩,q⟩
theorem sy:dF X (.type "list") (λxs H Q=>∃p ys,xs=[.ref p]/\(É X.K H p ys\/Ê X.K H p ys)/\∀l,H l=none->Q (.ref l) (upd H l (.lst ys))):=by
 intro Z7 s σ H xs us Q I r h;obtain⟨p,ys,rfl,hq,q⟩:=h;obtain⟨u,rfl,rx⟩:=ò r;cases rx;have fin:∀(Z8:gV),Ë ys Z8->ys.length<=sizeLine->∀(h':Heap)(c':Nat),(∀b o',s.heap.get? b=some o'->h'.get? b=some o')->h'.get? s.heap.objs.size=some {cls:=.type "list",dict:=none,data:=.seq Z8.toArray c',slots:=#[]}->EP X Z7 σ Q (.ref s.heap.objs.size) {s with heap:=h'}:=λZ8 r' hz h' c' kp e=>⟨.ref s.heap.objs.size,_,I.laid (t':=s.toks) kp (Ø _) (show Ñ X.prog X.w _ h' _ (.lst ys)from⟨hz,Z8,c',r',e⟩),rfl,q _ (I.hok.fresh (Ø _))⟩;rcases hq with hq|hq;.obtain⟨Z8,r',pl,hz⟩:=I.list hq;have hlen:=r'.length;obtain⟨o,ho,hc,n,hd⟩:=pl.isList;exact call_list_seq p (.inl rfl) ho hc hd (λh' c' kp e=>fin Z8 r' hz h' c' kp e) (by simp only[List.size_toArray]<;>lia)
 .obtain⟨Z8,r',pl,hz⟩:=I.tuple hq;have hlen:=r'.length;obtain⟨o,ho,hc,n,hd⟩:=pl;exact call_list_seq p (.inr rfl) ho hc hd (λh' c' kp e=>fin Z8 r' hz h' c' kp e) (by simp only[List.size_toArray]<;>lia)
theorem bF:dF X (.type "tuple") (λxs H Q=>∃p ys,xs=[.ref p]/\((É X.K H p ys/\∀l,H l=none->Q (.ref l) (upd H l (.tup ys)))\/(Ê X.K H p ys/\Q (.ref p) H))):=by
 intro Z7 s σ H xs us Q I r h;obtain⟨p,ys,rfl,h⟩:=h;obtain⟨u,rfl,rx⟩:=ò r;cases rx;rcases h with⟨hq,q⟩|⟨hq,q⟩;.obtain⟨Z8,r',pl,hz⟩:=I.list hq;have hlen:=r'.length;refine call_tuple_list pl.isList (λh' kp=>?_) (by simp only[List.size_toArray]<;>lia);have I1:Ä X Z7 σ H {s with heap:=h'}:=I.kept (t':=s.toks) kp;have I2:Ä X Z7 σ (upd H h'.objs.size (.tup ys)) {s with heap:=h'.push {cls:=.type "tuple",data:=.seq Z8.toArray}}:=I1.laid (t':=s.toks) (λb o e=>ÿ _ e) (Ø _) (⟨hz,Z8,r',IsTup.new _ _⟩);exact⟨.ref h'.objs.size,_,I2,rfl,q _ (I1.hok.fresh (Ø _))⟩
 .obtain⟨Z8,r',pl,hz⟩:=I.tuple hq;exact call_tuple_same pl ⟨.ref p,H,I,rfl,q⟩
def tyV(K:Frag)(T:String)(x:V)(H:Hp):Prop:=match x with|.str _=>T="str"|.int _=>T="int"|.ref p=>(T="list"/\∃xs,É K H p xs)\/(T="tuple"/\∃o,K.lookup p=some o/\o.cls=.type "tuple"/\o.dict=none)\/(T="dict"/\((∃kvs,H p=some (.dK kvs))\/∃kvs,H p=some (.dT kvs)))\/(T="set"/\∃S n,H p=some (.set S n))|_=>False
theorem Jv{σ:St}(I:Ä X Z7 σ H s)(r:Ì x v)(ty:tyV X.K T x H):
 s.TypeIs v T/\∀a,v=.ref a->∃ob,s.heap.get? a=some ob/\ob.dict=none:=by cases x with|str z=>obtain⟨t,rfl⟩:=r;cases(ty);exact⟨typeIs_str s z t,λ_ e=>nomatch e⟩;|int i=>obtain⟨t,rfl⟩:=r;cases(ty);exact⟨typeIs_int s i t,λ_ e=>nomatch e⟩;|ref p=>
  cases r;rcases ty with⟨rfl,xs,hq⟩|⟨rfl,o,hk,hc,hd⟩|⟨rfl,hk⟩|⟨rfl,S,n,hk⟩;.obtain⟨Z8,_,pl,_⟩:=I.list hq;refine⟨pl.isList.typeIs,λa e=>?_⟩;cases e;obtain⟨o,n,e,c,hd,_⟩:=pl;exact⟨o,e,hd⟩
  .refine⟨⟨o,I.kIn p o hk,hc⟩,λa e=>?_⟩;cases e;exact⟨o,I.kIn _ o hk,hd⟩
  .have z:∃o,s.heap.get? p=some o/\o.ExactDict:=by
    rcases hk with⟨kvs,hk⟩|⟨kvs,hk⟩;.obtain⟨_,_,_,_,o,_,_,e,ex,_⟩:=I.hok p _ hk;exact⟨o,e,ex⟩
    .obtain⟨_,_,_,_,o,_,_,e,ex,_⟩:=I.hok p _ hk;exact⟨o,e,ex⟩
   obtain⟨o,e,ex⟩:=z;refine⟨⟨o,e,ex.1⟩,λa e2=>?_⟩;cases e2;exact⟨o,e,ex.2.1⟩
  .obtain⟨o,_,_,_,e,ex,_⟩:=I.hok p _ hk;refine⟨⟨o,e,ex.1⟩,λa e2=>?_⟩;cases e2;exact⟨o,e,ex.2.1⟩;|_=>exact False.elim ty
def tBM(K:Frag)(T:String)(r:V->List V->Hp->VK->Prop)(to:TE)(t:TA):TE:=λσ H Q=>to σ H λx H1=>tyV K T x H1/\t σ H1 λxs H2=>r x xs H2 Q
variable{apos bp:Pos}{T id:String}
theorem gK(pa:PlainAttrs T)(slot:Slot T name id)(RH:typeOf (.builtin id)=pure (.type "method_descriptor"))(hm:MtR X id r)(ho:PE X o to)(ha:PA X (e::es) t)(BY:attributeBase o name X.env (eval o X.env)=eval o X.env:=by rfl)(IE:((backTo bp (starEach (e::es) X.env)).all (λx=>!x.1)&&(backToKw bp (keywordEach [] X.env)).all (λx=>x.1.isSome)&&decide ((e::es).length+([]:List Keyword).length+(if([]:List Keyword).isEmpty then 0 else 1)<30))=true:=by rfl)(hline:(apos.endLine==bp.line)=true:=by rfl)(hs:Qa6 X e es:=by rfl)(IF:Qa7 X bp es:=by rfl):PE X (.Call (.Attribute o name apos) (e::es) [] bp) (tBM X.K T r to t):=by intro Z7 s σ H Q I h;refine wpAny_Call_method_late BY IE hline rfl (Õ (ho Z7 s σ H _ I h) λv s1=>?_);rintro⟨x,H1,I1,r1,ty,q1⟩;obtain⟨h1,h2⟩:=Jv I1 r1 ty;refine⟨T,id,pa,slot,RH,h1,h2,?_⟩;have hA:=ha bp Z7 s1 σ H1 _ I1 q1;rw[hs]at hA⊢;refine Calls.callWith_builtin (by assumption) (Calls.evalArgs_plain ?_);exact Õ hA λus s2=>by rintro⟨vs,H2,I2,r2,q2⟩;exact hm Z7 s2 σ H2 x vs v us Q I2 r1 r2 q2
end
def MtM(X:Cx)(id:String)(r:V->List V->Hp->VK->Prop):Prop:=∀Z7 s(σ:St)H x xs v us Q,Ä X Z7 σ H s->Ì x v->Ë xs us->r x xs H Q->wpAny (model X.prog X.w) X.A (call (.builtin id) (v::us)) (EP X Z7 σ Q) X.xe s
theorem Ë.one:∀{x:V}{us:gV},Ë [x] us->∃u,us=[u]/\Ì x u|_,_,.cons r .nil=>⟨_,rfl,r⟩
theorem Ë.zero:∀{us:gV},Ë [] us->us=[]|_,.nil=>rfl
theorem Ë.rep(h:Ë xs us):∀k,Ë (List.replicate k xs).flatten (List.replicate k us).flatten|0=>.nil|k+1=>by exact Ë.append h (Ë.rep h k)
theorem œ(Z8:gV):∀k acc,List.foldl (λx1 x2=>x1++x2) acc.toArray (List.replicate k Z8.toArray)=(acc++(List.replicate k Z8).flatten).toArray
 |0,acc=>by simp;|k+1,acc=>by
  have e:acc.toArray++Z8.toArray=(acc++Z8).toArray:=by simp
  have e2:(acc++Z8)++(List.replicate k Z8).flatten=acc++(List.replicate (k+1) Z8).flatten:=by rw[List.replicate_succ,List.flatten_cons,į]
  rw[<-e2,<-œ Z8 k (acc++Z8),<-e,List.replicate_succ,List.foldl_cons]
section
variable{σ:St}
theorem Ä.lset{Z8 its':gV}(I:Ä X Z7 σ H s)(hH:H l=some (.lst xs))(e:s.heap.get? l=some {cls:=.type "list",data:=.seq Z8.toArray n})(hf:f Z8.toArray=its'.toArray)(hv:Ë ys its')(hz:ys.length<=sizeLine):Ä X Z7 σ (upd H l (.lst ys)) {s with heap:=s.heap.update l (Obj.mapSeq f),toks:=t'}:=by have q:=PySem.IsL.update e f;rw[hf]at q;refine I.write (x:=l) (e:=l) (by rw[hH];exact trivial) (.inl rfl) (λb' u hb hu=>(Heap.get?_update_other s.heap (Obj.mapSeq f) (Ne.symm hb)).trans hu) ⟨_,q⟩ ?_;exact⟨hz,its',_,hv,q⟩
theorem Ä.lnew(I:Ä X Z7 σ H s)(hv:Ë ys Z8)(hz:ys.length<=sizeLine):Ä X Z7 σ (upd H s.heap.objs.size (.lst ys)) {s with heap:=s.heap.push {cls:=.type "list",data:=.seq Z8.toArray},toks:=t'}:=I.laid (λ_ _ q=>ÿ _ q) (Ø _) ⟨hz,Z8,0,hv,Ħ _ rfl⟩
theorem Ä.fresh(I:Ä X Z7 σ H s):H s.heap.objs.size=none:=I.hok.fresh (Ø _)
theorem Ä.lstM(I:Ä X Z7 σ H s)(hH:H l=some (.lst xs)):xs.length<=sizeLine/\∃(Z8:gV)(n:Nat),Ë xs Z8/\xs.length=Z8.length/\s.heap.get? l=some {cls:=.type "list",data:=.seq Z8.toArray n}:=by obtain⟨z,Z8,n,r,e⟩:=I.hok l _ hH;exact⟨z,Z8,n,r,r.length,e⟩
theorem oH(h:n<=sizeLine):Builtin.List.listTooLong n=false:=by exact Ŋ Z1
end
section
inductive Γ(x:V)(vs:List V)(H:Hp)(Q:VK):Prop|mk:∀l xs y,(x=.ref l)->(vs=[y])->(H l=some (.lst xs))->(xs.length<sizeLine)->(Q .non (upd H l (.lst (xs++[y]))))->Γ  x vs H Q
def Gm:V->List V->Hp->VK->Prop:=λx vs H Q=>Γ  x vs H Q
theorem d9:MtM X "list.append" Gm:=by intro Z7 s σ H x vs v us Q I rx rv h;obtain⟨l,xs,y,rfl,rfl,hH,hz,q⟩:=h;cases rx;obtain⟨u,rfl,ru⟩:=rv.one;obtain⟨z,Z8,n,r,hl,e⟩:=I.lstM hH;refine call_meets F.slot_list_append ⟨_,e,rfl⟩ F.entry_list_append (F.args_list_append_2 _ _) (PySem.list_append l Z8.toArray n u (by rw[Ď];lia)) ⟨e,?_⟩;refine⟨.non,_,I.lset (its':=Z8++[u]) hH e Z2 (r.append (.cons ru .nil)) ?_,rfl,q⟩;rw[ì,List.length_singleton];lia
inductive Α(x:V)(vs:List V)(H:Hp)(Q:VK):Prop|mk:∀l b xs zs,(x=.ref l)->(vs=[.ref b])->(H l=some (.lst xs))->(H b=some (.lst zs))->(xs.length+zs.length<=sizeLine)->(Q .non (upd H l (.lst (xs++zs))))->Α  x vs H Q
def Gn:V->List V->Hp->VK->Prop:=λx vs H Q=>Α  x vs H Q
theorem An:MtM X "list.extend" Gn:=by
 intro Z7 s σ H x vs v us Q I rx rv h;obtain⟨l,b,xs,zs,rfl,rfl,hH,hB,hz,q⟩:=h;cases rx;obtain⟨u,rfl,ru⟩:=rv.one;cases ru;obtain⟨z,Z8,n,r,hl,e⟩:=I.lstM hH;obtain⟨z2,cq,n2,r2,eC,e2⟩:=I.lstM hB;have hsz:Z8.toArray.size+cq.toArray.size<=sizeLine:=by rw[Ď,Ď];lia
 have gT:¬(!Z8.toArray.isEmpty&&Builtin.List.listTooLong (Z8.toArray.size+cq.toArray.size))=true:=by rw[oH hsz,Bool.and_false];exact Ō
 refine call_meets F.slot_list_extend ⟨_,e,rfl⟩ F.entry_list_extend (F.args_list_extend_2 _ _) (AutoSeq1.list_extend_list_list_0 l Z8.toArray n b cq.toArray n2 gT (by rw[Ď];lia) Z1) ⟨e,e2,?_⟩;refine⟨.non,_,I.lset (its':=Z8++cq) hH e Z2 (r.append r2) ?_,rfl,q⟩;rw[ì];lia
inductive Z0j(x:V)(y:V)(H:Hp)(Q:VK):Prop|mk:∀l b xs zs,(x=.ref l)->(y=.ref b)->(H l=some (.lst xs))->(H b=some (.lst zs))->(xs.length+zs.length<=sizeLine)->(∀p,H p=none->Q (.ref p) (upd H p (.lst (xs++zs))))->Z0j  x y H Q
def Nt:R2:=λx y H Q=>Z0j  x y H Q
theorem iM:Ē X (binaryOp .Add) Nt:=by
 intro Z7 s σ H x y v u Q I rx ry h;obtain⟨l,b,xs,zs,rfl,rfl,hH,hB,hz,q⟩:=h;cases rx;cases ry;obtain⟨z,Z8,n,r,hl,e⟩:=I.lstM hH;obtain⟨z2,cq,n2,r2,eC,e2⟩:=I.lstM hB;refine PySem.P.add_list e e2 ?_ (by rw[Ď,Ď];lia);have ea:Z8.toArray++cq.toArray=(Z8++cq).toArray:=by simp
 rw[ea];exact⟨.ref _,_,I.lnew (t':=s.toks) (r.append r2) (by rw[ì];lia),rfl,q _ I.fresh⟩
inductive Z0g(x:V)(y:V)(H:Hp)(Q:VK):Prop|mk:∀l k xs,(x=.ref l)->(y=.int k)->(H l=some (.lst xs))->(-(2^63)<=k)->(k<2^63)->(xs.length*k.toNat<=sizeLine)->(∀p,H p=none->Q (.ref p) (upd H p (.lst (List.replicate k.toNat xs).flatten)))->Z0g  x y H Q
def Nu:R2:=λx y H Q=>Z0g  x y H Q
theorem Z05{α:Type}(xs:List α)(k:Nat):(List.replicate k xs).flatten.length=k*xs.length:=by simp
theorem Jw:Ē X (binaryOp .Mult) Nu:=by
 intro Z7 s σ H x y v u Q I rx ry h;obtain⟨l,k,xs,rfl,rfl,hH,h1,h2,hz,q⟩:=h;cases rx;obtain⟨t,rfl⟩:=ry;obtain⟨z,Z8,n,r,hl,e⟩:=I.lstM hH;have hlen:Z8.toArray.size*k.toNat<=sizeLine:=by rw[Ď,<-hl];exact hz
 have IG:¬Z8.toArray.size*k.toNat>(2^63-1)/8:=by
  have:(sizeLine:Nat)<=(2^63-1)/8:=by decide
  lia
 have IH:¬(!Builtin.List.listFitsIndex k)=true:=by rw[fitsIndex_both h1 h2];exact Ō
 have gT:¬Builtin.List.listTooLong (Z8.toArray.size*k.toNat)=true:=by rw[oH hlen];exact Ō
 have II:List.foldl (λx1 x2=>x1++x2) #[] (List.replicate (if Z8.toArray.isEmpty=true then 0 else k.toNat) Z8.toArray)=(List.replicate k.toNat Z8).flatten.toArray:=by
  have f0:∀m:Nat,List.foldl (λx1 x2=>x1++x2) #[] (List.replicate m Z8.toArray)=(List.replicate m Z8).flatten.toArray:=λm=>by have:=œ Z8 m [];rw[List.nil_append]at this;exact this
  rw[f0];cases Z8 with|nil=>simp;|cons a r'=>rw[Æ Z2]
 refine wpAny_binaryOp_repeat_ref (T:="list") (U:="int") Z3 ⟨_,e,rfl⟩ (λs'=>typeIs_int s' k t) noFill_list_mul F.fills_int_mul F.slot_int_rmul repeat_list F.slot_int_index.lookup (call_meets F.slot_int_rmul (typeIs_int s k t) F.entry_int_rmul (F.args_int_rmul_2 _ _) (int___rmul___int_list k t l Z8.toArray n) ⟨e,rfl,⟨_,e,rfl⟩,call_meets F.slot_list_mul ⟨_,e,rfl⟩ F.entry_list_mul (F.args_list_mul_2 _ _) (AutoListH.list___mul___list_int_3 l Z8.toArray n k t IH IG gT) ⟨e,?_⟩⟩);rw[II];exact⟨.ref _,_,I.lnew (t':=s.toks) (r.rep k.toNat) (by rw[Z05,Nat.mul_comm];exact hz),rfl,q _ I.fresh⟩
end
section
set_option maxRecDepth 100000 in
end
section
end
end L2
namespace Att
open PySem PySem.W PySem.Calls PyProof.Rows
theorem mR:∀(ns:PP)vs,WellAll P h vs (ns.map WData.int)->IntsAre vs ns:=by intro ns;induction ns with|nil=>intro vs w;cases w;exact .nil;|cons n ns ih=>intro vs w;cases w with|cons a b=>cases a;exact .cons _ _ (ih _ b)
theorem Ao{l:OpenLaw}(hn:l.most=some n)(qf:l.row.toRowW.claim.pre args=true)(IJ:WellAll P h vals args):∃a vs ns,vals=[Value.ref a]/\args=[WData.list (ns.map WData.int)]/\h.get? a=some {cls:=.type "list",data:=.seq vs.toArray}/\IntsAre vs ns/\ns.length<=n:=by
 have RI:WShape.hasAll [] args [.list .int]=true:=(pre_splitW qf).1;have hc:l.pre.holds [] {args:=args}=true:=(pre_splitW qf).2;obtain⟨d,r,rfl,h1,h2⟩:=hasAllW_cons RI;obtain rfl:=hasAllW_nil h2;obtain⟨xs,rfl,h3⟩:=hasW_list h1;obtain⟨ns,rfl⟩:=items_int h3;have hlen:ns.length<=n:=by
  unfold OpenLaw.pre at hc;have h4:(WTm.not (.lt (.lit (.int (n:Int))) (.len (.arg 0)))).holds [] {args:=[.list (ns.map .int)]}=true:=by have h4:=(holds_andW hc).1;rw[hn]at h4;exact h4
  have h5:=condW_of h4 (w_not (w_lt w_lit (w_len_list (w_arg rfl))));rw[Ð]at h5;refine Nat.le_of_not_lt λq=>?_;have q':(n:Int)<((ns.length:Nat):Int):=Z1;first|(rw[ñ q']at h5;exact absurd h5 Z3);|(simp at h5;lia)
 cases IJ with|cons w1 w2=>cases w2;cases w1 with|list ho w9=>exact⟨_,_,ns,rfl,rfl,ho,mR ns _ w9,hlen⟩
theorem Aq(l:OpenLaw)(args:List WData):l.row.toRowW.claim.post args (.bool true) args=true:=postW_of (r:=l.row.toRowW) (X:=(true==true)) (show WShape.has [] (.bool true) .bool=true by first|rfl|decide|simp[WShape.has]) (w_eq_bool (w_res rfl) w_lit) rfl
theorem attach_call{l:OpenLaw}(hn:l.most=some n)(xb:d.params.defaults=[])(call:∀w s₀ s₁ mg mb fa o pm cd doc a vs(ns:PP),Ground q loose [] XP w s₀ mg mb s₁.heap->YP w s₁.heap->s₁.heap.get? fa=some o->o.data=.func (docDef d.name d.params d.body d.scope pm cd doc)->s₁.heap.CodeRec cd d.name->mg d.name=some (.ref fa)->s₁.heap.get? a=some {cls:=.type "list",data:=.seq vs.toArray}->IntsAre vs ns->ns.length<=n->s₁.gens=#[]->codeAny (model l.prog w) callerA (.call (.ref fa) ⟨[.ref a],[]⟩) (λr s'=>r=.ok (.ret (.bool true))/\OldK s₁.heap s'.heap/\s'.os=s₁.os/\AllBare s'.gens) s₁):WalkO q loose XP YP l.row.toRowW d [] (λf vs=>PySem.call f vs):=by intro w s₀ s₁ mg mb G Y fa o pm cd doc dV kV ho hd eB hD hmg hg args vals as qf RJ E9 IJ sM;obtain rfl:dV=.none:=Dflts.none hD xb;obtain rfl:kV=.none:=Dflts.noKw hD;obtain⟨a,vs,ns,rfl,rfl,xh,hints,hlen⟩:=Ao hn qf IJ;refine enter_call (codeAny_mono (call w s₀ s₁ mg mb fa o pm cd doc a vs ns G Y ho (fd_plain hd) eB hmg xh hints hlen hg) λr s' hq=>?_);obtain⟨rfl,h2,h3,h4⟩:=hq;exact⟨.inl ⟨.bool true,.bool true,[],rfl,λ_=>rfl,.bool true,Aq l _,λ_=>⟨List.Pairwise.nil,λ_ hm=>(nomatch hm)⟩⟩,h2,h3,h4⟩
section
end
end Att
namespace L2
open PySem PySem.Spec PyProof.Rows
theorem lG:∀{vs:gV}{ns:PP},IntsAre vs ns->Ë (ns.map V.int) vs|_,_,.nil=>.nil|_,_,.cons n t h=>.cons ⟨t,rfl⟩ (lG h)
def gm(s:Stmt):Arguments:=match s with|.FunctionDef _ a _ _ _ _ _ _ _ _=>a|_=>{posonlyargs:=[],args:=[],vararg:=none,kwonlyargs:=[],kw_defaults:=[],kwarg:=none,defaults:=[]}
def cJ(s:Stmt):List Stmt:=match s with|.FunctionDef _ _ b _ _ _ _ _ _ _=>b|_=>[]
def aD(s:Stmt):Scope:=match s with|.FunctionDef _ _ _ _ _ _ sc _ _ _=>sc|_=>{kind:=.function,names:=[],isGenerator:=false,isCoroutine:=false}
abbrev Ý:CXT:=λ_ _ _ _ _ _=>False
abbrev E0:XK:=λ_ _ _=>False
theorem Lh:rY Ý X E0:=λ_ _ _ _ _ _ _ h=>h.elim
structure Û(K:Frag)(x qual:Str)(st:Stmt)(f:Addr)(fd:FuncData):Prop where
 ex:∃oc od kV doc pm an ai ct kS,fd=PySem.W.fnOf x qual (gm st) (cJ st) (aD st) .none kV doc pm an ai ct/\K.lookup f=some ⟨oc,od,.func fd,kS⟩/\PySem.W.codeIn K ai qual=true
 kp:PySem.W.keepIn K (.ref f)=true
section
variable{K:Frag}
theorem Û.ok{st:Stmt}(F:Û K x qual st f fd)(S:Á N ps (aD st))(len:∀vs H Q E,sp vs H Q E->vs.length=ps.length)(aI:∀ai A outer s H vs Q E,ä k (A.deeper (envOfC qual (aD st) s.heap.objs.size f ai))->sp vs H Q E->∃t,Ĵ (iJ Ý P w K mg base N qual (aD st) f ai A outer s H E).nox (cJ st) t/\t {nx:=λ_ H'=>Q .non H',rt:=Q} (start N vs) H):Í P w K mg base Ý (k+1) f fd ps sp:=by obtain⟨oc,od,kV,doc,pm,an,ai,ct,kS,rfl,lk,eB⟩:=F.ex;refine CT lk eB S len λA outer s H vs Q E hr gS=>?_;obtain⟨t,h,q⟩:=aI ai A outer s H vs Q E hr gS;exact⟨t,h.nox,q⟩
structure ψ(sp:Sp)(ps:ç):Prop where h:∀vs H Q E,sp vs H Q E->vs.length=ps.length:=by intro _ _ _ _ h;first|(cases h;subst_vars;rfl)|(repeat(first|(subst_vars;rfl)|obtain⟨_,h⟩:=h))
theorem Û.oq{st:Stmt}(F:Û K x qual st f fd)(S:Á N ps (aD st))(aI:∀ai A outer s H vs Q E,ä k (A.deeper (envOfC qual (aD st) s.heap.objs.size f ai))->sp vs H Q E->∃t,Ĵ (iJ Ý P w K mg base N qual (aD st) f ai A outer s H E).nox (cJ st) t/\t {nx:=λ_ H'=>Q .non H',rt:=Q} (start N vs) H)(len:ψ sp ps:=by exact{}):Í P w K mg base Ý (k+1) f fd ps sp:=F.ok S len.h aI
theorem Û.binds{st:Stmt}(F:Û K x qual st f fd)(h:∀kV doc pm an ai ct us,us.length=ps.length->bindArgs (PySem.W.fnOf x qual (gm st) (cJ st) (aD st) .none kV doc pm an ai ct) ⟨us,[]⟩=pure (ps.zip us)):ï K fd ps []:=by obtain⟨oc,od,kV,doc,pm,an,ai,ct,kS,rfl,lk,eB⟩:=F.ex;exact .all (h kV doc pm an ai ct)
theorem CW{st:Stmt}{kV doc pm ai ct:Value}(l:K.lookup f=some ⟨oc,od,.func (PySem.W.fnOf x qual (gm st) (cJ st) (aD st) .none kV doc pm an ai ct),kS⟩)(c:PySem.W.codeIn K ai qual=true)(k:PySem.W.keepIn K (.ref f)=true):Û K x qual st f (PySem.W.fnOf x qual (gm st) (cJ st) (aD st) .none kV doc pm an ai ct):=⟨⟨oc,od,kV,doc,pm,an,ai,ct,kS,rfl,l,c⟩,k⟩
end
theorem eO(hr:ä k A):A.units+1<cLine:=Nat.lt_of_le_of_lt (Nat.add_le_add_left (by decide:1<=64) _) hr.units
section
variable{X:Cx}
theorem pv(i:Nat){pos:Pos}(hN:X.N[i]?=some x:=by rfl)(hv:Vis X.env.scope x:=by first|exact Or.inl rfl|exact Or.inr (Or.inl rfl)|exact Or.inr (Or.inr rfl))(hd:ū x:=by decide)(eB:(x==("__classdict__":Str))=false:=by decide):PE X (.Name x pos) (uw i):=wA hN hv hd eB
end
theorem bH{A B:Prop}(h:B):if false=true then A else B:=by exact h
theorem cg{A B:Prop}(h:A):if true=true then A else B:=by exact h
theorem mU{c A B:Prop}[Decidable c](h1:c->A)(h2:¬c->B):if c then A else B:=by
 by_cases h:c;.rw[È h];exact h1 h
 .rw[Æ h];exact h2 h
def À(H H':Hp):Prop:=∀b o,H b=some o->H' b=some o
theorem À.refl(H:Hp):À H H:=λ_ _ h=>h
theorem À.trans(a:À H H1)(b:À H1 H2):À H H2:=λc o h=>b c o (a c o h)
theorem À.free(e:À H H')(h:H' l=Option.none):H l=Option.none:=by cases q:H l with|none=>rfl;|some o=>rw[e l o q]at h;cases h
def cQ(cells:List (Str×Addr)):List (Str×NameKind)->List (Str×Addr)->List (Str×Addr)|[],acc=>acc|(n,k)::r,acc=>cQ cells r (if k=.free then(n,(cells.lookup n).getD 0)::acc else acc)
theorem qJ:∀l acc,(∀p∈l,p.2=NameKind.free->(env.cells.lookup p.1).isSome=true)->(forIn l acc λx r=>(if(x.2==NameKind.free)=true then do let a<-cellOf env x.1;pure (ForInStep.yield ((x.1,a)::r))else pure (ForInStep.yield r):Sem (ForInStep (List (Str×Addr)))))=pure (cQ env.cells l acc)
 |[],acc,_=>rfl|(n,k)::r,acc,h=>by
  rw[List.forIn_cons];have ih:=λa=>qJ (env:=env) r a λp hp=>h p (Zaj _ hp);by_cases hk:k=.free
  .subst hk;have hs:=h (n,.free) Zap rfl;obtain⟨c,hc⟩:=Zau.mp hs;have e1:cellOf env n=pure c:=by unfold cellOf;rw[show env.cells.lookup n=some c from hc]
   have e2:cQ env.cells ((n,.free)::r) acc=cQ env.cells r ((n,c)::acc):=by show cQ env.cells r (if NameKind.free=NameKind.free then(n,(env.cells.lookup n).getD 0)::acc else acc)=_;rw[È rfl,show env.cells.lookup n=some c from hc];rfl
   rw[e2];simp only[beq_self_eq_true,if_true,e1,pure_bind];exact ih _
  .have hb:(k==NameKind.free)=false:=by simpa using hk
   have e2:cQ env.cells ((n,k)::r) acc=cQ env.cells r acc:=by show cQ env.cells r (if k=NameKind.free then _ else acc)=_;rw[Æ hk]
   rw[e2];simp only[hb,Bool.false_eq_true,if_false,pure_bind];exact ih _
theorem nj(h:∀p∈scope.names,p.2=NameKind.free->(env.cells.lookup p.1).isSome=true):closureFor scope env=pure (cQ env.cells scope.names []):=by have e:=qJ (env:=env) scope.names [] h;unfold closureFor;simp only[bind_pure];exact e
theorem iQ:∀l acc,(∀p∈l,p.2=NameKind.free->(cells.lookup p.1).isSome=true)->(cQ cells l acc).lookup x=some c->acc.lookup x=some c\/cells.lookup x=some c
 |[],_,_,h=>.inl h|(n,k)::r,acc,hf,h=>by
  have h':(cQ cells r (if k=.free then(n,(cells.lookup n).getD 0)::acc else acc)).lookup x=some c:=h;rcases iQ r _ (λp hp=>hf p (Zaj _ hp)) h' with e|e
  .by_cases hk:k=.free
   .rw[È hk]at e;obtain⟨d,hd⟩:=Zau.mp (hf (n,k) Zap hk);rw[show cells.lookup n=some d from hd]at e;rw[Zbe]at e
    cases hx:x==n with|true=>
     rw[hx]at e;have:x=n:=by simpa using hx
     subst this;exact .inr (hd.trans (by simpa using e));|false=>rw[hx]at e;exact .inl e
   .rw[Æ hk]at e;exact .inl e
  .exact .inr e
theorem jM:∀l acc,((∃k,(x,k)∈l/\k=NameKind.free)\/(∃c,acc.lookup x=some c))->∃c,(cQ cells l acc).lookup x=some c
 |[],_,h=>by
  rcases h with⟨k,hk,_⟩|h;.exact absurd hk Z2
  .exact h;|(n,k)::r,acc,h=>by
  show∃c,(cQ cells r (if k=.free then(n,(cells.lookup n).getD 0)::acc else acc)).lookup x=some c;refine jM r _ ?_;rcases h with⟨k',hk,e⟩|⟨c,hc⟩
  .rcases Ġ.mp hk with z|z;.cases z;refine .inr ?_;rw[È e];exact⟨_,by rw[Zbe,beq_self_eq_true]⟩
   .exact .inl ⟨k',z,e⟩
  .refine .inr ?_;by_cases hk:k=.free;.rw[È hk,Zbe];cases hx:x==n with|true=>exact⟨_,rfl⟩;|false=>exact⟨c,hc⟩
   .rw[Æ hk];exact⟨c,hc⟩
theorem mG(hc:∀p∈scope.names,p.2≠NameKind.cell)(h:(relabel scope env).names.lookup x=some k)(hk:k=.cell\/k=.free):∃k',(x,k')∈scope.names/\k'=NameKind.free:=by
 have m:=PySem.mem_of_lookup h;obtain⟨⟨n,k0⟩,hm,e⟩:=è.mp m;dsimp only at e;split at e
 .rename_i c;cases e;have:(k0==NameKind.free)=true:=by cases q:(k0==NameKind.free)with|true=>rfl;|false=>rw[q]at c;simp at c
  exact⟨k0,hm,by simpa using this⟩
 .cases e;rcases hk with z|z;.exact absurd z (hc _ hm)
  .exact⟨_,hm,z⟩
def Ρ(X:Cx)(scope:Scope)(Nc:ç)(C:Addr)(fp:þ)(Z7:Yq)(s₂:Shared)(Ï:Hp):Cx where prog:=X.prog;w:=X.w;K:=X.K;mg:=X.mg;base:=X.base;A:=X.A;N:=Nc;s₀:=s₂;H₀:=Ï;env:=compEnvC scope (cQ X.env.cells scope.names []) C X.env;outer:=X.stack;stack:=X.stack;ex:=fp;fn:=λ_=>false;calm:=X.calm;pn:=X.pn++Z7;xe:=λ_ _=>False
def Ċ(X:Cx)(bq:Env):ç->List (Option Nat)->Prop|[],[]=>True|_::N,none::r=>Ċ X bq N r|x::N,some i::r=>(X.N[i]?=some x/\(X.env.kindOf x=some .cell\/X.env.kindOf x=some .free)/\bq.cells.lookup x=X.env.cells.lookup x/\(bq.kindOf x=some .cell\/bq.kindOf x=some .free))/\Ċ X bq N r|_,_=>False
def Ĳ(σ:St)(src:List (Option Nat)):St:=src.map λo=>match o with|none=>none|some i=>(σ[i]?).join
theorem Ċ.len:∀{N:ç}{src:List (Option Nat)},Ċ X bq N src->src.length=N.length|[],[],_=>rfl|[],_::_,h=>h.elim|_::_,[],h=>h.elim|_::N,none::r,h=>by have h':Ċ X bq N r:=h;have:=Ċ.len (N:=N) (src:=r) h';simp[this];|_::N,some _::r,h=>by have:=Ċ.len (N:=N) (src:=r) h.2;simp[this]
theorem Ċ.get:∀{N:ç}{src:List (Option Nat)}{j i:Nat},Ċ X bq N src->N[j]?=some x->src[j]?=some (some i)->X.N[i]?=some x/\(X.env.kindOf x=some .cell\/X.env.kindOf x=some .free)/\bq.cells.lookup x=X.env.cells.lookup x/\(bq.kindOf x=some .cell\/bq.kindOf x=some .free)|[],[],_,_,_,e,_=>by simp at e;|[],_::_,_,_,h,_,_=>h.elim|_::_,[],_,_,h,_,_=>h.elim|_::_,none::_,0,_,_,_,e=>by simp at e;|_::N,none::r,j+1,_,h,e1,e2=>by have h':Ċ X bq N r:=h;exact Ċ.get (N:=N) (src:=r) (j:=j) h' (by simpa using e1) (by simpa using e2);|_::_,some _::_,0,_,h,e1,e2=>by simp at e1 e2;subst e1 e2;exact h.1;|_::_,some _::_,j+1,_,h,e1,e2=>Ċ.get (j:=j) h.2 (by simpa using e1) (by simpa using e2)
structure Ą(X:Cx)(scope:Scope):Prop where
 kind:scope.kind=.function
 cell:scope.names.all (λp=>p.2 !=.cell)=true
 names:scope.names.all (λp=>p.2 !=.local||scope.names.lookup p.1==some .local)=true
 free:scope.names.all (λp=>p.2 !=.free||(X.env.cells.lookup p.1).isSome)=true
section
theorem Ą.hcell(S:Ą X scope):∀p∈scope.names,p.2≠NameKind.cell:=λp hp=>by have:=Ő.mp S.cell p hp;simpa using this
theorem Ą.hnames(S:Ą X scope):∀p∈scope.names,p.2=.local->scope.names.lookup p.1=some .local:=λp hp e=>by have:=Ő.mp S.names p hp;simpa[e]using this
theorem Ą.hfree(S:Ą X scope):∀p∈scope.names,p.2=NameKind.free->(X.env.cells.lookup p.1).isSome=true:=λp hp e=>by have:=Ő.mp S.free p hp;simpa[e]using this
end
def PTs(X:Cx)(ifs:ϲ)(t:TT):Prop:=∀Z7 s(σ:St)H Q,Ä X Z7 σ H s->t σ H Q->wpAny (model X.prog X.w) X.A (forIn ifs true λc r=>if r=true then do let ok<-isTrue c X.env (eval c X.env);pure (ForInStep.yield ok)else pure (ForInStep.yield r)) (TP X Z7 σ Q) X.xe s
def uF:TT:=λ_ H Q=>Q true H
theorem bR:PTs X [] uF:=λ_ _ _ H _ I h=>wpAny_tests_nil ⟨H,I,h⟩
theorem fD(h:PT X c t):PTs X [c] t:=λZ7 s σ H Q I q=>wpAny_tests_one (h Z7 s σ H Q I q)
theorem Gp(I:Nat->Shared->Prop)(turn:∀n s,I n s->wpAny (model prog w) A (pyNext it) (λr s₁=>match r with|none=>R (.ok .next) s₁|some v=>wpAny (model prog w) A (letOwnedTupleGo target it v) (λ_ sN=>wpAny (model prog w) A (assign target env v) (λ_ s₂=>wpAny (model prog w) A (forIn ifs true λc r=>if r=true then do let ok<-isTrue c env (eval c env);pure (ForInStep.yield ok)else pure (ForInStep.yield r)) (λok s₃=>if ok=true then wpAny (model prog w) A (eval elt env) (λx kB=>wpAny (model prog w) A (call (.builtin "list.append") [acc,x]) (λ_ B0=>∃m,m<n/\I m B0) (λ_ _=>False) kB) (λ_ _=>False) s₃ else∃m,m<n/\I m s₃) (λ_ _=>False) s₂) (λ_ _=>False) sN) (λ_ _=>False) s₁) (λ_ _=>False) s)(n:Nat)(h:I n s):codeAny (model prog w) A (.compLoop (.ListComp elt [⟨target,iter,ifs,0⟩] scope pos) 0 it acc env) R s:=by refine codeAny_loop rfl I (λn s hI=>?_) n h;show wpAny _ A ((compTurn (.ListComp elt [⟨target,iter,ifs,0⟩] scope pos) 0 it acc env).onRaise (λx=>do noteFrame x env;theTreesLotGoes x)) _ _ s;refine wpAny_noted ?_;rw[compTurn_list];refine Â (wpAny_standAt (Â (wpAny_mono (turn n s hI) (λr s₁ h₁=>?_) λ_ _ h'=>h'.elim)));cases r with|none=>exact Ô h₁;|some v=>refine Â (wpAny_mono h₁ (λ_ sN Cb=>?_) λ_ _ h'=>h'.elim);refine Â (wpAny_mono Cb (λ_ s₂ iq=>Â (wpAny_mono iq (λok s₃ qh=>?_) λ_ _ h'=>h'.elim)) λ_ _ h'=>h'.elim);cases ok with|false=>exact Ô ⟨rfl,qh⟩;|true=>exact Â (Â (wpAny_mono qh (λx kB IL=>Â (wpAny_mono IL (λ_ B0 IM=>Ô (Ô ⟨rfl,IM⟩)) λ_ _ h'=>h'.elim)) λ_ _ h'=>h'.elim))
def jN(J:It)(g:TG)(tt:TT)(te:TE)(Fin:List V->Hp->Prop)(dP:St)(H0:Hp):Prop:=∃W:Nat->Nat->List V->St->Hp->Prop,(∃m,W 0 m [] dP H0)/\∀i m ys σ H,W i m ys σ H->ys.length<sizeLine/\((J.stop i H/\Fin ys H)\/(J.go i H/\∀x H',J.yld i H x H'->g x σ H' λbo H2=>tt bo H2 λb H3=>if b=true then te bo H3 λy H4=>∃m',m'<m/\W (i+1) m' (ys++[y]) bo H4 else∃m',m'<m/\W (i+1) m' ys bo H3))
abbrev TM:=List V->St->Hp->(List V->St->Hp->Prop)->Prop
abbrev wO(us:gV)(k:Nat):Obj:={cls:=.type "list",data:=.seq us.toArray k}
def ω(X:Cx)(D:Addr):Prop:=D≠X.env.locals/\D∉X.fs/\X.s₀.heap.objs.size<=D/\(∀x c,X.env.cells.lookup x=some c->c≠D)/\∀p∈X.pn,p.1≠D
structure Fil(X:Cx)(Z7:Yq)(D:Addr)(σ:St)(H:Hp)(s:Shared)(ys:List V):Prop where
 inv:Ä X Z7 σ H s
 nD:H D=none
 np:∀p∈Z7,p.1≠D
 obj:∃us k,s.heap.get? D=some (wO us k)/\Ë ys us
def PM(X:Cx)(D:Addr)(M:Sem Fin->Sem Fin)(tm:TM):Prop:=∀Z7 s σ H Q ys,Fil X Z7 D σ H s ys->ys.length<sizeLine->tm ys σ H Q->∀c R E,(∀s' cE af H',Fil X Z7 D af H' s' cE->Q cE af H'->wpAny (model X.prog X.w) X.A c R E s')->wpAny (model X.prog X.w) X.A (M c) R E s
def tmE(te:TE):TM:=λys σ H Q=>te σ H λy H'=>Q (ys++[y]) σ H'
def Gq(elt:Expr)(D:Addr)(env:Env):Sem Fin->Sem Fin:=λc=>(do let _<-call (.builtin "list.append") [.ref D,<-eval elt env])>>=λ_=>c
theorem thx{Q Q':α->Shared->Prop}(h:wpAny M A t Q (λ_ _=>False) s)(hQ:∀a s,Q a s->Q' a s):wpAny M A t Q' E s:=wpAny_mono h hQ λ_ _ x=>x.elim
theorem Jx(ap:ω X D)(hx:X.xe=λ_ _=>False)(he:PE X elt te):PM X D (Gq elt D X.env) (tmE te):=by
 intro Z7 s σ H Q ys F hsz h c R E hc;obtain⟨I,nD,np,us,k,oD,rv⟩:=F;obtain⟨a1,a2,a3,a4,a5⟩:=ap;have I':Ä X (Z7++[(D,wO us k)]) σ H s:=I.pins_of λp hp=>(ē.mp hp).elim (λz=>I.pin p (ň _ z)) λz=>by rw[Ū.mp z];exact⟨oD,nD,a1,a2,λv z=>by cases z⟩
 have Fc:=he _ s σ H _ I' h;rw[hx]at Fc;refine Â (Â (thx Fc λxv s8=>?_));rintro⟨y,H8,I8,r8,q8⟩;have pD:=I8.pin (D,wO us k) (ň _ (ň _ (Ū.mpr rfl)));refine Â (append_at (hsz:=by rw[Ď,<-rv.length];exact Za9 hsz) pD.1 λh9 RK RL=>Ô ?_);refine hc _ _ _ _ ⟨I8.unpinned.turned (t':=s8.toks) (λb o hb e=>RK.extBut b o hb e) pD.2.1 a1 (.inr a3) a4 λp hp=>?_,pD.2.1,np,us++[xv],k+1,?_,rv.append (.cons r8 .nil)⟩ q8;.exact(ē.mp hp).elim (a5 p) (np p)
 .show h9.get? D=_;rw[RL,List.push_toArray]
def Iu(J:It)(g:TG)(tt:TT)(tm:TM)(Fin:List V->St->Hp->Prop)(RM:List V)(dP:St)(H0:Hp):Prop:=∃W:Nat->Nat->List V->St->Hp->Prop,(∃m,W 0 m RM dP H0)/\∀i m ys σ H,W i m ys σ H->ys.length<sizeLine/\((J.stop i H/\Fin ys σ H)\/(J.go i H/\∀x H',J.yld i H x H'->g x σ H' λbo H2=>tt bo H2 λb H3=>if b=true then tm ys bo H3 λcE af H4=>∃m',m'<m/\W (i+1) m' cE af H4 else∃m',m'<m/\W (i+1) m' ys bo H3))
def yC(tg:Expr)(ifs:ϲ)(p:Pos)(it:Value)(env:Env)(M:Sem Fin->Sem Fin)(c:Sem Fin):Sem Fin:=do standAt p match<-pyNext it with
 |none=>pure (.done .next)|some v=>
  letOwnedTupleGo tg it v
  assign tg env v let ok<-forIn ifs true λc r=>if r=true then do let ok<-isTrue c env (eval c env);pure (ForInStep.yield ok)else pure (ForInStep.yield r)if ok=true then M c else c
theorem Li(hc:X.calm=true)(hx:X.xe=λ_ _=>False)(ap:ω X D)(ht:compTurn (.ListComp elt gens scope pos) d (.ref it) (.ref D) X.env=yC tg ifs p (.ref it) X.env M (again (.compLoop (.ListComp elt gens scope pos) d (.ref it) (.ref D) X.env)))(hg:PG X tg g)(mf:PTs X ifs tt)(hm:PM X D M tm)(F:Fil X Z7 D σ H s ys)(T:Ł X.prog X.w X.K tg J fp it tn)(st:tn 0 s.heap)(hf:∀b∈fp,lC X Z7 H b/\b≠D)(hW:Iu J g tt tm Q ys σ H)(hR:∀s' cE af H',Fil X Z7 D af H' s' cE->cE.length<sizeLine->Q cE af H'->R (.ok .next) s'):codeAny (model X.prog X.w) X.A (.compLoop (.ListComp elt gens scope pos) d (.ref it) (.ref D) X.env) R s:=by
 obtain⟨W,⟨m0,w0⟩,step⟩:=hW;refine codeAny_loop rfl (λn s'=>∃i ys af H',Fil X Z7 D af H' s' ys/\tn i s'.heap/\(∀b∈fp,H' b=none)/\W i n ys af H') (λn s3 hI=>?_) m0 ⟨0,ys,σ,H,F,st,λb hb=>(hf b hb).1.1,w0⟩;obtain⟨i,ys,fN,H3,⟨I3,qo,np,us,k,RN,Cc⟩,ja,BN,w3⟩:=hI;show wpAny _ _ ((compTurn (.ListComp elt gens scope pos) d (.ref it) (.ref D) X.env).onRaise (λx=>do noteFrame x X.env;theTreesLotGoes x)) _ _ s3;refine wpAny_noted ?_;rw[ht];obtain⟨a1,a2,a3,a4,a5⟩:=ap;obtain⟨hsz,xi⟩:=step i n ys fN H3 w3;have NN:Ä X (Z7++[(D,wO us k)]) fN H3 s3:=I3.pins_of λp hp=>(ē.mp hp).elim (λz=>I3.pin p (ň _ z)) λz=>by rw[Ū.mp z];exact⟨RN,qo,a1,a2,λv z=>by cases z⟩
 have Cf:∀{H':Hp},(∀b∈fp,H' b=none)->∀b∈fp,lC X (Z7++[(D,wO us k)]) H' b:=λ{H'}hn b hb=>by
  obtain⟨⟨_,f1,f2,f3,f4,f5⟩,f6⟩:=hf b hb;refine⟨hn b hb,f1,f2,f3,f4,λq hq=>?_⟩;rw[<-į]at hq;rcases ē.mp hq with z|z;.exact f5 q z
  .rw[Ū.mp z];exact f6.symm
 refine Â (wpAny_standAt (Â ?_));rcases xi with⟨stop,fin⟩|⟨go,turn⟩;.refine thx (T.done X rfl rfl rfl hc i _ s3 fN H3 (λ_ _=>False) NN (Cf BN) ja stop) λr s4=>?_;rintro⟨hr,I4⟩;subst hr;have pD:=I4.pin (D,wO us k) (ň _ (ň _ (Ū.mpr rfl)));exact Ô (hR s4 ys fN H3 ⟨I4.unpinned,qo,np,us,k,pD.1,Cc⟩ hsz fin)
 .refine thx (T.item X rfl rfl rfl hc i _ s3 fN H3 (λ_ _=>False) NN (Cf BN) ja go) λr s4=>?_;rintro⟨u,hr,h4⟩;subst hr;refine Â (thx h4 λ_ s5=>?_);rintro⟨x,H5,I5,r5,y5,wo,Iq⟩;have Iy:=I5.pinned (Cf Iq) (T.obj _ _ wo);have NO:=hg _ s5 fN H5 x u _ Iy r5 (turn x H5 y5);rw[hx]at NO;refine Â (thx NO λ_ s6=>?_);rintro⟨AF,H6,I6,q6⟩;have ij:=mf _ s6 AF H6 _ I6 q6;rw[hx]at ij;refine Â (thx ij λokb s7=>?_);rintro⟨H7,I7,q7⟩;have pD:=I7.pin (D,wO us k) (ň _ (Zav _ (ň _ (Ū.mpr rfl))));have NS:Ä X (Z7++dI fp s5.heap) AF H7 s7:=I7.pins_of λq hq=>(ē.mp hq).elim (λz=>I7.pin q (ň _ (Zav _ (Zav _ z)))) λz=>I7.pin q (ň _ (ň _ z));have NU:∀q∈Z7++dI fp s5.heap,q.1≠D:=λq hq=>(ē.mp hq).elim (np q) λz=>(hf _ (lD z).1).2;have back:∀{H8:Hp}{s8:Shared}{Cn:St}{Co:List V},Fil X (Z7++dI fp s5.heap) D Cn H8 s8 Co->Fil X Z7 D Cn H8 s8 Co/\tn (i+1) s8.heap/\∀b∈fp,H8 b=none:=λ{H8 s8 Cn Co}F8=>by obtain⟨I8,n8,_,o8⟩:=F8;have pf:∀b∈fp,∀o,s5.heap.get? b=some o->s8.heap.get? b=some o:=λb hb o e=>(I8.pin (b,o) (ň _ (ň _ (ik hb e)))).1;refine⟨⟨I8.unpinned,n8,np,o8⟩,T.keep _ _ _ wo pf,λb hb=>?_⟩;obtain⟨o,e,_⟩:=T.obj _ _ wo b hb;exact(I8.pin (b,o) (ň _ (ň _ (ik hb e)))).2.1
  cases okb with|false=>obtain⟨m',AH,w7⟩:=q7;obtain⟨b1,b2,b3⟩:=back ⟨NS,pD.2.1,NU,us,k,pD.1,Cc⟩;exact Ô ⟨rfl,m',AH,i+1,ys,AF,H7,b1,b2,b3,w7⟩;|true=>refine hm _ s7 AF H7 _ ys ⟨NS,pD.2.1,NU,us,k,pD.1,Cc⟩ hsz q7 _ _ _ λs8 Co Cn H8 F8 q8=>?_;obtain⟨m',AH,w8⟩:=q8;obtain⟨b1,b2,b3⟩:=back F8;exact Ô ⟨rfl,m',AH,i+1,Co,Cn,H8,b1,b2,b3,w8⟩
theorem CZ(hd:gens[d]?=some c)(ha:c.is_async=0)(h0:codeAny (model prog w) A (.compLoop (.ListComp elt gens scope pos) d it acc env) R s)(h:wpAny (model prog w) A (pyIter it) (λNV s'=>codeAny (model prog w) A (.compLoop (.ListComp elt gens scope pos) d NV acc env) R s') (λ_ _=>False) s):codeAny (model prog w) A (.compStart (.ListComp elt gens scope pos) d it acc env) R s:=by
 refine codeAny_of_tree ?_;show wpAny _ _ ((compStart (.ListComp elt gens scope pos) d it acc env).onRaise (λx=>do noteFrame x env;standAt theWindowsPlace)) _ _ s;refine wpAny_notedAt ?_;have e:(clausesOf (.ListComp elt gens scope pos))[d]?=some c:=hd;unfold compStart;rw[e];have e2:(Option.elim (some c) false λx=>x.is_async !=0)=false:=by show(c.is_async !=0)=false;rw[ha];rfl
 rw[e2];show wpAny _ _ (ask>>=_) _ _ s;refine Â (wpAny_askSetting (wpAny_ite ?_));split;.exact Ô (And.intro rfl h0)
 .refine Â (wpAny_rule (Â (wpAny_standAt (Â (thx h λNV s' h'=>Ô (And.intro rfl h'))))))
section
theorem Ar(hg:gens[d]?=some ⟨tg,iter,ifs,0⟩)(hn:gens[d+1]?=none):compTurn (.ListComp elt gens scope pos) d it (.ref D) env=yC tg ifs iter.pos it env (Gq elt D env) (again (.compLoop (.ListComp elt gens scope pos) d it (.ref D) env)):=by unfold compTurn yC Gq;simp only[hg,hn];rfl
end
theorem wQ{M:Addr->Env->Sem Fin->Sem Fin}(hc:X.calm=true)(S:Ą X scope)(hd:gens[0]?=some ⟨tg,iter,ifs,0⟩)(Ct:∀it D env,compTurn (.ListComp elt gens scope pos) 0 (.ref it) (.ref D) env=yC tg ifs p (.ref it) env (M D env) (again (.compLoop (.ListComp elt gens scope pos) 0 (.ref it) (.ref D) env)))(de:∀C,Ċ X (compEnvC scope (cQ X.env.cells scope.names []) C X.env) Nc src)(hb:∀C fp Z7 s₂ Ï,PG (Ρ X scope Nc C fp Z7 s₂ Ï) tg g/\PTs (Ρ X scope Nc C fp Z7 s₂ Ï) ifs tt/\∀D,ω (Ρ X scope Nc C fp Z7 s₂ Ï) D->PM (Ρ X scope Nc C fp Z7 s₂ Ï) D (M D (Ρ X scope Nc C fp Z7 s₂ Ï).env) tm){σ:St}{fp:þ}{tn:Nat->Heap->Prop}{J:It}(ax:Ä X Z7 σ Ï s₂)(T:Ł X.prog X.w X.K tg J fp it tn)(st:tn 0 s₂.heap)(hf:∀b∈fp,lC X Z7 Ï b){Fin:List V->Hp->Prop}(hW:Iu J g tt tm (λys _ H=>Fin ys H) [] (Ĳ σ src) Ï){RR:Value->Addr->Result->Shared->Prop}{E:RC}(IP:∀D C s' ys H' m,Fin ys H'->H' D=none->Ä X Z7 σ (upd H' D (.lst ys)) s'->s'.heap.Ns C m->lC X Z7 (upd H' D (.lst ys)) C->RR (.ref D) C (.ok .next) s'):wpAny (model X.prog X.w) X.A (newList []) (λacc s₃=>wpAny (model X.prog X.w) X.A (newFunctionEnv scope X.env.globals (cQ X.env.cells scope.names []) [] X.env.qual none .none (some X.env)) (λmh kB=>codeAny (model X.prog X.w) X.A (.compStart (.ListComp elt gens scope pos) 0 (.ref it) acc {mh with scope:=relabel scope X.env}) (RR acc mh.locals) kB) E s₃) E s₂:=by
 refine ϖ (wpAny_newFunctionEnv S.hcell (by intro y hy;simp at hy) (λh₁ eI cS=>?_) S.kind);dsimp only at eI cS⊢;generalize IQ:s₂.heap.push {cls:=.type "list",dict:=none,data:=.seq ([]:gV).toArray}=HH at eI cS⊢;generalize sQ:s₂.heap.objs.size=D at eI cS⊢;have hC:HH.objs.size=D+1:=by rw[<-IQ,Heap.size_push,sQ]
 generalize Yt:HH.objs.size=C at eI cS hC⊢;have IS:D≠C:=Z1;have below:∀b,b<s₂.heap.objs.size->b≠C/\b≠D:=λb hb=>by rw[sQ]at hb;exact⟨by rw[hC];exact ę (Nat.lt_succ_of_lt hb),ę hb⟩
 have br:∀{b o},s₂.heap.get? b=some o->b≠C/\b≠D:=λ{b o}e=>below b (ö e);have old:∀b o,s₂.heap.get? b=some o->h₁.get? b=some o:=λb o e=>cS.extBut b o (br e).1 (ÿ _ (IQ▸ÿ _ e));have IT:h₁.get? D=some {cls:=.type "list",data:=.seq ([]:gV).toArray}:=cS.extBut _ _ IS (ÿ _ (IQ▸sQ▸Ħ _ rfl));have RP:∀b∈fp,∃o,s₂.heap.get? b=some o:=λb hb=>by obtain⟨o,e,_⟩:=T.obj _ _ st b hb;exact⟨o,e⟩
 have Fh:∀b∈fp,b≠C/\b≠D:=λb hb=>by obtain⟨o,e⟩:=RP b hb;exact br e
 have sub:∀{x c},(cQ X.env.cells scope.names []).lookup x=some c->X.env.cells.lookup x=some c:=λ{x c}e=>by
  rcases iQ scope.names [] S.hfree e with z|z;.simp at z
  .exact z
 have RQ:∀{b o},s₂.heap.get? b=some o->b<D:=λ{b o}e=>by rw[<-sQ];exact ö e
 have fresh:∀a,D<=a->Ï a=none:=λa ha=>ax.hok.fresh (by rw[sQ];exact ha);have sR:∀{x c},X.env.cells.lookup x=some c->∃o,s₂.heap.get? c=some o:=λ{x c}e=>by obtain⟨v,o,ho,_⟩:=ax.cell x c e;exact⟨o,ho⟩
 have IU:∀b∈ĉ X.stack,∃o,s₂.heap.get? b=some o:=λb hb=>by
  rcases Ġ.mp (ax.stkSub b hb)with e|hb;.rw[e];obtain⟨m,⟨o,_,_,ho,_⟩,_⟩:=ax.loc;exact⟨o,ho⟩
  .obtain⟨_,o,ho,_⟩:=ax.funs.mem hb;exact⟨o,ho⟩
 have IX:∀a,D<=a->a∉ĉ X.stack:=λa ha hb=>by obtain⟨o,e⟩:=IU a hb;exact absurd (ĵ (RQ e) ha) (Θ _)
 have NY:∀b∈fp,b∉ĉ X.stack:=λb hb z=>by
  obtain⟨_,f1,f2,_⟩:=hf b hb;rcases Ġ.mp (ax.stkSub b z)with e|e;.exact f1 e
  .exact f2 e
 generalize gX:Ρ X scope Nc C fp Z7 s₂ Ï=X';obtain⟨hg,ht,hm⟩:=hb C fp Z7 s₂ Ï;rw[gX]at hg ht hm;have xt:X'.Ok:=by
  subst gX;refine⟨ax.ok.mod,S.kind,ax.ok.glob,ax.ok.blt,?_,?_,?_,?_,ax.ok.hd,ax.ok.frames,.inl rfl,?_,ax.bs,ĺ ax.ok.bsz ax.sz,?_,NY,ax.stack,ax.stkFree⟩;.show s₂.heap.objs.size<=C;lia
  .exact λx y c e1 e2=>ax.ok.inj x y c (sub e1) (sub e2)
  .intro x hx;have hx:(relabel scope X.env).names.lookup x=some .cell\/(relabel scope X.env).names.lookup x=some .free:=hx;have:∃k',(x,k')∈scope.names/\k'=NameKind.free:=by
    rcases hx with z|z;.exact mG S.hcell z (.inl rfl)
    .exact mG S.hcell z (.inr rfl)
   exact jM scope.names [] (.inl this)
  .intro x c z;exact absurd z (by show¬(false=true);simp)
  .intro b hb;exact⟨(Fh b hb).1,λx c e=>(hf b hb).2.2.2.2.1 x c (sub e)⟩
  .intro b o e hb;obtain⟨_,_,_,f3,_⟩:=hf b hb;rcases f3 with z|z;.exact ax.ok.noex b o e z
   .exact absurd (ĵ (ö (ax.ok.bs b o e).1) z) (Θ _)
 have eP:X'.prog=X.prog:=by subst gX;rfl
 have ew:X'.w=X.w:=by subst gX;rfl
 have eK:X'.K=X.K:=by subst gX;rfl
 have eA:X'.A=X.A:=by subst gX;rfl
 have eE:X'.xe=λ_ _=>False:=by subst gX;rfl
 have eL:X'.env.locals=C:=by subst gX;rfl
 have eN:X'.env=compEnvC scope (cQ X.env.cells scope.names []) C X.env:=by subst gX;rfl
 have ec:X'.calm=true:=by subst gX;exact hc
 have eS:X'.s₀=s₂:=by subst gX;rfl
 have eH:X'.H₀=Ï:=by subst gX;rfl
 have ef:X'.fs=ĉ X.stack:=by subst gX;rfl
 have ex:X'.ex=fp:=by subst gX;rfl
 have ep:X'.pn=X.pn++Z7:=by subst gX;rfl
 have I0:Ä X' [] (Ĳ σ src) Ï {s₂ with heap:=h₁,toks:=s₂.toks+([]:List (Str×Value)).length}:=by
  refine⟨xt,by rw[eS],ax.bare,by rw[eS,eH];exact Un.kept old,⟨_,by rw[eL];exact eI,?_⟩,?_,by rw[eL];exact fresh _ Z1,?_,?_,by rw[eP,ew];exact ax.hok.kept old,?_⟩
  .intro j x v e1 e2 e3;have e1:Nc[j]?=some x:=by subst gX;exact e1
   have e4:∃i,src[j]?=some (some i)/\(σ[i]?).join=some v:=by unfold Ĳ at e2;rw[ý]at e2;cases q:src[j]? with|none=>rw[q]at e2;cases e2;|some o=>rw[q]at e2;cases o with|none=>simp at e2;|some i=>exact⟨i,rfl,by simpa using e2⟩
   obtain⟨i,e5,e6⟩:=e4;obtain⟨c1,c2,c3,c4⟩:=(de C).get e1 e5;have e7:σ[i]?=some (some v):=by cases q:σ[i]? with|none=>rw[q]at e6;simp at e6;|some o=>rw[q]at e6;simp at e6;rw[e6]
   obtain⟨m,_,hl⟩:=ax.loc;obtain⟨u,r,l⟩:=hl i x v c1 e7 (.inr (by rcases c2 with z|z;exact .inl z;exact .inr z));refine⟨u,r,?_⟩;rcases l with⟨k,_⟩|⟨_,c,e,z⟩;.rcases c2 with c2|c2<;>(rw[k]at c2;cases c2)
   .refine .inr ⟨by rw[eN];exact c4,c,by rw[eN];exact c3.trans e,?_⟩;obtain⟨o,ho,hd⟩:=z;exact⟨o,old c o ho,hd⟩
  .intro x c e;rw[eN]at e;obtain⟨v,o,ho,hd⟩:=ax.cell x c (sub e);exact⟨v,o,old c o ho,hd⟩
  .intro x c e;rw[eN]at e;exact ax.freeC x c (sub e)
  .intro p hp;rw[ep,Į]at hp;obtain⟨e,n,ne,nf,d⟩:=ax.pin p hp;refine⟨old _ _ e,n,by rw[eL];exact(br e).1,?_,d⟩;rw[ef];intro z;rcases Ġ.mp (ax.stkSub _ z)with q|q;.exact ne q
   .exact nf q
  .have:=(de C).len;subst gX;show(Ĳ σ src).length=Nc.length;unfold Ĳ;rw[Ð,this]
 have RS:∀p∈X'.pn,p.1≠D:=λp hp=>by rw[ep]at hp;exact(br (ax.pin p hp).1).2
 have CA:∀x c,X'.env.cells.lookup x=some c->c≠D:=λx c e=>by rw[eN]at e;obtain⟨o,ho⟩:=sR (sub e);exact(br ho).2
 have Cf:∀{P:Yq}{H:Hp},(∀p∈P,p.1=D)->(∀b∈fp,H b=none)->∀b∈fp,lC X' P H b:=λ{P H}hP hn b hb=>by
  refine⟨hn b hb,by rw[eL];exact(Fh b hb).1,by rw[ef];exact NY b hb,.inl (by rw[ex];exact hb),λx c e=>?_,λp hp=>?_⟩;.rw[eN]at e;exact(hf b hb).2.2.2.2.1 x c (sub e)
  .rcases ē.mp hp with z|z;.rw[ep]at z;exact(hf b hb).2.2.2.2.2 p z
   .rw[hP p z];exact(Fh b hb).2.symm
 have ap:ω X' D:=⟨by rw[eL];exact IS,by rw[ef];exact IX _ (Ø _),by rw[eS,sQ];exact Ø _,CA,RS⟩;have T':Ł X'.prog X'.w X'.K tg J fp it tn:=by rw[eP,ew,eK];exact T
 have loop:∀s₃:Shared,s₃={s₂ with heap:=h₁,toks:=s₂.toks+([]:List (Str×Value)).length}->codeAny (model X.prog X.w) X.A (.compLoop (.ListComp elt gens scope pos) 0 (.ref it) (.ref D) (compEnvC scope (cQ X.env.cells scope.names []) C X.env)) (RR (.ref D) C) s₃:=by
  rintro s₃ rfl;have L:=Li (X:=X') (R:=RR (.ref D) C) ec eE ap (Ct it D X'.env) hg ht (hm D ap) ⟨I0,fresh _ (Ø _),λp hp=>absurd hp Z2,[],_,IT,.nil⟩ T' (T.keep _ _ _ st λb _ o e=>old b o e) (λb hb=>⟨Cf (λp hp=>absurd hp Z2) (λb hb=>(hf b hb).1) b hb,(Fh b hb).2⟩) hW ?_;.rw[eP,ew,eA,eN]at L;exact L
  rintro s4 ys fN H3⟨I4,qo,_,us,k,oD,Cc⟩hsz fin;obtain⟨mC,N0,_⟩:=I4.loc;rw[eL]at N0;have tj:=I4.base;rw[eS,eH,ef,ex]at tj;have hlen:ys.length<=sizeLine:=Za9 hsz;have IY:û X.prog X.w (upd H3 D (.lst ys)) s4.heap:=λb u e=>by
   by_cases hb:b=D;.subst hb;rw[aj]at e;cases e;exact⟨hlen,us,k,Cc,oD⟩
   .rw[aq hb]at e;have z:=I4.hok b u e;rw[eP,ew]at z;exact z.stay (λc v _ q=>q) (λc q=>by rw[aq (az q qo)];exact q) λc xs q=>by rw[aq (az q qo)];exact q
  have un:Un (ĉ X.stack) fp Ï (upd H3 D (.lst ys)) s₂.heap s4.heap:=⟨tj.keep,tj.slot,λb o e n hx=>by rw[aq (br e).2];exact tj.free b o e n hx,tj.there,λb xs e=>by have z:=tj.tups b xs e;rw[aq (az z qo)];exact z,λb o u e=>by have z:=tj.frzs b o u e;rw[aq (az z qo)];exact z,λb ps e=>by obtain⟨mo,z⟩:=tj.tbls b ps e;exact⟨mo,by rw[aq (az z qo)];exact z⟩⟩;have J4:Ä X Z7 σ (upd H3 D (.lst ys)) s4:=ax.call' (ch:=fp) (by have:=I4.os;rw[eS]at this;exact this) un IY I4.bare λb hb=>by obtain⟨_,f1,f2,f3,f4,f5⟩:=hf b hb;exact⟨f3,f1,f4,f5⟩
  refine IP D C s4 ys H3 mC fin qo J4 N0 ⟨?_,?_,?_,.inr ?_,?_,?_⟩;.rw[aq IS.symm];have:=I4.free;rw[eL]at this;exact this
  .have:=ax.lt;rw[sQ]at this;exact ϧ (ĵ this (by rw[hC];exact Nat.le_succ _))
  .intro z;obtain⟨_,o,ho,_⟩:=ax.funs.mem z;exact(br ho).1 rfl
  .have:=ax.sz;rw[sQ]at this;lia
  .intro x c e z;obtain⟨o,ho⟩:=sR e;exact(br ho).1 z
  .intro p hp z;exact(br (ax.pin p hp).1).1 z
 exact CZ hd rfl (loop _ rfl) (T.self _ 0 _ _ _ (T.keep _ _ _ st λb _ o e=>old b o e) (loop _ rfl))
theorem qK(hc:X.calm=true)(S:Ą X scope)(de:∀C,Ċ X (compEnvC scope (cQ X.env.cells scope.names []) C X.env) Nc src)(hb:∀C fp Z7 s₂ Ï,PG (Ρ X scope Nc C fp Z7 s₂ Ï) tg g/\PTs (Ρ X scope Nc C fp Z7 s₂ Ï) ifs tt/\PE (Ρ X scope Nc C fp Z7 s₂ Ï) elt te){σ:St}(ax:Ä X Z7 σ Ï s₂)(T:Ł X.prog X.w X.K tg J fp it tn)(st:tn 0 s₂.heap)(hf:∀b∈fp,lC X Z7 Ï b){Fin:List V->Hp->Prop}(hW:jN J g tt te Fin (Ĳ σ src) Ï){RR:Value->Addr->Result->Shared->Prop}{E:RC}(IP:∀D C s' ys H' m,Fin ys H'->H' D=none->Ä X Z7 σ (upd H' D (.lst ys)) s'->s'.heap.Ns C m->lC X Z7 (upd H' D (.lst ys)) C->RR (.ref D) C (.ok .next) s'):wpAny (model X.prog X.w) X.A (newList []) (λacc s₃=>wpAny (model X.prog X.w) X.A (newFunctionEnv scope X.env.globals (cQ X.env.cells scope.names []) [] X.env.qual none .none (some X.env)) (λmh kB=>codeAny (model X.prog X.w) X.A (.compStart (.ListComp elt [⟨tg,iter,ifs,0⟩] scope pos) 0 (.ref it) acc {mh with scope:=relabel scope X.env}) (RR acc mh.locals) kB) E s₃) E s₂:=by exact wQ (gens:=[⟨tg,iter,ifs,0⟩]) (p:=iter.pos) (M:=λD env=>Gq elt D env) (tm:=tmE te) hc S rfl (λit D env=>Ar rfl rfl) de (λC fp Z7 s₂ Ï=>⟨(hb C fp Z7 s₂ Ï).1,(hb C fp Z7 s₂ Ï).2.1,λD ap=>Jx ap rfl (hb C fp Z7 s₂ Ï).2.2⟩) ax T st hf hW IP
def Dd(wi:TI)(src:List (Option Nat))(g:TG)(tt:TT)(te:TE):TE:=λσ H Q=>wi σ H λJ H1=>jN J g tt te (λys H'=>∀D,H' D=none->Q (.ref D) (upd H' D (.lst ys))) (Ĳ σ src) H1
section
theorem bI(Nc:ç)(src:List (Option Nat))(hc:X.calm=true)(hi:PI X tg iter wi)(hb:∀C fp Z7 s₂ Ï,PG (Ρ X scope Nc C fp Z7 s₂ Ï) tg g/\PTs (Ρ X scope Nc C fp Z7 s₂ Ï) ifs tt/\PE (Ρ X scope Nc C fp Z7 s₂ Ï) elt te)(de:∀C,Ċ X (compEnvC scope (cQ X.env.cells scope.names []) C X.env) Nc src)(S:Ą X scope)(hs:∀x,foldedSetIterable iter X.env x=pure x:=by intro _;rfl):PE X (.ListComp elt [⟨tg,iter,ifs,0⟩] scope pos) (Dd wi src g tt te):=by intro Z7 s σ H Q I h;rw[eval_ListComp];refine wpAny_comprehension_free (use:=none) rfl hs (nj S.hfree) S.kind S.hnames ?_;refine Õ (hi Z7 s σ H _ I h) λv s1 h1=>Õ h1 λE7 s2 h2=>?_;obtain⟨it,fp,tn,J,H2,e,I2,T,st2,f2,hW⟩:=h2;subst e;refine qK (RR:=λacc C=>compPost (model X.prog X.w) X.A X.xe none (EP X Z7 σ Q) acc C) hc S de hb I2 T st2 f2 hW ?_;intro D C s' ys H' m fin nD J' hn fC;obtain⟨f0,f1,_,f3,f4,f5⟩:=fC;refine⟨m,hn,λRT xw=>?_⟩;exact⟨.ref D,_,J'.turned (t':=s'.toks) (λb o hb e=>xw.extBut b o hb e) f0 f1 f3 f4 f5,rfl,fin D nD⟩
def Jy(wi:TI)(src:List (Option Nat))(g:TG)(tt:TT)(te:TE)(i:Nat):TS:=λD σ H=>Dd wi src g tt te σ H λv H'=>D.nx (σ.set i (some v)) H'
theorem gM{pos' CB:Pos}(Nc:ç)(src:List (Option Nat))(hc:X.calm=true)(hN:X.N.Nodup)(tq:X.N[i]?=some x)(hx:Loc X.env.scope x)(hi:PI X tg iter wi)(hb:∀C fp Z7 s₂ Ï,PG (Ρ X scope Nc C fp Z7 s₂ Ï) tg g/\PTs (Ρ X scope Nc C fp Z7 s₂ Ï) ifs tt/\PE (Ρ X scope Nc C fp Z7 s₂ Ï) elt te)(de:∀C,Ċ X (compEnvC scope (cQ X.env.cells scope.names []) C X.env) Nc src)(S:Ą X scope)(RU:swapsWith (.ListComp elt [⟨tg,iter,ifs,0⟩] scope pos) (some (.Name x pos')) CB.line X.env=pure true:=by rfl)(hf:X.fn x=true\/X.env.scope.names.lookup x=some .local:=by first|exact .inl rfl|exact .inr rfl|assumption)(hs:∀x,foldedSetIterable iter X.env x=pure x:=by intro _;rfl):PS X (.Assign [.Name x pos'] (.ListComp elt [⟨tg,iter,ifs,0⟩] scope pos) CB) (Jy wi src g tt te i):=by
 intro Z7 s σ H D I h;rw[exec_Assign_Name_used _ _ _ _ RU];refine Â (wpAny_standAt (Â ?_));show wpAny _ _ (do let _<-comprehension (.ListComp elt [⟨tg,iter,ifs,0⟩] scope pos) scope X.env _ (newList []) false (eval iter X.env) (some (assign (.Name x pos') X.env))) _ _ s;refine Â (Õ (wpAny_comprehension_free (use:=some (assign (.Name x pos') X.env)) (Q:=λ_ s'=>∃af H',Ä X Z7 af H' s'/\D.nx af H') rfl hs (nj S.hfree) S.kind S.hnames ?_) λ_ s' hq=>Ô (Ô hq));refine Õ (hi Z7 s σ H _ I h) λv s1 h1=>Õ h1 λE7 s2 h2=>?_;obtain⟨it,fp,tn,J,H2,e,I2,T,st2,f2,hW⟩:=h2;subst e;refine qK (RR:=λacc C=>compPost (model X.prog X.w) X.A X.xe (some (assign (.Name x pos') X.env)) (λ_ s'=>∃af H',Ä X Z7 af H' s'/\D.nx af H') acc C) hc S de hb I2 T st2 f2 hW ?_;intro A C s' ys H' m fin nD J' hn fC;obtain⟨f0,f1,Yu,f3,f4,f5⟩:=fC;refine wpAny_assign_Name (jb J' hN tq hx (v:=.ref A) rfl (λkR RV RW=>?_) hf);have CC:∃m',kR.heap.Ns C m':=by
  obtain⟨a,sb,ha⟩:=RW;have gE:C≠a:=by
   rcases ha with z|z;.rw[z];exact f1
   .exact λq=>f4 x a z q.symm
  exact⟨m,hn.sameBut sb gE⟩
 obtain⟨m',CC⟩:=CC;refine⟨m',CC,λRT xw=>?_⟩;exact⟨_,_,RV.turned (t':=kR.toks) (λb o hb e=>xw.extBut b o hb e) f0 f1 f3 f4 f5,fin A nD⟩
end
section
theorem iR:dF X (.builtin "isinstance") (λxs H Q=>∃x t n b,xs=[x,.ty n]/\Ĥ X.K H x t/\PySem.W.kitOne X.K t (.type n)=some b/\Q (.bl b) H):=by intro Z7 s σ H xs us Q I r h;obtain⟨x,t,n,b,rfl,ty,e,q⟩:=h;obtain⟨u,c,rfl,ru,rc⟩:=Œ r;obtain rfl:c=Value.type n:=rc;exact Am I ru ty e λtk=>⟨.bl b,H,I.tok _,rfl,q⟩
theorem uG(bs:List Bool):TruthOf prog w A (λi v=>∃b,bs[i]?=some b/\v=Value.bool b) (λi=>(bs[i]?).getD false):=by intro i v s Q E hP hQ;obtain⟨b,hb,rfl⟩:=hP;dsimp only at hQ;rw[hb]at hQ;exact wpAny_truthy_bool hQ
theorem ϔ(bs:List Bool):(List.range bs.length).all (λi=>(bs[i]?).getD false)=bs.all id:=by
 apply Zbi.mpr;rw[Ő,Ő];constructor;.intro h b hb;obtain⟨i,hi,e⟩:=Zar hb;have:=h i (ϕ.mpr hi);rw[Ö hi,e]at this;exact this
 .intro h i hi;have hi:=ϕ.mp hi;rw[Ö hi];exact h _ (Č hi)
theorem il:∀{bs:List Bool}{us:gV},Ë (bs.map V.bl) us->us=bs.map Value.bool|[],_,.nil=>rfl|_::bs,_,.cons r t=>by rw[il (bs:=bs) t,show _=Value.bool _ from r];rfl
theorem gA(hc:X.calm=true):dF X (.builtin "all") (λxs H Q=>∃(p:Addr)(bs:List Bool),xs=[.ref p]/\É X.K H p (bs.map V.bl)/\Q (.bl (bs.all id)) H):=by
 intro Z7 s σ H xs us Q I r h;obtain⟨p,bs,rfl,hq,q⟩:=h;obtain⟨u,rfl,ru⟩:=ò r;cases ru;obtain⟨Z8,rv,pl,hz⟩:=I.list hq;have ei:=il rv;subst ei;have aE:p<s.heap.objs.size:=by obtain⟨_,e,_⟩:=pl.isList;exact ö e
 refine call_all_walk (wpAny_pyIter_list pl.isList ?_);have W:=Walks.list (prog:=X.prog) (w:=X.w) (A:=X.A.in1) (I.ok.hd hc) s.heap.objs.size p (ę aE) (bs.map Value.bool).toArray;refine⟨_,_,_,_,_,_,_,rfl,{sub:=W.sub,frame:=W.frame,item:=λi s Q E hi st hQ=>W.item i s Q E hi st λv h' tk hP=>hQ v h' tk ?_,done:=W.done,self:=W.self},⟨⟨_,Ħ _ rfl,rfl,rfl⟩,pl.isList.push _⟩,uG bs,λh' tk k=>?_⟩;.have CD:(bs.map Value.bool).toArray[i]?=some v:=hP;rw[List.getElem?_toArray,ý]at CD;cases e:bs[i]? with|none=>rw[e]at CD;cases CD;|some b=>rw[e]at CD;exact⟨b,rfl,(ŉ CD).symm⟩
 .have hsz:(bs.map Value.bool).toArray.size=bs.length:=by simp
  rw[hsz,ϔ];refine⟨.bl _,H,?_,rfl,q⟩;refine I.kept (h':=h') (t':=tk) λb o e=>k b o ?_ (ÿ _ e);intro z;have:b=s.heap.objs.size:=by simpa using z
  exact absurd (ö e) (by rw[this];exact Θ _)
end
theorem lH{K:Frag}:PySem.W.kitOne K (.type "NoneType") (.type "int")=some false:=by kernel_rfl
theorem jO{K:Frag}:PySem.W.kitOne K (.type "NoneType") (.type "bool")=some false:=by kernel_rfl
theorem jw{K:Frag}:PySem.W.kitOne K (.type "NoneType") (.type "tuple")=some false:=by kernel_rfl
theorem sE{K:Frag}:PySem.W.kitOne K (.type "bool") (.type "int")=some true:=by kernel_rfl
theorem qb{K:Frag}:PySem.W.kitOne K (.type "bool") (.type "bool")=some true:=by kernel_rfl
theorem oJ{K:Frag}:PySem.W.kitOne K (.type "bool") (.type "tuple")=some false:=by kernel_rfl
theorem uH{K:Frag}:PySem.W.kitOne K (.type "int") (.type "int")=some true:=by kernel_rfl
theorem sG{K:Frag}:PySem.W.kitOne K (.type "int") (.type "bool")=some false:=by kernel_rfl
theorem qd{K:Frag}:PySem.W.kitOne K (.type "int") (.type "tuple")=some false:=by kernel_rfl
theorem uI{K:Frag}:PySem.W.kitOne K (.type "str") (.type "int")=some false:=by kernel_rfl
theorem sJ{K:Frag}:PySem.W.kitOne K (.type "str") (.type "bool")=some false:=by kernel_rfl
theorem qe{K:Frag}:PySem.W.kitOne K (.type "str") (.type "tuple")=some false:=by kernel_rfl
theorem sO{K:Frag}:PySem.W.kitOne K (.type "list") (.type "int")=some false:=by kernel_rfl
theorem qg{K:Frag}:PySem.W.kitOne K (.type "list") (.type "bool")=some false:=by kernel_rfl
theorem oK{K:Frag}:PySem.W.kitOne K (.type "list") (.type "tuple")=some false:=by kernel_rfl
theorem qi{K:Frag}:PySem.W.kitOne K (.type "tuple") (.type "int")=some false:=by kernel_rfl
theorem oM{K:Frag}:PySem.W.kitOne K (.type "tuple") (.type "bool")=some false:=by kernel_rfl
theorem mV{K:Frag}:PySem.W.kitOne K (.type "tuple") (.type "tuple")=some true:=by kernel_rfl
theorem sS{K:Frag}:PySem.W.kitOne K (.type "dict") (.type "int")=some false:=by kernel_rfl
theorem qj{K:Frag}:PySem.W.kitOne K (.type "dict") (.type "bool")=some false:=by kernel_rfl
theorem oN{K:Frag}:PySem.W.kitOne K (.type "dict") (.type "tuple")=some false:=by kernel_rfl
section
variable{κ:Type}[DecidableEq κ]
def cD(kvs:List (κ×V))(k:κ):Option V:=(kvs.find? λkv=>decide (kv.1=k)).map (·.2)
def ð(kvs:List (κ×V))(k:κ)(v:V):List (κ×V):=if(kvs.any λkv=>decide (kv.1=k))=true then kvs.map (λkv=>if kv.1=k then(kv.1,v)else kv)else kvs++[(k,v)]
theorem cV{k:κ}(e:p.1=k):cD (p::r) k=some p.2:=by simp[cD,e]
theorem cW{k:κ}(e:¬p.1=k):cD (p::r) k=cD r k:=by simp[cD,e]
theorem fO(k:κ):∀kvs,(kvs.any λkv=>decide (kv.1=k))=(cD kvs k).isSome
 |[]=>rfl|p::r=>by
  rw[List.any_cons];by_cases e:p.1=k;.simp only[cV e,decide_eq_true e,Bool.true_or,Option.isSome_some]
  .rw[cW e,Ŋ e];exact fO k r
theorem uJ(k j:κ)(y:V):∀kvs,cD (kvs.map λkv=>if kv.1=k then(kv.1,y)else kv) j=(cD kvs j).map λx=>if j=k then y else x
 |[]=>rfl|p::r=>by
  have ih:=uJ k j y r;rw[ě];by_cases h:p.1=k
  .rw[È h];by_cases e:p.1=j;.rw[cV (p:=(p.1,y)) e,cV e,Option.map_some,È (e.symm.trans h)]
   .rw[cW (p:=(p.1,y)) e,cW e,ih]
  .rw[Æ h];by_cases e:p.1=j;.rw[cV (p:=p) e,cV e,Option.map_some,Æ (λz=>h (e.trans z))]
   .rw[cW (p:=p) e,cW e,ih]
theorem qL(k j:κ)(y:V):∀kvs,cD kvs k=none->cD (kvs++[(k,y)]) j=if j=k then some y else cD kvs j
 |[],_=>by
  by_cases e:k=j;.rw[È e.symm];exact cV (p:=(k,y)) e
  .rw[Æ (λz=>e z.symm)];exact cW (p:=(k,y)) e;|p::r,hn=>by
  rw[List.cons_append];have hk:¬p.1=k:=λz=>by rw[cV z]at hn;cases hn
  rw[cW hk]at hn;have ih:=qL k j y r hn;by_cases e:p.1=j;.rw[cV e,cV e,Æ (λz=>hk (e.trans z))]
  .rw[cW e,cW e,ih]
theorem fP(kvs:List (κ×V))(k j:κ)(y:V):cD (ð kvs k y) j=if j=k then some y else cD kvs j:=by
 unfold ð;by_cases a:(kvs.any λkv=>decide (kv.1=k))=true
 .rw[È a,uJ];rw[fO]at a;by_cases e:j=k;.obtain⟨x,hx⟩:=Zau.mp a;rw[È e,e,hx,Option.map_some,È rfl]
  .rw[Æ e];cases cD kvs j with|none=>rfl;|some x=>rw[Option.map_some,Æ e]
 .rw[Æ a];refine qL k j y kvs ?_;rw[fO]at a;cases q:cD kvs k with|none=>rfl;|some x=>rw[q]at a;exact(a rfl).elim
theorem cZ(kvs:List (κ×V))(k:κ)(v:V):(ð kvs k v).length<=kvs.length+1:=by
 unfold ð;split;.rw[Ð];lia
 .rw[ì,Ī,List.length_nil];lia
theorem Df{k:κ}(v:V)(h:cD kvs k=none):ð kvs k v=kvs++[(k,v)]:=by unfold ð;rw[fO,h];exact Æ Z3
theorem Ĭ.isSome_eq(r:Ĭ o u):o.isSome=u.isSome:=by cases o with
 |none=>cases u with|none=>rfl;|some _=>exact(r).elim
 |some _=>cases u with|none=>exact(r).elim;|some _=>rfl
theorem Ĭ.getD(r:Ĭ o u)(rd:Ì d d'):Ì (o.getD d) (u.getD d'):=by cases o with
 |none=>cases u with|none=>exact rd;|some _=>exact(r).elim
 |some _=>cases u with|none=>exact(r).elim;|some _=>exact r
theorem KV.val(r:KV kvs vs)(k:κ):Ĭ (cD kvs k) (valueAt vs k):=by induction r with|nil=>exact True.intro;|@cons p q ps qs h t ih=>
  obtain⟨h1,h2⟩:=h;by_cases e:p.1=k
  .have e':q.1=k:=h1.symm.trans e;have b:valueAt (q::qs) k=some q.2:=by simp[valueAt,e']
   rw[cV e,b];exact h2
  .have e':¬q.1=k:=λz=>e (h1.trans z);have b:valueAt (q::qs) k=valueAt qs k:=by simp[valueAt,e']
   rw[cW e,b];exact ih
theorem KV.any(r:KV kvs vs)(k:κ):(kvs.any λkv=>decide (kv.1=k))=vs.any λkv=>decide (kv.1=k):=by induction r with|nil=>rfl;|cons h t ih=>rw[List.any_cons,List.any_cons,ih,h.1]
theorem KV.repl(r:KV kvs vs)(k:κ)(ry:Ì y u):KV (kvs.map λkv=>if kv.1=k then(kv.1,y)else kv) (vs.map λkv=>if kv.1=k then(kv.1,u)else kv):=by induction r with|nil=>exact .nil;|@cons p q ps qs h t ih=>
  rw[ě,ě];refine .cons ?_ ih;obtain⟨h1,h2⟩:=h;by_cases e:p.1=k;.rw[È e,È (h1.symm.trans e)];exact⟨h1,ry⟩
  .rw[Æ e,Æ (λz=>e (h1.trans z))];exact⟨h1,h2⟩
theorem KV.put(r:KV kvs vs)(k:κ)(ry:Ì y u):KV (ð kvs k y) (stored vs k u):=by
 unfold ð stored;rw[r.any k];by_cases e:(vs.any λkv=>decide (kv.1=k))=true;.rw[È e,È e];exact r.repl k ry
 .rw[Æ e,Æ e];exact Paired.snoc r ⟨rfl,ry⟩
theorem KV.length{vs:List (κ×Value)}(r:KV kvs vs):kvs.length=vs.length:=Paired.length r
end
theorem uK(r:Ì (kV k) u):(bx P w).is k u=true:=by cases k with|inl i=>obtain⟨t,e⟩:=(r);subst e;exact ur P w i t;|inr x=>obtain⟨t,e⟩:=(r);subst e;exact ut P w x t
theorem qM:∀{ks:List Key}{us:gV},Ë (ks.map kV) us->ItemsAre (bx P w) ks us|[],_,r=>by rw[List.map_nil]at r;cases r;exact .nil;|k::ks,_,r=>by cases r with|cons h t=>exact .cons (uK h) (qM t)
abbrev KT(H:Hp):List (List Key×V)->List (List Key×Addr×Value)->Prop:=Paired λp q=>p.1=q.1/\H q.2.1=some (.tup (p.1.map kV))/\Ì p.2 q.2.2
theorem KT.val(r:KT H kvs xs)(k:List Key):Ĭ (cD kvs k) ((atKey xs k).map (·.2)):=by induction r with|nil=>exact True.intro;|@cons p q ps qs h t ih=>
  obtain⟨h1,_,h2⟩:=h;by_cases e:p.1=k
  .have e':q.1=k:=h1.symm.trans e;have b:atKey (q::qs) k=some q.2:=by simp[atKey,e']
   rw[cV e,b];exact h2
  .have e':¬q.1=k:=λz=>e (h1.trans z);have b:atKey (q::qs) k=atKey qs k:=by simp[atKey,e']
   rw[cW e,b];exact ih
theorem KT.repl(r:KT H kvs xs)(k:List Key)(ry:Ì y u):KT H (kvs.map λkv=>if kv.1=k then(kv.1,y)else kv) (xs.map (putAt k u)):=by induction r with|nil=>exact .nil;|@cons p q ps qs h t ih=>
  rw[ě];refine .cons ?_ ih;obtain⟨h1,h2,h3⟩:=h;unfold putAt;by_cases e:p.1=k;.rw[È e,È (h1.symm.trans e)];exact⟨h1,h2,ry⟩
  .rw[Æ e,Æ (λz=>e (h1.trans z))];exact⟨h1,h2,h3⟩
theorem KT.put(r:KT H kvs xs)(k:List Key)(hb:H b=some (.tup (k.map kV)))(ry:Ì y u):KT H (ð kvs k y) (storedH xs k b u):=by
 have e:(kvs.any λkv=>decide (kv.1=k))=(atKey xs k).isSome:=by rw[fO,(r.val k).isSome_eq,Option.isSome_map]
 unfold ð storedH;rw[e];by_cases q:(atKey xs k).isSome=true;.rw[È q,È q];exact r.repl k ry
 .rw[Æ q,Æ q];exact Paired.snoc r ⟨rfl,hb,ry⟩
theorem KT.keeps(r:KT H kvs xs)(ht:∀b ys,H b=some (.tup ys)->H' b=some (.tup ys)):KT H' kvs xs:=Paired.mapP r λ_ _ z=>⟨z.1,ht _ _ z.2.1,z.2.2⟩
section
theorem Iv(ok:û P w H h)(e:Rd H a u):Ñ P w H h a u:=e.ok ok
theorem uL(ok:û P w H h)(e:Rd H a (.dK kvs)):kvs.length<=sizeLine/\(a==sysModules)=false/\∃vs,KV kvs vs/\h.DictOf (bx P w) a vs:=show Ñ P w H h a (.dK kvs)from Iv ok e
theorem Iw(ok:û P w H h)(e:H a=some (.dK kvs)):kvs.length<=sizeLine/\(a==sysModules)=false/\∃vs,KV kvs vs/\h.DictOf (bx P w) a vs:=uL ok (.inl e)
theorem oO(ok:û P w H h)(e:H a=some (.tup (ks.map kV))):(tupleKind (bx P w)).is h ks a:=by obtain⟨_,Z8,r,o,h1,h2,n,h3⟩:=(ok a _ e);exact⟨o,Z8.toArray,n,h1,h2,h3,by simpa using qM r⟩
theorem uM(ok:û P w H h)(e:Rd H a (.dT kvs)):kvs.length<=sizeLine/\(a==sysModules)=false/\∃xs,KT H kvs xs/\h.DictOfH (tupleKind (bx P w)) a xs:=by
 obtain⟨z,y,xs,r,o,es,ep,h1,h2,h3,h4,h5⟩:=(Iv ok e);refine⟨z,y,xs,r,o,es,ep,h1,h2,h3,h4,λx hx=>?_,h5⟩;have all:∀{l:List (List Key×V)}{m:List (List Key×Addr×Value)},KT H l m->∀x∈m,(tupleKind (bx P w)).is h x.1 x.2.1:=by intro l m q;induction q with|nil=>intro x hx;exact nomatch hx;|@cons p q ps qs hq t ih=>
   intro x hx;rcases Ġ.mp hx with e|hx;.subst e;exact oO ok (by rw[<-hq.1];exact hq.2.1)
   .exact ih x hx
 exact all r x hx
theorem Dg(ok:û P w H h)(e:H a=some (.dT kvs)):kvs.length<=sizeLine/\(a==sysModules)=false/\∃xs,KT H kvs xs/\h.DictOfH (tupleKind (bx P w)) a xs:=uM ok (.inl e)
end
def Ć(H:Hp)(a:Addr)(y:V)(r:Option V):Prop:=(∃kvs k,Rd H a (.dK kvs)/\y=kV k/\r=cD kvs k)\/∃kvs k b,Rd H a (.dT kvs)/\y=.ref b/\H b=some (.tup (k.map kV))/\r=cD kvs k
def ĸ(H:Hp)(a:Addr)(y v:V)(H':Hp):Prop:=(∃kvs k,H a=some (.dK kvs)/\y=kV k/\kvs.length<sizeLine/\H'=upd H a (.dK (ð kvs k v)))\/∃kvs k b,H a=some (.dT kvs)/\y=.ref b/\H b=some (.tup (k.map kV))/\kvs.length<sizeLine/\H'=upd H a (.dT (ð kvs k v))
theorem Ć.k{k:Key}(e:H a=some (.dK kvs)):Ć H a (kV k) (cD kvs k):=.inl ⟨kvs,k,.inl e,rfl,rfl⟩
theorem Ć.t{k:List Key}(e:H a=some (.dT kvs))(eb:H b=some (.tup (k.map kV))):Ć H a (.ref b) (cD kvs k):=.inr ⟨kvs,k,b,.inl e,rfl,eb,rfl⟩
theorem ĸ.k{k:Key}(e:H a=some (.dK kvs))(hl:kvs.length<sizeLine):ĸ H a (kV k) v (upd H a (.dK (ð kvs k v))):=.inl ⟨kvs,k,e,rfl,hl,rfl⟩
theorem ĸ.t{k:List Key}(e:H a=some (.dT kvs))(eb:H b=some (.tup (k.map kV)))(hl:kvs.length<sizeLine):ĸ H a (.ref b) v (upd H a (.dT (ð kvs k v))):=.inr ⟨kvs,k,b,e,rfl,eb,hl,rfl⟩
section
variable{σ:St}
theorem Ä.big(I:Ä X Z7 σ H s):sysModules<s.heap.objs.size:=by have h:mainGlobals<s.heap.objs.size:=(I.mod.glob.keeps I.bk).lt;exact Nat.lt_trans Z3 h
theorem Av(hu:A.units+1<cLine)(I:Ä X Z7 σ H s)(g:Ć H a y (some v))(ry:Ì y u)(h:∀w' s',Ä X Z7 σ H s'->Ì v w'->Q w' s'):wpAny (model X.prog X.w) A (getItem (.ref a) u) Q E s:=by
 rcases g with⟨kvs,k,e,ey,l⟩|⟨kvs,k,b,e,ey,eb,l⟩;.subst ey;obtain⟨z,hd,vs,rel,dd⟩:=uL I.hok e;obtain⟨w',hw,fI⟩:=Ĭ.some_of (v:=v) (o:=valueAt vs k) (by rw[l];exact rel.val k);exact wpAny_getItem_of (uK ry) dd.mapOf hw (h w' _ (I.tok _) fI)
 .subst ey;cases(ry);obtain⟨z,hd,xs,rel,dd⟩:=uM I.hok e;obtain⟨w',hw,fI⟩:=Ĭ.some_of (v:=v) (o:=(atKey xs k).map (·.2)) (by rw[l];exact rel.val k);obtain⟨p,hp,iA⟩:=Option.map_eq_some_iff.mp hw;refine wpAny_getItem_heap (tupleKind_room_in1 hu) (oO I.hok eb) dd hp ?_;rw[iA];exact h w' _ (I.tok _) fI
theorem nu(I:Ä X Z7 σ H s)(mu:Mut (H a))(hs:Heap.SameBut a s.heap h')(he:∃q,h'.get? a=some q)(new:Ñ X.prog X.w (upd H a ob) h' a ob):Ä X Z7 σ (upd H a ob) {s with heap:=h',toks:=t'}:=I.write (x:=a) (e:=a) mu (.inl rfl) (λb q hb z=>(hs.2 b hb).trans z) he new
theorem Dh(z:kvs.length<=sizeLine)(hd:(a==sysModules)=false)(rel:KV kvs vs)(dd:h'.DictOf (bx P w) a vs):Ñ P w H' h' a (.dK kvs):=⟨z,hd,vs,rel,dd⟩
theorem qN(hu:A.units+1<cLine)(I:Ä X Z7 σ H s)(g:ĸ H a y v H')(ry:Ì y u)(rv:Ì v r)(h:∀s',Ä X Z7 σ H' s'->Q () s'):wpAny (model X.prog X.w) A (setItem (.ref a) u r) Q E s:=by
 rcases g with⟨kvs,k,e,ey,l,eH⟩|⟨kvs,k,b,e,ey,eb,l,eH⟩
 .subst ey eH;obtain⟨z,hd,vs,rel,dd⟩:=Iw I.hok e;have hz:vs.length<=sizeLine:=by rw[<-rel.length];exact z
  have hl:(ð kvs k v).length<=sizeLine:=by have:=cZ kvs k v;lia
  refine wpAny_setItem_pairs (hsz:=hz) (uK ry) dd λh' ml hs=>h _ ?_;have he:∃q,h'.get? a=some q:=by obtain⟨q,_,_,hq,_⟩:=ml;exact⟨q,hq⟩
  exact nu I (by rw[e];exact True.intro) hs he (Dh hl hd (rel.put k rv) ml)
 .subst ey eH;cases(ry);obtain⟨z,hd,xs,rel,dd⟩:=Dg I.hok e;have hz:xs.length<=sizeLine:=by rw[<-Paired.length rel];exact z
  have hl:(ð kvs k v).length<=sizeLine:=by have:=cZ kvs k v;lia
  refine wpAny_setItem_heap (hsz:=hz) (tupleKind_room_in1 hu) (oO I.hok eb) dd λh' ml hs=>h _ ?_;obtain⟨q,es,ep,hq,h2,h3,h4,_,h5⟩:=ml;refine nu I (by rw[e];exact True.intro) hs ⟨q,hq⟩ ⟨hl,hd,_,(rel.put k eb rv).keeps λc ys ec=>?_,q,es,ep,hq,h2,h3,h4,h5⟩;rw[aq (Im ec e (λz=>nomatch z))];exact ec
end
section
end
def Lj(i:Expr):Prop:=∀ov iv,subscripted i false ov iv=operate [ov,iv] (getItem ov iv)
theorem Gr{T id:String}(hl:typeLookup (.type T) "__getitem__"=pure (some (.builtin id)))(hs:Lj slice)(h:wpAny (model prog w) A (eval value env) (λo s₁=>wpAny (model prog w) A (eval slice env) (λi s₂=>s₂.TypeIs o T/\wpAny (model prog w) A (getItem o i) Q E s₂) E s₁) E s):wpAny (model prog w) A (eval (.Subscript value slice pos) env) Q E s:=by
 refine Subscript_ (wpAny_mono h (λo s₁ h₁=>wpAny_mono h₁ (λi s₂ iq=>?_) λ_ _ x=>x) λ_ _ x=>x);obtain⟨hT,iq⟩:=iq;refine Â ?_;refine Â (wpAny_specialOf hT hl ?_);have fin:wpAny (model prog w) A (subscripted slice false o i) (λr s₃=>wpAny (model prog w) A (letTemporaryGo value o r>>=λ_=>pure r) Q E s₃) E s₂:=by rw[hs o i];exact wpAny_operating (wpAny_mono iq (λr s₃ qh=>Â (wpAny_letTemporaryGo (Ô qh))) λ_ _ x=>x)
 first|exact Ô (Â fin);|exact Â (Ô (Â fin));|exact Â fin
theorem uN{σ:St}(I:Ä X Z7 σ H s)(g:Ć H a y o):s.TypeIs (.ref a) "dict":=by
 rcases g with⟨kvs,k,e,_,_⟩|⟨kvs,k,b,e,_,_,_⟩;.obtain⟨_,_,vs,_,dd⟩:=uL I.hok e;exact dd.typeIs
 .obtain⟨_,_,xs,_,dd⟩:=uM I.hok e;exact dd.typeIs
def Ln(td ty:TE):TE:=λσ H Q=>td σ H λx H1=>ty σ H1 λy H2=>∃a v,x=.ref a/\Ć H2 a y (some v)/\Q v H2
def Lp(td ty tv:TE):TS:=λD σ H=>tv σ H λv H1=>td σ H1 λx H2=>ty σ H2 λy H3=>∃a H4,x=.ref a/\ĸ H3 a y v H4/\D.nx σ H4
section
theorem fG(hu:X.A.units+1<cLine)(ho:PE X o td)(hi:PE X i ty)(hs:Lj i):PE X (.Subscript o i pos) (Ln td ty):=by intro Z7 s σ H Q I h;refine Gr PySem.F.slot_dict_getitem.lookup hs (Õ (ho Z7 s σ H _ I h) λu s1⟨x,H1,I1,rx,q1⟩=>Õ (hi Z7 s1 σ H1 _ I1 q1) λiv s2=>?_);rintro⟨y,H2,I2,ry,a,v,ex,g,q2⟩;subst ex;obtain rfl:u=Value.ref a:=rx;exact⟨uN I2 g,Av hu I2 g ry λw' s3 I3 fI=>⟨v,H2,I3,fI,q2⟩⟩
theorem nA(hu:X.A.units+1<cLine)(ho:PE X o td)(hi:PE X i ty)(hv:PE X value tv)(hs:swapsWith value (some (.Subscript o i pos')) pos.line X.env=pure false):PS X (.Assign [.Subscript o i pos'] value pos) (Lp td ty tv):=by intro Z7 s σ H D I h;refine wpAny_Assign_Subscript (Õ (hv Z7 s σ H _ I h) λr s1⟨v,H1,I1,rv,q1⟩=>Õ (ho Z7 s1 σ H1 _ I1 q1) λu s2⟨x,H2,I2,rx,q2⟩=>Õ (hi Z7 s2 σ H2 _ I2 q2) λiv s3=>?_) hs;rintro⟨y,H3,I3,ry,a,H4,ex,g,q3⟩;subst ex;obtain rfl:u=Value.ref a:=rx;exact qN hu I3 g ry rv λs4 I4=>⟨σ,H4,I4,q3⟩
end
theorem uO(h:Heap)(hb:sysModules<h.objs.size):Ñ P w H (h.push {cls:=.type "dict",data:=.dict #[]}) h.objs.size (.dK []):=⟨Ě _,beq_eq_false_iff_ne.mpr (Ne.symm (ę hb)),[],.nil,Heap.DictOf.new h⟩
theorem Di(h:Heap)(hb:sysModules<h.objs.size):Ñ P w H (h.push {cls:=.type "dict",data:=.dict #[]}) h.objs.size (.dT []):=⟨Ě _,beq_eq_false_iff_ne.mpr (Ne.symm (ę hb)),[],.nil,_,#[],0,Ħ _ rfl,⟨rfl,rfl,rfl⟩,rfl,rfl,List.nodup_nil⟩
def Jz:TE:=λ_ H Q=>∀p,H p=none->Q (.ref p) (upd H p (.dT []))
section
theorem oR:PE X (.Dict [] [] pos) Jz:=λZ7 s σ H Q I h=>wpAny_Dict_empty ⟨.ref s.heap.objs.size,_,I.laid (a:=s.heap.objs.size) (o:=.dT []) (t':=s.toks) (λ_ _ q=>ÿ _ q) (Ø _) (Di s.heap I.big),rfl,h _ (I.hok.fresh (Ø _))⟩
end
def wR:List (TE×TE)->St->Hp->(List (V×V)->Hp->Prop)->Prop|[],_,H,Q=>Q [] H|(tk,tv)::r,σ,H,Q=>tk σ H λx H1=>tv σ H1 λy H2=>wR r σ H2 λps H3=>Q ((x,y)::ps) H3
abbrev VV:List (V×V)->List (Value×Value)->Prop:=Paired λp q=>Ì p.1 q.1/\Ì p.2 q.2
def PPs(X:Cx)(pos:Pos)(keys:List (Option Expr))(values:ϲ)(qr:List (TE×TE)):Prop:=∀Z7 s(σ:St)H Q,Ä X Z7 σ H s->wR qr σ H Q->wpAny (model X.prog X.w) X.A (evalPairs (pairTrees keys values X.env pos)) (λvs s'=>∃ps H',Ä X Z7 σ H' s'/\VV ps vs/\Q ps H') X.xe s
theorem Gs:PPs X pos [] [] []:=λZ7 s σ H Q I h=>pairTrees_nil_walk ⟨[],H,I,.nil,h⟩
theorem Dj(hk:PE X k tk)(hv:PE X v tv)(hr:PPs X pos ks vs qr):PPs X pos (some k::ks) (v::vs) ((tk,tv)::qr):=λZ7 s σ H Q I h=>pairTrees_cons_walk (Õ (hk Z7 s σ H _ I h) λu s1⟨x,H1,I1,rx,q1⟩=>Õ (hv Z7 s1 σ H1 _ I1 q1) λw2 s2⟨y,H2,I2,ry,q2⟩=>Õ (hr Z7 s2 σ H2 _ I2 q2) λws s3=>by rintro⟨ps,H3,I3,rel,q3⟩;exact⟨(x,y)::ps,H3,I3,.cons ⟨rx,ry⟩ rel,q3⟩)
def iT(kvs more:List (Key×V)):List (Key×V):=more.foldl (λacc kv=>ð acc kv.1 kv.2) kvs
theorem KV.merge:∀{more:List (Key×V)}{rs:List (Key×Value)}{kvs:List (Key×V)}{vs:List (Key×Value)},KV more rs->KV kvs vs->KV (iT kvs more) (merged vs rs):=by intro more rs kvs vs r;induction r generalizing kvs vs with|nil=>intro q;exact q;|@cons p q ps qs h t ih=>
  intro r0;have e:KV (ð kvs p.1 p.2) (stored vs q.1 q.2):=by have:=r0.put p.1 h.2;rw[<-h.1];exact this
  exact ih e
theorem jo:∀more kvs,(iT kvs more).length<=kvs.length+more.length|[],kvs=>by show kvs.length<=kvs.length+0;lia;|p::r,kvs=>by have h1:=jo r (ð kvs p.1 p.2);have h2:=cZ kvs p.1 p.2;show(iT (ð kvs p.1 p.2) r).length<=_;rw[Ī];lia
theorem oU:∀{kvs:List (Key×V)}{ws:List (Value×Value)},VV (kvs.map λkv=>(kV kv.1,kv.2)) ws->∃rs,Carries (bx P w) ws rs/\KV kvs rs|[],_,r=>by rw[List.map_nil]at r;cases r;exact⟨[],True.intro,.nil⟩;|p::kvs,_,r=>by cases r with|@cons a b as bs h t=>obtain⟨rs,c,q⟩:=oU (P:=P) (w:=w) t;obtain⟨b1,b2⟩:=b;exact⟨(p.1,b2)::rs,⟨uK h.1,rfl,c⟩,.cons ⟨rfl,h.2⟩ q⟩
def Lq(qr:List (TE×TE)):TE:=λσ H Q=>∀p,H p=none->wR qr σ (upd H p (.dK [])) λps H2=>H2 p=some (.dK [])/\∃kvs,ps=kvs.map (λkv=>(kV kv.1,kv.2))/\kvs.length<=15/\Q (.ref p) (upd H2 p (.dK (iT [] kvs)))
theorem Gu(h:PPs X pos keys values qr)(w9:keys.all (·.isSome)=true)(hl:keys.length=values.length)(h0:keys≠[])(RX:keys.length<=15):PE X (.Dict keys values pos) (Lq qr):=by
 intro Z7 s σ H Q I q;have hn:=I.hok.fresh (Ø s.heap.objs.size);have I1:=I.laid (a:=s.heap.objs.size) (o:=.dK []) (h':=s.heap.push {cls:=.type "dict",data:=.dict #[]}) (t':=s.toks) (λ_ _ q=>ÿ _ q) (Ø _) (uO s.heap I.big);refine wpAny_Dict_walk (knd:=bx X.prog X.w) w9 hl h0 RX (Õ (h Z7 _ σ _ _ I1 (q _ hn)) λws s2=>?_);rintro⟨ps,H2,I2,rel,e,kvs,ep,lk,q2⟩;subst ep;obtain⟨rs,c,rk⟩:=oU (P:=X.prog) (w:=X.w) rel;obtain⟨z,hd,Yv,r0,dd⟩:=Iw I2.hok e;cases r0;refine⟨rs,c,dd,λh' ml hs=>⟨.ref s.heap.objs.size,_,?_,rfl,q2⟩⟩;have hz:(iT [] kvs).length<=sizeLine:=by have h1:=jo kvs [];rw[List.length_nil]at h1;rw[sizeLine_eq];lia
 have he:∃q,h'.get? s.heap.objs.size=some q:=by obtain⟨q,_,_,hq,_⟩:=ml;exact⟨q,hq⟩
 exact nu I2 (by rw[e];exact True.intro) hs he (Dh hz hd (rk.merge .nil) ml)
structure M2(X:Cx)(o:Expr)(m:Str)(apos:Pos)(e f:Expr)(bp:Pos):Prop where
 base:attributeBase o m X.env (eval o X.env)=eval o X.env
 few:((backTo bp (starEach [e,f] X.env)).all (λx=>!x.1)&&(backToKw bp (keywordEach [] X.env)).all (λx=>x.1.isSome)&&decide (([e,f]:ϲ).length+([]:List Keyword).length+(if([]:List Keyword).isEmpty then 0 else 1)<30))=true
 line:(apos.endLine==bp.line)=true
 trees:backTo bp (starEach [e,f] X.env)=[(false,eval e X.env),(false,eval f X.env)]
def IsD(H:Hp)(a:Addr):Prop:=(∃kvs,Rd H a (.dK kvs))\/∃kvs,Rd H a (.dT kvs)
theorem JB{σ:St}(I:Ä X Z7 σ H s)(d:IsD H a):s.TypeIs (.ref a) "dict"/\(∀b,Value.ref a=.ref b->∃ob,s.heap.get? b=some ob/\ob.dict=none)/\(a==sysModules)=false:=by
 rcases d with⟨kvs,e⟩|⟨kvs,e⟩;.obtain⟨_,hd,vs,_,dd⟩:=uL I.hok e;refine⟨dd.typeIs,λb q=>?_,hd⟩;cases q;obtain⟨ob,_,_,h1,h2,_⟩:=dd;exact⟨ob,h1,h2.2.1⟩
 .obtain⟨_,hd,xs,_,dd⟩:=uM I.hok e;refine⟨dd.typeIs,λb q=>?_,hd⟩;cases q;obtain⟨ob,_,_,h1,h2,_⟩:=dd;exact⟨ob,h1,h2.2.1⟩
section
variable{σ:St}
theorem JC(hu:A.units+1<cLine)(I:Ä X Z7 σ H s)(g:Ć H a y o)(ry:Ì y u)(rd:Ì d r)(h:∀w' s',Ä X Z7 σ H s'->Ì (o.getD d) w'->Q w' s'):wpAny (model X.prog X.w) A (call (.builtin "dict.get") [.ref a,u,r]) Q E s:=by
 rcases g with⟨kvs,k,e,ey,l⟩|⟨kvs,k,b,e,ey,eb,l⟩;.subst ey;obtain⟨z,hd,vs,rel,dd⟩:=uL I.hok e;refine call_meetsIn PySem.F.slot_dict_get dd.typeIs PySem.F.entry_dict_get (PySem.F.args_dict_get_3 _ _ _) (meets_dict_get_default (bx X.prog X.w) a (uK ry) hd r) ⟨_,dd.mapOf,h _ _ (I.tok _) ?_⟩;rw[l];exact(rel.val k).getD rd
 .subst ey;cases(ry);obtain⟨z,hd,xs,rel,dd⟩:=uM I.hok e;refine call_meetsIn PySem.F.slot_dict_get dd.typeIs PySem.F.entry_dict_get (PySem.F.args_dict_get_3 _ _ _) (meetsH_dict_get_default (tupleKind (bx X.prog X.w)) a b hd r) ⟨tupleKind_room_in1 hu,k,xs,oO I.hok eb,dd,h _ _ (I.tok _) ?_⟩;rw[l];exact(rel.val k).getD rd
end
def JD(td ty tx:TE):TE:=λσ H Q=>td σ H λx H1=>∃a,x=.ref a/\IsD H1 a/\ty σ H1 λy H2=>tx σ H2 λz H3=>∃o,Ć H3 a y o/\Q (o.getD z) H3
section
theorem oV(hu:X.A.units+1<cLine)(ho:PE X o td)(he:PE X e ty)(hf:PE X f tx)(m:M2 X o "get" apos e f bp):PE X (.Call (.Attribute o "get" apos) [e,f] [] bp) (JD td ty tx):=by intro Z7 s σ H Q I h;refine wpAny_Call_method m.base m.few m.line PySem.F.plainAttrs_dict PySem.F.slot_dict_get PySem.F.type_dict_get (Õ (ho Z7 s σ H _ I h) λu s1=>?_);rintro⟨x,H1,I1,rx,a,ex,d,q1⟩;subst ex;obtain rfl:u=Value.ref a:=rx;obtain⟨t1,t2,_⟩:=JB I1 d;refine⟨t1,t2,?_⟩;rw[m.trees];refine Calls.callWith_builtin rfl (Calls.evalArgs_plain (Calls.spliced_cons (Õ (he Z7 s1 σ H1 _ I1 q1) λiv s2⟨y,H2,I2,ry,q2⟩=>Calls.spliced_cons (Õ (hf Z7 s2 σ H2 _ I2 q2) λfv s3⟨z,H3,I3,rz,ov,g,q3⟩=>Calls.spliced_nil ?_))));exact JC hu I3 g ry rz λw' s4 I4 fI=>⟨_,H3,I4,fI,q3⟩
end
section
end
section
end
def Gv:Key->PyData|.inl i=>.int i|.inr x=>.str x
mutual
inductive Ò(S:Addr->Prop)(H:Hp):V->PyData->Prop|non:Ò S H .non .none|bl(b:Bool):Ò S H (.bl b) (.bool b)|int(i:Int):Ò S H (.int i) (.int i)|str(x:Str):Ò S H (.str x) (.str x)|lst{a:Addr}{xs:List V}{ds:Ys}(hs:S a)(e:H a=some (.lst xs))(r:Å S H xs ds):Ò S H (.ref a) (.list ds)|tup{a:Addr}{xs:List V}{ds:Ys}(e:H a=some (.tup xs))(r:Å S H xs ds):Ò S H (.ref a) (.tuple ds)|dct{a:Addr}{ks:List (Key×Int)}(hs:S a)(e:H a=some (.dK (ks.map λp=>(p.1,V.int p.2)))):Ò S H (.ref a) (.dict (ks.map λp=>(Gv p.1,.int p.2)))
inductive Å(S:Addr->Prop)(H:Hp):List V->Ys->Prop|nil:Å S H [] []|cons{v:V}{d:PyData}{vs:List V}{ds:Ys}(h:Ò S H v d)(t:Å S H vs ds):Å S H (v::vs) (d::ds)
end
section
theorem Å.length:∀{vs:List V}{ds:Ys},Å S H vs ds->vs.length=ds.length|_,_,.nil=>rfl|_,_,.cons _ t=>by rw[Ī,Ī,Å.length t]
theorem Å.get:∀{vs:List V}{ds:Ys}{i:Nat}{v:V},Å S H vs ds->vs[i]?=some v->∃d,ds[i]?=some d/\Ò S H v d|_,_,_,_,.nil,e=>by simp at e;|_,_,0,_,.cons h _,e=>by simp at e;subst e;exact⟨_,rfl,h⟩;|_,_,i+1,v,.cons _ t,e=>by obtain⟨d,h1,h2⟩:=Å.get (i:=i) (v:=v) t (by simpa using e);exact⟨d,by simpa using h1,h2⟩
theorem Å.append:∀{vs ws:List V}{ds es:Ys},Å S H vs ds->Å S H ws es->Å S H (vs++ws) (ds++es)|_,_,_,_,.nil,s=>s|_,_,_,_,.cons h t,s=>.cons h (Å.append t s)
theorem Å.ints:∀(ns:PP),Å S H (ns.map V.int) (ns.map PyData.int)|[]=>.nil|n::ns=>.cons (.int n) (Å.ints ns)
mutual
theorem Ò.keep(ht:∀b xs,H b=some (.tup xs)->H' b=some (.tup xs))(hs:∀b o,S b->H b=some o->H' b=some o)(hS:∀b o,S b->H b=some o->S' b):∀{v:V}{d:PyData},Ò S H v d->Ò S' H' v d|_,_,.non=>.non|_,_,.bl b=>.bl b|_,_,.int i=>.int i|_,_,.str x=>.str x|_,_,.lst s e r=>.lst (hS _ _ s e) (hs _ _ s e) (Å.keep ht hs hS r)|_,_,.tup e r=>.tup (ht _ _ e) (Å.keep ht hs hS r)|_,_,.dct s e=>.dct (hS _ _ s e) (hs _ _ s e)
theorem Å.keep(ht:∀b xs,H b=some (.tup xs)->H' b=some (.tup xs))(hs:∀b o,S b->H b=some o->H' b=some o)(hS:∀b o,S b->H b=some o->S' b):∀{vs:List V}{ds:Ys},Å S H vs ds->Å S' H' vs ds|_,_,.nil=>.nil|_,_,.cons h t=>.cons (Ò.keep ht hs hS h) (Å.keep ht hs hS t)
end
def tyD:PyData->String|.none=>"NoneType"|.bool _=>"bool"|.int _=>"int"|.str _=>"str"|.list _=>"list"|.tuple _=>"tuple"|.dict _=>"dict"
theorem Ò.ty{K:Frag}(h:Ò S H v d):Ĥ K H v (.type (tyD d)):=by cases h with|non=>exact .non;|bl b=>exact .bl b;|int i=>exact .int i;|str x=>exact .str x;|lst s e r=>exact .lst e;|tup e r=>exact .tup e;|dct s e=>exact .dK e
def sV:PyData->Bool|.int _=>true|.bool _=>true|_=>false
def sW:PyData->Bool|.bool _=>true|_=>false
def sX:PyData->Bool|.tuple _=>true|_=>false
theorem Gw{K:Frag}(d:PyData):PySem.W.kitOne K (.type (tyD d)) (.type "int")=some (sV d):=by
 cases d;.exact lH
 .exact sE
 .exact uH
 .exact uI
 .exact sO
 .exact qi
 .exact sS
theorem Dk{K:Frag}(d:PyData):PySem.W.kitOne K (.type (tyD d)) (.type "bool")=some (sW d):=by
 cases d;.exact jO
 .exact qb
 .exact sG
 .exact sJ
 .exact qg
 .exact oM
 .exact qj
theorem Gx{K:Frag}(d:PyData):PySem.W.kitOne K (.type (tyD d)) (.type "tuple")=some (sX d):=by
 cases d;.exact jw
 .exact oJ
 .exact qd
 .exact qe
 .exact oK
 .exact mV
 .exact oN
end
mutual
def sz:PyData->Nat|.none=>1|.bool _=>1|.int _=>1|.str _=>1|.list xs=>1+Ģ xs|.tuple xs=>1+Ģ xs|.dict kvs=>1+4*kvs.length
def Ģ:Ys->Nat|[]=>0|x::xs=>sz x+Ģ xs
end
mutual
def ø:PyData->Bool|.none=>true|.bool _=>true|.int i=>decide (i.natAbs<2^128)|.str x=>decide (x.length<=10)&&x.cps.toList.all λc=>decide (c<16^8)|.list xs=>iU xs|.tuple xs=>iU xs|.dict kvs=>gB kvs
def iU:Ys->Bool|[]=>true|x::xs=>ø x&&iU xs
def gB:List (PyData×PyData)->Bool|[]=>true|(.int i,.int j)::r=>decide (i.natAbs<2^128)&&decide (j.natAbs<2^128)&&gB r|(.str x,.int j)::r=>(decide (x.length<=10)&&x.cps.toList.all λc=>decide (c<16^8))&&decide (j.natAbs<2^128)&&gB r|_::_=>false
end
theorem nC{i:Int}(h:i.natAbs<2^128):(Str.ofString (toString i)).length<=130:=by
 have e:=int_text_length_le (a:=i) (k:=128) Z3 (by
  by_cases h0:i.natAbs=0;.rw[h0];decide
  .exact(Nat.log2_lt h0).mpr h);rw[PySem.ofString_length];lia
theorem mH:∀ts k acc,(textFrom k acc ts).length<=acc.length+piled ts
 |[],k,acc=>by show acc.length<=acc.length+0;lia;|t::r,k,acc=>by
  have h:=mH r (k+1) (acc++(if k>0 then", "else"":String)++t);have e:(acc++(if k>0 then", "else"":String)++t).length<=acc.length+2+t.length:=by
   rw[strLen_append,strLen_append];split;.show acc.length+2+t.length<=_;lia
   .show acc.length+0+t.length<=_;lia
  rw[piled_cons];show(textFrom (k+1) _ r).length<=_;lia
theorem uP(ts:ç):(listText ts).length<=piled ts+2:=by have h:=mH ts 0 "[";unfold listText;rw[strLen_append];have e1:(("[":Str)).length=1:=rfl;have e2:(("]":Str)).length=1:=rfl;lia
theorem yD(ts:ç):(Str.join ", " ts).length<=piled ts:=by
 by_cases h:ts=[];.subst h;show 0<=_;lia
 .have:=join_length_add ts h;lia
theorem sY(ts:ç):(tupleText ts).length<=piled ts+3:=by
 have h:=yD ts;unfold tupleText;rw[strLen_append,strLen_append];have e1:(("(":Str)).length=1:=rfl;have e2:((if ts.length==1 then",)"else")":String):Str).length<=2:=by
  split;.exact Ø 2
  .exact Nat.le_succ 1
 lia
theorem uQ(ts:ç):(dictText ts).length<=piled ts+2:=by have h:=yD ts;unfold dictText;rw[strLen_append,strLen_append];have e1:(("{":Str)).length=1:=rfl;have e2:(("}":Str)).length=1:=rfl;lia
theorem oW{M:List (PyData×PyData)->Prop}(h0:M [])(h1:∀i j r,i.natAbs<2^128->j.natAbs<2^128->M r->M ((.int i,.int j)::r))(h2:∀x j r,(x.length<=10/\∀c∈x.cps.toList,c<16^8)->j.natAbs<2^128->M r->M ((.str x,.int j)::r)):∀kvs,gB kvs=true->M kvs
 |[],_=>h0|(k,v)::r,h=>by
  cases k<;>cases v<;>first|(simp[gB]at h;done)|skip
  all_goals simp only[gB,Bool.and_eq_true,ă,List.all_eq_true]at h;first|exact h1 _ _ _ h.1.1 h.1.2 (oW h0 h1 h2 r h.2)|exact h2 _ _ _ h.1.1 h.1.2 (oW h0 h1 h2 r h.2)
theorem Λ:∀kvs,gB kvs=true->piled (PyData.shownKv kvs)<=400*kvs.length:=by
 have e1:((": ":Str)).length=2:=rfl;refine oW (Ø _) (λi j r a b ih=>?_) (λx j r a b ih=>?_);.have h1:=nC a;have h2:=nC b;show piled ((Str.ofString (toString i)++": "++Str.ofString (toString j))::PyData.shownKv r)<=_;rw[piled_cons,strLen_append,strLen_append,e1,Ī];lia
 .have h1:=StrLaws.reprText_len x a.2;have h2:=nC b;have:=a.1;show piled ((reprText x++": "++Str.ofString (toString j))::PyData.shownKv r)<=_;rw[piled_cons,strLen_append,strLen_append,e1,Ī];lia
mutual
theorem qO:∀d,ø d=true->d.shown.length+2<=200*sz d
 |.none,_=>by decide+kernel;|.bool true,_=>by decide+kernel;|.bool false,_=>by decide+kernel;|.int i,h=>by have:=nC (i:=i) (by simpa[ø]using h);show(Str.ofString (toString i)).length+2<=200*1;lia;|.str x,h=>by
  have h':(decide (x.length<=10)&&x.cps.toList.all λc=>decide (c<16^8))=true:=h;rw[ġ]at h';have h1:x.length<=10:=by simpa using h'.1
  have:=StrLaws.reprText_len x λc hc=>by simpa using Ő.mp h'.2 c hc
  show(reprText x).length+2<=200*1;lia;|.list xs,h=>by have h1:=ir xs (by simpa[ø]using h);have h2:=uP (PyData.shownAll xs);show(listText (PyData.shownAll xs)).length+2<=200*(1+Ģ xs);lia;|.tuple xs,h=>by have h1:=ir xs (by simpa[ø]using h);have h2:=sY (PyData.shownAll xs);show(tupleText (PyData.shownAll xs)).length+2<=200*(1+Ģ xs);lia;|.dict kvs,h=>by have h1:=Λ kvs (by simpa[ø]using h);have h2:=uQ (PyData.shownKv kvs);show(dictText (PyData.shownKv kvs)).length+2<=200*(1+4*kvs.length);lia
theorem ir:∀xs,iU xs=true->piled (PyData.shownAll xs)<=200*Ģ xs|[],_=>by show 0<=_;lia;|x::xs,h=>by have h':(ø x&&iU xs)=true:=h;rw[ġ]at h';have h1:=qO x h'.1;have h2:=ir xs h'.2;show piled (PyData.shown x::PyData.shownAll xs)<=200*(sz x+Ģ xs);rw[piled_cons];lia
end
theorem ql:∀kvs,gB kvs=true->PyData.showableKv kvs=true:=by
 have big:∀{n:Int},n.natAbs<2^128->n.natAbs.log2<1920:=λ{n}hn=>by
  by_cases h0:n.natAbs=0;.rw[h0];decide
  .exact Nat.lt_trans ((Nat.log2_lt h0).mpr hn) Z3
 refine oW rfl (λi j r a b ih=>?_) (λx j r a b ih=>?_)<;>simp only[PyData.showableKv,PyData.showable,Bool.and_eq_true,ă];.exact⟨⟨big a,big b⟩,ih⟩
 .exact⟨⟨trivial,big b⟩,ih⟩
mutual
theorem mJ:∀d,ø d=true->d.showable=true
 |.none,_=>rfl|.bool _,_=>rfl|.int i,h=>by
  have h':i.natAbs<2^128:=by simpa[ø]using h
  have:i.natAbs.log2<1920:=by
   by_cases h0:i.natAbs=0;.rw[h0];decide
   .exact Nat.lt_trans ((Nat.log2_lt h0).mpr h') Z3
  exact ñ this;|.str _,_=>rfl|.list xs,h=>by exact iu xs (by simpa[ø]using h);|.tuple xs,h=>by exact iu xs (by simpa[ø]using h);|.dict kvs,h=>by exact ql kvs (by simpa[ø]using h)
theorem iu:∀xs,iU xs=true->PyData.showableAll xs=true|[],_=>rfl|x::xs,h=>by have h':(ø x&&iU xs)=true:=h;rw[ġ]at h';simp only[PyData.showableAll,Bool.and_eq_true];exact⟨mJ x h'.1,iu xs h'.2⟩
end
theorem wU:∀kvs,gB kvs=true->PyData.depthKv kvs=0:=by refine oW rfl (λi j r a b ih=>?_) (λx j r a b ih=>?_)<;>simp only[PyData.depthKv,PyData.depth,ih]<;>rfl
mutual
theorem jP:∀d,ø d=true->d.depth<=sz d|.none,_=>Ě _|.bool _,_=>Ě _|.int i,_=>Ě _|.str _,_=>Ě _|.list xs,h=>by have:=lJ xs (by simpa[ø]using h);simp only[PyData.depth,sz];lia;|.tuple xs,h=>by have:=lJ xs (by simpa[ø]using h);simp only[PyData.depth,sz];lia;|.dict kvs,h=>by have:=wU kvs (by simpa[ø]using h);simp only[PyData.depth,sz];lia
theorem lJ:∀xs,iU xs=true->PyData.depthAll xs<=Ģ xs|[],_=>Ě _|x::xs,h=>by have h':(ø x&&iU xs)=true:=h;rw[ġ]at h';have h1:=jP x h'.1;have h2:=lJ xs h'.2;simp only[PyData.depthAll,Ģ];lia
end
section
variable{σ:St}{s:Shared}
theorem oX:∀{ks:List (Key×Int)}{vs:List (Key×Value)}{es:List DictEntry},KV (ks.map λp=>(p.1,V.int p.2)) vs->Pairs (bx P w) es vs->(∃as,ReadsAll s.heap (es.map (·.key)) ((ks.map λp=>(Gv p.1,PyData.int p.2)).map (·.1)) as/\as=[])/\∃as,ReadsAll s.heap (es.map (·.val)) ((ks.map λp=>(Gv p.1,PyData.int p.2)).map (·.2)) as/\as=[]|[],vs,es,r,p=>by cases r;cases p;exact⟨⟨_,.nil,rfl⟩,⟨_,.nil,rfl⟩⟩;|(k,n)::ks,vs,es,r,p=>by cases r with|@cons a b l1 l2 h t=>cases p with|@cons e kv gz kvs' h1 h2 h3=>
    obtain⟨⟨_,i1,rfl⟩,⟨_,i2,rfl⟩⟩:=oX (ks:=ks) t h3;obtain⟨q1,q2⟩:=h;have CF:nW b.1 e.key=true:=h1;rw[<-q1]at CF;obtain⟨tv,RY⟩:∃t,b.2=Value.int n t:=q2;rw[RY]at h2;refine⟨⟨_,?_,rfl⟩,⟨_,?_,rfl⟩⟩
    .show ReadsAll s.heap (e.key::gz.map (·.key)) (Gv k::_) ([]++[]);rcases bY CF with⟨i,tk,ei,ev⟩|⟨x,tk,ei,ev⟩;.have ei:k=Sum.inl i:=ei;rw[ev,ei];exact .cons (.int _ _) i1
     .have ei:k=Sum.inr x:=ei;rw[ev,ei];exact .cons (.str _ _) i1
    .show ReadsAll s.heap (e.val::gz.map (·.val)) (PyData.int n::_) ([]++[]);rw[h2];exact .cons (.int _ _) i2
mutual
theorem Ò.reads(I:Ä X Z7 σ H s):∀{v:V}{d:PyData}{u:Value},Ò S H v d->Ì v u->∃as,Reads s.heap u d as/\∀a∈as,S a
 |_,_,_,.non,r=>by cases(show _=Value.none from r);exact⟨[],.none,λ_ h=>nomatch h⟩;|_,_,_,.bl b,r=>by cases(show _=Value.bool b from r);exact⟨[],.bool b,λ_ h=>nomatch h⟩;|_,_,_,.int i,r=>by obtain⟨t,rfl⟩:=r;exact⟨[],.int i t,λ_ h=>nomatch h⟩;|_,_,_,.str x,r=>by obtain⟨t,rfl⟩:=r;exact⟨[],.str x t,λ_ h=>nomatch h⟩;|_,_,_,@Ò.lst _ _ a xs ds hs e t,r=>by
  cases(show _=Value.ref a from r);obtain⟨_,Z8,n,rv,ho⟩:=(I.hok a _ e);obtain⟨as,h1,h2⟩:=Å.reads I t rv;refine⟨a::as,.list ho rfl rfl (by simpa using h1),λb hb=>?_⟩;rcases Ġ.mp hb with z|z;.rw[z];exact hs
  .exact h2 b z;|_,_,_,@Ò.tup _ _ a xs ds e t,r=>by cases(show _=Value.ref a from r);obtain⟨_,Z8,rv,o,ho,hc,n,hd⟩:=(show Ñ X.prog X.w H s.heap a (.tup xs)from I.hok a _ e);obtain⟨as,h1,h2⟩:=Å.reads I t rv;exact⟨as,.tuple ho hc hd (by simpa using h1),h2⟩;|_,_,_,@Ò.dct _ _ a ks hs e,r=>by cases(show _=Value.ref a from r);obtain⟨_,_,vs,rel,o,es,ep,ho,hx,hd,_,hp,_⟩:=(show Ñ X.prog X.w H s.heap a (.dK _)from I.hok a _ e);obtain⟨⟨_,i1,rfl⟩,⟨_,i2,rfl⟩⟩:=oX (s:=s) rel hp;refine⟨a::[]++[],.dict ho hx.1 hd i1 i2,λb hb=>?_⟩;rw[show b=a by simpa using hb];exact hs
theorem Å.reads(I:Ä X Z7 σ H s):∀{vs:List V}{ds:Ys}{us:gV},Å S H vs ds->Ë vs us->∃as,ReadsAll s.heap us ds as/\∀a∈as,S a|_,_,_,.nil,r=>by cases r;exact⟨[],.nil,λ_ h=>nomatch h⟩;|_,_,_,.cons h t,r=>by cases r with|cons r1 r2=>obtain⟨as,h1,h2⟩:=Ò.reads I h r1;obtain⟨bs,h3,h4⟩:=Å.reads I t r2;exact⟨as++bs,.cons h1 h3,λb hb=>(ē.mp hb).elim (h2 b) (h4 b)⟩
end
theorem jg(hg:X.A.guards=some [])(hS:¬S sysModules):dF X (.builtin "repr") (λxs H Q=>∃v d,xs=[v]/\Ò S H v d/\ø d=true/\sz d<=4000/\X.A.units+(sz d+1)<cLine/\Q (.str d.shown) H):=by
 intro Z7 s σ H xs us Q I r h;obtain⟨v,d,rfl,th,tm,hz,hu,q⟩:=h;obtain⟨u,rfl,ru⟩:=ò r;have hl:=qO d tm;have hsz:d.shown.length<=sizeLine:=by rw[sizeLine_eq];lia
 have fin:∀t h' tk,(∀b o,s.heap.get? b=some o->h'.get? b=some o)->EP X Z7 σ Q (.str d.shown t) {s with heap:=h',toks:=tk}:=λt h' tk k=>⟨.str d.shown,H,I.kept k,⟨t,rfl⟩,q⟩
 have jv:=mJ d tm;cases th with|non=>cases(show u=Value.none from ru);exact PySem.P.repr_of_none (fin _ s.heap _ λ_ _ e=>e);|bl b=>cases(ru);exact PySem.P.repr_of_bool (fin _ s.heap _ λ_ _ e=>e);|int i=>
  obtain⟨t,rfl⟩:=ru;have:i.natAbs.log2<1920:=by simpa[PyData.showable]using jv
  exact PySem.P.repr_of_int this (fin _ s.heap _ λ_ _ e=>e);|str x=>obtain⟨t,rfl⟩:=ru;exact PySem.P.repr_of_str (fin _ s.heap _ λ_ _ e=>e) hsz;|@lst a xs ds hs e t=>obtain⟨as,rd,ha⟩:=(Ò.lst hs e t).reads I ru;cases(show u=Value.ref a from ru);exact repr_of_reads' rd jv (λ_ hm=>hS (ha _ hm)) hg (by have:=jP _ tm;lia) (λb o e=>e) (λh' t tk k=>fin t h' tk k) hsz;|@tup a xs ds e t=>obtain⟨as,rd,ha⟩:=(Ò.tup (S:=S) e t).reads I ru;cases(show u=Value.ref a from ru);exact repr_of_reads' rd jv (λ_ hm=>hS (ha _ hm)) hg (by have:=jP _ tm;lia) (λb o e=>e) (λh' t tk k=>fin t h' tk k) hsz;|@dct a ks hs e=>obtain⟨as,rd,ha⟩:=(Ò.dct hs e).reads I ru;cases(show u=Value.ref a from ru);exact repr_of_reads' rd jv (λ_ hm=>hS (ha _ hm)) hg (by have:=jP _ tm;lia) (λb o e=>e) (λh' t tk k=>fin t h' tk k) hsz
end
section
end
section
theorem JF(hj:s.heap.IsTupleIter j t i)(ht:s.heap.IsTuple t Z8)(hx:Z8[i]?=some x)(hQ:∀h',h'.IsTupleIter j t (i+1)->Heap.SameBut j s.heap h'->Q x {s with heap:=h'}):wpAny (model prog w) A (Builtin.SmallTypes.nextOf (.ref j)) Q E s:=by obtain⟨o,ho,hc,hd⟩:=id hj;obtain⟨p,hp,_,m,hm⟩:=ht;refine Â (wpAny_callSpecial?_slot (name:=Str.ofString "__next__") hj.typeIs F.slot_tuple_iterator_next (wpAny_call_entry F.slot_tuple_iterator_next hj.typeIs F.entry_tuple_iterator_next ?_ (F.args_tuple_iterator_next_1 _)));show wpAny _ _ (field (.ref j) 0>>=_) _ _ s;refine Â (wpAny_field ho hd (x:=.ref t) rfl ?_);refine Â (wpAny_field ho hd (x:=.int i 0) rfl (Â (wpAny_seqItems hp hm ?_)));simp only[Int.toNat_natCast,hx];refine Â (wpAny_setField ho hd Z2 (Ô ⟨x,rfl,Ô (hQ _ ⟨_,Heap.get?_update_self _ ho (Obj.isFreed_of_fields (Obj.data_mapFields hd _)),(Obj.cls_mapFields ..).trans hc,by rw[Obj.data_mapFields hd];simp[rawInt]⟩ (Heap.SameBut.update ..))⟩))
theorem wV(hh:A.handled=none)(hj:s.heap.IsTupleIter j t i)(ht:s.heap.IsTuple t Z8)(hx:Z8[i]?=none)(hE:∀h' e,Heap.ExtBut j s.heap h'->(∃o,h'.get? e=some o/\o.cls=.type "StopIteration")->E (.ref e) {s with heap:=h'}):wpAny (model prog w) A (Builtin.SmallTypes.nextOf (.ref j)) Q E s:=by
 obtain⟨o,ho,hc,hd⟩:=id hj;obtain⟨p,hp,_,m,hm⟩:=ht;refine Â (wpAny_callSpecial?_slot (name:=Str.ofString "__next__") hj.typeIs F.slot_tuple_iterator_next (wpAny_call_entry F.slot_tuple_iterator_next hj.typeIs F.entry_tuple_iterator_next ?_ (F.args_tuple_iterator_next_1 _)));show wpAny _ _ (field (.ref j) 0>>=_) _ _ s;refine Â (wpAny_field ho hd (x:=.ref t) rfl ?_);refine Â (wpAny_field ho hd (x:=.int i 0) rfl (Â (wpAny_seqItems hp hm ?_)));simp only[Int.toNat_natCast,hx];refine Â (wpAny_rule (Â (wpAny_setField ho hd Z2 ?_)));refine Â ?_;refine Â (ϖ (Â (m:=firstArgMember _ _) (wpAny_of_eq (a:=Value.none) (by first|rfl|(simp only[firstArgMember];rfl)) (ϖ ?_ (by size_fits)))) (by size_fits));simp only[raiseNew];refine Â (wpAny_handled ?_);first|rw[show A.in1.handled=none from hh];|rw[hh]
 exact Â (Ô (wpAny_throw (hE _ _ (((Heap.SameBut.update ..).extBut.push _).push _) ⟨_,Ħ _ rfl,rfl⟩)))
end
section
end
theorem Ò.same(h:Ò S H v d)(s:À H H'):Ò S H' v d:=h.keep (λb xs e=>s b _ e) (λb o _ e=>s b o e) λ_ _ z _=>z
theorem Å.same(h:Å S H v d)(s:À H H'):Å S H' v d:=h.keep (λb xs e=>s b _ e) (λb o _ e=>s b o e) λ_ _ z _=>z
theorem À.upd(h:H D=none):À H (upd H D o):=λb u e=>by rw[aq (az e h)];exact e
theorem À.updR(s:À H H')(h:H' D=none):À H (L2.upd H' D o):=s.trans (À.upd h)
theorem uR{K:Frag}(f:PyData->Bool){H0:Hp}{Fin:List V->Hp->Prop}(hT:H0 a=some (.tup xs))(th:Å S H0 xs ds)(hl:xs.length<sizeLine)(kC:∀v d H Q,d∈ds->À H0 H->Ò S H v d->(∀H',À H H'->Q (.bl (f d)) H')->te (dP.set j (some v)) H Q)(fin:∀H',À H0 H'->Fin (ds.map λd=>V.bl (f d)) H'):jN (Itt K a) (bQ j) uF te Fin dP H0:=by
 have hlen:=th.length;refine⟨λi m ys σ H=>m=xs.length-i/\i<=xs.length/\ys=(ds.take i).map (λd=>V.bl (f d))/\(∀o,σ.set j o=dP.set j o)/\À H0 H,⟨_,rfl,Ě _,rfl,λ_=>rfl,À.refl _⟩,?_⟩;rintro i m ys σ H⟨rfl,hi,rfl,gI,hs⟩;have sq:Ê K H a xs:=Ê.of (hs _ _ hT);refine⟨by rw[Ð,Ė];lia,?_⟩;by_cases aE:i<xs.length;.refine .inr ⟨⟨xs,xs[i],sq,by simp[aE]⟩,λx H' y=>?_⟩;obtain⟨e,y⟩:=y;subst e;have hx:=y xs sq;obtain⟨d,hd,ht⟩:=(th.same hs).get hx;show te (σ.set j (some x)) H' _;rw[gI];refine kC x d H' _ (Κ hd) hs ht λH2 s2=>⟨xs.length-(i+1),Z1,rfl,aE,?_,λo=>by rw[List.set_set],hs.trans s2⟩;rw[Ĝ,hd];simp
 .have e:i=xs.length:=Z1;subst e;refine .inl ⟨⟨xs,sq,Ø _⟩,?_⟩;rw[hlen,Ĩ];exact fin H hs
theorem Dl{ds:Ys}:ds.map (λd=>V.bl (f d))=(ds.map f).map V.bl:=by rw[ħ];rfl
theorem JG{ds:Ys}:(ds.map f).all id=ds.all f:=by rw[List.all_map];rfl
section
def Lr(t:TA):TE:=λσ H Q=>t σ H λxs H1=>xs.length<=sizeLine/\∀p,H1 p=none->p≠sysModules->Q (.ref p) (upd H1 p (.lst xs))
theorem Gy(h:PA X es t):PE X (.List es pos) (Lr t):=by intro Z7 s σ H Q I hq;refine wpAny_List_spliced (Õ (h pos Z7 s σ H _ I hq) λus s1⟨xs,H1,I1,r,z,q⟩=>⟨by rw[<-r.length];exact z,?_⟩);have hf:H1 s1.heap.objs.size=none:=I1.hok.fresh (Ø _);refine⟨.ref s1.heap.objs.size,_,I1.laid (o:=.lst xs) (t':=s1.toks) (λb u e=>ÿ _ e) (Ø _) ⟨z,us,0,r,Ħ _ rfl⟩,rfl,q _ hf (ϧ I1.big)⟩
theorem gR:dF X (.type "list") (λxs H Q=>∃p ys,xs=[.ref p]/\Ê X.K H p ys/\∀l,H l=none->l≠sysModules->Q (.ref l) (upd H l (.lst ys))):=by intro Z7 s σ H xs us Q I r h;obtain⟨p,ys,rfl,hq,q⟩:=h;obtain⟨u,rfl,rx⟩:=ò r;cases rx;obtain⟨Z8,r',pl,hz⟩:=I.tuple hq;have hlen:=r'.length;obtain⟨o,ho,hc,n,hd⟩:=pl;refine call_list_seq p (.inr rfl) ho hc hd (λh' c' kp e=>?_) (by simp only[List.size_toArray];lia);exact⟨.ref s.heap.objs.size,_,I.laid (t':=s.toks) kp (Ø _) (show Ñ X.prog X.w _ h' _ (.lst ys)from⟨hz,Z8,c',r',e⟩),rfl,q _ (I.hok.fresh (Ø _)) (ϧ I.big)⟩
def JH:TE:=λ_ H Q=>∀p,H p=none->p≠sysModules->Q (.ref p) (upd H p (.dK []))
theorem Dm:PE X (.Dict [] [] pos) JH:=λZ7 s σ H Q I h=>wpAny_Dict_empty ⟨.ref s.heap.objs.size,_,I.laid (a:=s.heap.objs.size) (o:=.dK []) (t':=s.toks) (λ_ _ q=>ÿ _ q) (Ø _) (uO s.heap I.big),rfl,h _ (I.hok.fresh (Ø _)) (ϧ I.big)⟩
end
section
def yE(r r' Fm:R2)(ta tb tc td:TE):TE:=λσ H Q=>ta σ H λx H1=>tb σ H1 λy H2=>r x y H2 λz H3=>∃k,z=.bl k/\(if k=true then tc σ H3 λx2 H4=>r' y x2 H4 λz2 H5=>∃k2,z2=.bl k2/\(if k2=true then td σ H5 λx3 H6=>Fm x2 x3 H6 Q else Q (.bl false) H5)else Q (.bl false) H3)
theorem Aw(h1:Ē X (compareOp o1) r)(h2:Ē X (compareOp o2) r')(h3:Ē X (compareOp o3) Fm)(ha:PE X a ta)(hb:PE X b tb)(hc:PE X c tc)(hd:PE X d td)(hm:lastMarks [o1,o2,o3] [b,c,d]=false:=by with_unfolding_all rfl):PE X (.Compare a [o1,o2,o3] [b,c,d] pos) (yE r r' Fm ta tb tc td):=by intro Z7 s σ H Q I h;refine Compare_chain (Õ (ha Z7 s σ H _ I h) λv s1⟨x,H1,I1,r1,q1⟩=>chain_link (Õ (hb Z7 s1 σ H1 _ I1 q1) λu s2⟨y,H2,I2,r2,q2⟩=>Õ (h1 Z7 s2 σ H2 x y v u _ I2 r1 r2 q2) λg s3⟨z,H3,I3,r3,k,e,q3⟩=>?_)) hm;subst e;cases r3;refine wpAny_truthy_bool ?_;cases k with|false=>exact ite_ff ⟨.bl false,H3,I3,rfl,q3⟩;|true=>refine ite_tt (chain_link (Õ (hc Z7 s3 σ H3 _ I3 q3) λw' s4⟨z',H4,I4,r4,q4⟩=>Õ (h2 Z7 s4 σ H4 y z' u w' _ I4 r2 r4 q4) λg2 s5=>?_));rintro⟨z5,H5,I5,r5,k2,e2,q5⟩;subst e2;cases r5;refine wpAny_truthy_bool ?_;cases k2 with|false=>exact ite_ff ⟨.bl false,H5,I5,rfl,q5⟩;|true=>exact ite_tt (chain_last (Õ (hd Z7 s5 σ H5 _ I5 q5) λw6 s6=>by rintro⟨z6,H6,I6,r6,q6⟩;exact h3 Z7 s6 σ H6 z' z6 w' w6 Q I6 r4 r6 q6))
end
def Ev(σ:St)(H:Hp)(t:TE)(v:V):Prop:=∀Q,Q v H->t σ H Q
section
theorem gn:Ev σ H (tC v) v:=λ_ h=>h
theorem eF(h:σ[i]?=some (some v)):Ev σ H (uw i) v:=λ_ q=>⟨v,h,q⟩
theorem cz{p q:Int->Int->Bool}(a:Ev σ H ta (.int i))(b:Ev σ H tb (.int j))(c:Ev σ H tc (.int k)):Ev σ H (wI (Ψ λi j=>.bl (p i j)) (Ψ λi j=>.bl (q i j)) ta tb tc) (.bl (p i j&&q j k)):=λQ h=>a _ (b _ ⟨i,j,rfl,rfl,_,rfl,by cases e:p i j with|false=>rw[e]at h;exact bH h;|true=>rw[e]at h;exact cg (c _ ⟨j,k,rfl,rfl,h⟩)⟩)
theorem Ax{p q r:Int->Int->Bool}(a:Ev σ H ta (.int i))(b:Ev σ H tb (.int j))(c:Ev σ H tc (.int k))(d:Ev σ H td (.int l)):Ev σ H (yE (Ψ λi j=>.bl (p i j)) (Ψ λi j=>.bl (q i j)) (Ψ λi j=>.bl (r i j)) ta tb tc td) (.bl (p i j&&(q j k&&r k l))):=λQ h=>a _ (b _ ⟨i,j,rfl,rfl,_,rfl,by cases e:p i j with|false=>rw[e]at h;exact bH h;|true=>rw[e]at h;refine cg (c _ ⟨j,k,rfl,rfl,_,rfl,?_⟩);cases e2:q j k with|false=>rw[e2]at h;exact bH h;|true=>rw[e2]at h;exact cg (d _ ⟨k,l,rfl,rfl,h⟩)⟩)
theorem iV(x:Ev σ H ta (.bl b))(y:b=true->Ev σ H tb (.bl c)):Ev σ H (Ip ta tb) (.bl (b&&c)):=λQ h=>x _ ⟨b,rfl,by cases e:b with|false=>rw[e]at h;exact bH h;|true=>rw[e]at h;exact cg (y e _ h)⟩
end
structure Ă(e:Expr):Prop where eq:∀es env,starEach (e::es) env=(false,eval e env)::starEach es env
theorem iW{c j p}:Ă (.Constant c j p):=⟨λ_ _=>rfl⟩
theorem jx{x p}:Ă (.Name x p):=⟨λ_ _=>rfl⟩
theorem iY{es k p}:Ă (.Tuple es k p):=⟨λ_ _=>rfl⟩
theorem jy{es p}:Ă (.List es p):=⟨λ_ _=>rfl⟩
theorem jz{ks vs p}:Ă (.Dict ks vs p):=⟨λ_ _=>rfl⟩
theorem jA{f as ks p}:Ă (.Call f as ks p):=⟨λ_ _=>rfl⟩
theorem ī{a o b p}:Ă (.BinOp a o b p):=⟨λ_ _=>rfl⟩
theorem oY{o a p}:Ă (.UnaryOp o a p):=⟨λ_ _=>rfl⟩
theorem lK{a b p}:Ă (.Subscript a b p):=⟨λ_ _=>rfl⟩
theorem jB{a b c p}:Ă (.ListComp a b c p):=⟨λ_ _=>rfl⟩
theorem lM{a b c p}:Ă (.Compare a b c p):=⟨λ_ _=>rfl⟩
section
theorem aA(ha:PE X e te)(hr:PA X es t)(hp:Ă e:=by first|exact jx|exact iW|exact jA|exact iY|exact jy|exact ī|exact lK|exact oY|exact jz|exact jB|exact lM):PA X (e::es) (iH te t):=aK ha hr (hp.eq _ _)
end
structure AA(X:Cx)(es:ϲ)(t:TA):Prop where run:PA X es t
section
theorem cj:AA X [] wK:=⟨ao⟩
theorem sZ(ha:PE X e te)(hr:AA X es t)(hp:Ă e:=by first|exact jx|exact iW|exact jA|exact iY|exact jy|exact ī|exact lK|exact oY|exact jz|exact jB|exact lM):AA X (e::es) (iH te t):=⟨aK ha hr.run (hp.eq _ _)⟩
theorem Gz{x1}(h:AA X es t):PE X (.Tuple es x1 pos) (Jr t):=bO h.run
theorem yF(h:AA X es t):PE X (.List es pos) (Gj t):=cP h.run
end
inductive ņ:ϲ->PP->Prop|nil:ņ [] []|cons{i:Int}{j:Nat}{p:Pos}{es:ϲ}{is:PP}:ņ es is->ņ (.Constant (.int i) j p::es) (i::is)
def Ls(is:PP):TA:=λ_ H Q=>Q (is.map V.int) H
theorem jQ:∀{es:ϲ}{is:PP},ņ es is->PA X es (Ls is)|_,_,.nil=>λ_ _ _ _ H Q I h=>Calls.spliced_nil ⟨[],H,I,.nil,h⟩|_,_,@ņ.cons i j p es is r=>by have h:=aA (X:=X) (aB (i:=i) (j:=j) (pos:=p)) (jQ r);exact h
theorem fH{k:Nat}{pos:Pos}{K:Frag}{n:Nat}(hK:X.K=K)(hc:X.calm=true)(h:PGs X es t)(hn:(assignEach es X.env).length=n:=by rfl)(eW:(assignEach es X.env).findIdx? (·.1)=none:=by rfl):PG X (.Tuple es k pos) (mQ K n t):=by subst hK;exact bC hc h hn eW
structure BE(X:Cx)(e:Expr)(t:TE):Prop where run:PE X e t
section
theorem bJ(ha:BE X e te)(hr:AA X es t)(hp:Ă e:=by first|exact jx|exact iW|exact jA|exact iY|exact jy|exact ī|exact lK|exact oY|exact jz|exact jB|exact lM):AA X (e::es) (iH te t):=sZ ha.run hr hp
theorem uT(h:BE X e te):PE X e te:=h.run
theorem tu{j}:BE X (.Constant (.int i) j pos) (tC (.int i)):=⟨aB⟩
theorem uU{j}:BE X (.Constant (.bool b) j pos) (tC (.bl b)):=⟨jG⟩
theorem JK{j}:BE X (.Constant .none j pos) (tC .non):=⟨fW⟩
theorem dz{j}:BE X (.Constant (.str x) j pos) (tC (.str x)):=⟨nZ⟩
theorem tD{j q}:BE X (.UnaryOp .USub (.Constant (.int i) j q) pos) (tUn (rU λi=>.int (-i)) (tC (.int i))):=⟨yj rT aB⟩
theorem iw{x1}(h:AA X es t):BE X (.Tuple es x1 pos) (Jr t):=⟨bO h.run⟩
theorem fj(h:AA X es t):BE X (.List es pos) (Gj t):=⟨cP h.run⟩
end
structure BS(X:Cx)(st:Stmt)(t:TS):Prop where run:PS X st t
structure BSs(X:Cx)(Ic:List Stmt)(t:TS):Prop where run:Ĵ X Ic t
section
variable{st:Stmt}{pos:Pos}
theorem jR(h:BSs X rest t):Ĵ X rest t:=h.run
theorem aN(h1:BS X st t)(h2:BSs X rest u):BSs X (st::rest) (Gd t u):=⟨aC h1.run h2.run⟩
theorem bW(h1:BS X st t):BSs X [st] t:=⟨aF h1.run⟩
theorem wW(hN:X.N.Nodup)(hi:X.N[i]?=some x)(hx:Loc X.env.scope x)(he:BE X e te)(hs:swapsWith e (some (.Name x pos')) pos.line X.env=pure false:=by rfl)(hf:X.fn x=true\/X.env.scope.names.lookup x=some .local:=by first|exact .inl rfl|exact .inr rfl|assumption):BS X (.Assign [.Name x pos'] e pos) (wC te (bQ i)):=⟨lB hN hi hx he.run hs hf⟩
theorem fZ(he:BE X e te):BS X (.Return (some e) pos) (Jm te):=⟨aR he.run⟩
theorem jT(ho:Ē X (binaryOp op) r)(ha:BE X a ta)(hb:BE X b tb):BE X (.BinOp a op b pos) (ώ r ta tb):=⟨aQ ho ha.run hb.run⟩
theorem qP(hr:IxR X r)(ha:BE X a ta)(hb:BE X b tb)(hs:rZ b):BE X (.Subscript a b pos) (ώ r ta tb):=⟨Ir hr ha.run hb.run hs⟩
end
theorem Î{X:Cx}{pos:Pos}(i:Nat)(hN:X.N.Nodup)(hi:X.N[i]?=some x:=by rfl)(hx:Loc X.env.scope x:=by exact Or.inl rfl)(hf:X.fn x=true\/X.env.scope.names.lookup x=some .local:=by first|exact .inl rfl|exact .inr rfl):PG X (.Name x pos) (bQ i):=bN hN hi hx hf
theorem ć{pos pos':Pos}(i:Nat)(hN:X.N.Nodup)(he:PE X e te)(hi:X.N[i]?=some x:=by rfl)(hx:Loc X.env.scope x:=by exact Or.inl rfl)(hs:swapsWith e (some (.Name x pos')) pos.line X.env=pure false:=by rfl)(hf:X.fn x=true\/X.env.scope.names.lookup x=some .local:=by first|exact .inl rfl|exact .inr rfl):PS X (.Assign [.Name x pos'] e pos) (wC te (bQ i)):=lB hN hi hx he hs hf
theorem fQ{pos pos':Pos}(i:Nat)(hN:X.N.Nodup)(he:BE X e te)(hi:X.N[i]?=some x:=by rfl)(hx:Loc X.env.scope x:=by exact Or.inl rfl)(hs:swapsWith e (some (.Name x pos')) pos.line X.env=pure false:=by rfl)(hf:X.fn x=true\/X.env.scope.names.lookup x=some .local:=by first|exact .inl rfl|exact .inr rfl):BS X (.Assign [.Name x pos'] e pos) (wC te (bQ i)):=wW hN hi hx he hs hf
theorem pX(hr:IxR X r)(ha:PE X a ta)(hb:PE X b tb)(hs:rZ b:=by exact λ_ _=>rfl):PE X (.Subscript a b pos) (ώ r ta tb):=Ir hr ha hb hs
theorem zL{n:Nat}(h:Nat.ble n 1000=true:=by rfl):n<=sizeLine:=ĺ (Nat.le_of_ble_eq_true h) Z3
theorem cI(h:Ċ X bq N r)(h1:X.N[i]?=some x:=by rfl)(h2:X.env.kindOf x=some .cell:=by rfl)(h3:bq.cells.lookup x=X.env.cells.lookup x:=by rfl)(h4:bq.kindOf x=some .cell:=by rfl):Ċ X bq (x::N) (some i::r):=⟨⟨h1,.inl h2,h3,.inl h4⟩,h⟩
theorem ù{N P:ç}{sc:Scope}(h1:sc.kind=.function:=by rfl)(h2:sc.isCoroutine=false:=by rfl)(h3:sc.isGenerator=false:=by rfl)(h4:N.Nodup:=by decide+kernel)(h5:N.take P.length=P:=by rfl)(h6:∀x∈P,sc.names.lookup x=some .local\/sc.names.lookup x=some .cell:=by decide+kernel)(h7:∀y∈sc.names,y.2≠.free:=by decide+kernel):Á N P sc:=⟨h1,h2,h3,h4,h5,h6,h7⟩
section
end
section
end
section
theorem eQ(h:D.nx σ H):Cw D σ H:=h
theorem aH(h:t {D with nx:=u D} σ H):Gd t u D σ H:=h
theorem aX(h:∀c,(∀af H',u D af H'->c af H')->t {D with nx:=c} σ H):Gd t u D σ H:=h (u D) λ_ _ z=>z
theorem aU(h:te σ H λx H1=>g x σ H1 D.nx):wC te g D σ H:=h
theorem tE(h:te σ H D.rt):Jm te D σ H:=h
theorem oZ(h:ta σ H λxs H1=>xs.length<=sizeLine/\∀p,H1 p=none->Q (.ref p) (upd H1 p (.lst xs))):Gj ta σ H Q:=h
theorem aG(h:R (σ.set i (some v)) H):bQ i v σ H R:=h
end
section
def Lw(i j k:Nat)(ta:TA):TS:=λD σ H=>ta σ H λvs H1=>∃v w u,vs=[v,w,u]/\D.nx (((σ.set i (some v)).set j (some w)).set k (some u)) H1
theorem GC{kt k2 pt2}(hc:X.calm=true)(hN:X.N.Nodup)(hi:X.N[i]?=some x)(hj:X.N[j]?=some y)(hk:X.N[k]?=some z)(wc:i≠j)(RZ:i≠k)(hjk:j≠k)(hx:X.env.scope.names.lookup x=some .local)(hy:X.env.scope.names.lookup y=some .local)(hz:X.env.scope.names.lookup z=some .local)(ha:PA X [a,b,c] ta)(hw:swappedStores [.Tuple [.Name x px,.Name y py,.Name z pz] kt pt] (.Tuple [a,b,c] k2 pt2) X.env=pure (some [x,y,z]))(hs:swapsWithSole [.Tuple [.Name x px,.Name y py,.Name z pz] kt pt] (.Tuple [a,b,c] k2 pt2) pos.line X.env=pure false:=by rfl):PS X (.Assign [.Tuple [.Name x px,.Name y py,.Name z pz] kt pt] (.Tuple [a,b,c] k2 pt2) pos) (Lw i j k ta):=by
 intro Z7 s σ H D I h;refine Assign_Tuple_swapped (names:=[x,y,z]) (Tuple_ (Õ (ha _ Z7 s σ H _ I h) λus s1=>?_)) hs hw;rintro⟨vs,H1,I1,r1,q1⟩;obtain⟨v,w,u,e1,q1⟩:=q1;subst e1;obtain⟨u1,u2,u3,rfl,rv,fI,ru⟩:∃u1 u2 u3,us=[u1,u2,u3]/\Ì v u1/\Ì w u2/\Ì u u3:=by cases r1 with|cons p q=>cases q with|cons p' q'=>cases q' with|cons p2 q2=>cases q2;exact⟨_,_,_,rfl,p,p',p2⟩
 refine ϖ ?_ (by show 3<=sizeLine;decide);have I2:Ä X Z7 σ H1 {s1 with heap:=s1.heap.push {cls:=.type "tuple",data:=.seq [u1,u2,u3].toArray}}:=I1.kept (t':=s1.toks) λb o e=>ÿ _ e;refine unpackItems_tuple (items:=#[u1,u2,u3]) (I.ok.hd hc) (IsTup.new s1.heap _) λh' cm=>?_;have I3:=I2.kept (h':=h') (t':=s1.toks) λb o e=>cm b o (ę (ö e)) e;refine assignInOrder_cons (wpAny_bindName (fM I3 hN hk (.inl hz) ru (λs2 I4=>?_) (.inr hz)));refine assignInOrder_cons (wpAny_bindName (fM I4 hN hj (.inl hy) fI (λs3 I5=>?_) (.inr hy)));refine assignInOrder_cons (wpAny_bindName (fM I5 hN hi (.inl hx) rv (λs4 I6=>assignInOrder_nil ?_) (.inr hx)));rw[List.set_comm _ _ (Ne.symm wc),List.set_comm _ _ (Ne.symm RZ),List.set_comm _ _ (Ne.symm hjk)]at I6;exact⟨_,H1,I6,q1⟩
end
end L2
namespace L2.ZT
open PySem PySem.Spec PyProof.Rows L2
def nm(t:Bool):String:=match t with|true=>"tuple_iterator"|false=>"list_iterator"
def tn(t:Bool):String:=match t with|true=>"tuple"|false=>"list"
def Io(t:Bool)(h:Heap)(a l:Addr)(i:Nat):Prop:=∃o,h.get? a=some o/\o.cls=.type (nm t)/\o.data=.fields #[.ref l,.int i 0]
def Sq(t:Bool)(h:Heap)(a:Addr)(items:Qa0):Prop:=∃o,h.get? a=some o/\o.cls=.type (tn t)/\∃n,o.data=.seq items n
def SQ(t:Bool)(K:Frag)(H:Hp)(a:Addr)(xs:List V):Prop:=match t with|true=>Ê K H a xs|false=>É K H a xs
theorem Io.at(x:Io t h a l i)(e:∀o,h.get? a=some o->h'.get? a=some o):Io t h' a l i:=by obtain⟨o,ho,r⟩:=x;exact⟨o,e _ ho,r⟩
theorem Io.extBut(x:Io t h a l i)(e:Heap.ExtBut b h h')(n:a≠b):Io t h' a l i:=x.at λo q=>e _ _ n q
theorem Sq.at(x:Sq t h a xs)(e:∀o,h.get? a=some o->h'.get? a=some o):Sq t h' a xs:=by obtain⟨o,ho,r⟩:=x;exact⟨o,e _ ho,r⟩
theorem Sq.extBut(x:Sq t h a xs)(e:Heap.ExtBut b h h')(n:a≠b):Sq t h' a xs:=x.at λo q=>e _ _ n q
theorem mK{σ:St}(I:Ä X Z7 σ H s)(h:SQ t X.K H a xs):∃Z8:gV,Ë xs Z8/\Sq t s.heap a Z8.toArray/\xs.length<=sizeLine:=by
 cases t;.obtain⟨Z8,r,p,z⟩:=I.list h;exact⟨Z8,r,p.isList,z⟩
 .exact I.tuple h
theorem wX{σ:St}(I:Ä X Z7 σ H s)(h:SQ t X.K H a xs)(h':SQ t X.K H a ys):xs=ys:=by
 cases t;.exact I.list_inj h h'
 .exact I.tuple_inj h h'
section
theorem nx(hj:Io t s.heap j l i)(ht:Sq t s.heap l Z8)(hx:Z8[i]?=some x)(hQ:∀h',Io t h' j l (i+1)->Heap.SameBut j s.heap h'->Q x {s with heap:=h'}):wpAny (model prog w) A (Builtin.SmallTypes.nextOf (.ref j)) Q E s:=by
 cases t;.exact wpAny_nextOf_list_item hj ht hx hQ
 .exact JF hj ht hx hQ
theorem wY(hh:A.handled=none)(hj:Io t s.heap j l i)(ht:Sq t s.heap l Z8)(hx:Z8[i]?=none)(hE:∀h' e,Heap.ExtBut j s.heap h'->(∃o,h'.get? e=some o/\o.cls=.type "StopIteration")->E (.ref e) {s with heap:=h'}):wpAny (model prog w) A (Builtin.SmallTypes.nextOf (.ref j)) Q E s:=by
 cases t;.exact wpAny_nextOf_list_end hh hj ht hx hE
 .exact wV hh hj ht hx hE
theorem ph(hl:Sq t s.heap l Z8)(hQ:Q (.ref s.heap.objs.size) {s with heap:=s.heap.push {cls:=.type (nm t),data:=.fields #[.ref l,.int 0 0]}}):wpAny (model prog w) A (pyIter (.ref l)) Q E s:=by
 cases t;.exact wpAny_pyIter_list hl hQ
 .exact wpAny_pyIter_tuple hl hQ
end
theorem draws(hh:A.handled=none)(it a:Addr)(gE:a≠it)(Z8:Qa0):Draws prog w A it [it,a] Z8.size (λi v=>Z8[i]?=some v) (λi h=>Io t h it a i/\Sq t h a Z8)where
 live:=λ_ _ st=>by obtain⟨o,ho,_⟩:=st.1;exact⟨o,ho⟩
 frame:=λ_ _ _ st hk=>⟨st.1.at λo e=>hk it Z2 o e,st.2.at λo e=>hk a Z2 o e⟩;item:=λi s Q E hi st hQ=>nx st.1 st.2 (x:=Z8[i]) (by simp[hi]) λh' h1 h2=>hQ _ h' s.toks (by simp[hi]) ⟨h1,st.2.extBut h2.extBut gE⟩ h2;done:=λs Q E st hE=>wY hh st.1 st.2 Z2 hE
abbrev eA(t0:Bool)(h:Heap)(t:Addr):Heap:=h.push {cls:=.type (nm t0),data:=.fields #[.ref t,.int 0 0]}
theorem pq(t:Addr)(Z8:Qa0):Meets (Builtin.«enumerate.__new__» ⟨[.type "enumerate",.ref t],[]⟩) (λ_ R s=>Sq t0 s.heap t Z8/\R (.ok (.ret (.ref (eA t0 s.heap t).objs.size))) {s with heap:=(eA t0 s.heap t).push {cls:=.type "enumerate",data:=.fields #[.none,.bool false,.ref s.heap.objs.size,rawInt 0,.none,.none]}}):=.of_wp λprog w A R s h=>by
  obtain⟨hp,g,d,tk,os⟩:=s;obtain⟨ht,h⟩:=h;have IZ:=sub_enumerate;have hT:Sq t0 (Shared.heap ⟨hp,g,d,tk,os⟩) t Z8:=ht;wp_walk;refine wpAny_stack_any λst=>Ô ?_;split
  .rename_i c _ _ _ _ _;cases(c==Value.type "enumerate");.wp_walk using ph hT;exact⟨_,rfl,h⟩
   .wp_walk using ph hT;exact⟨_,rfl,h⟩
  .wp_walk using ph hT;exact⟨_,rfl,h⟩
theorem qm{s:Shared}(ht:Sq t0 s.heap t Z8)(h:∀h',IsEnum h' (s.heap.objs.size+1) s.heap.objs.size 0 .none->Io t0 h' s.heap.objs.size t 0->(∀c o,s.heap.get? c=some o->h'.get? c=some o)->Q (.ref (s.heap.objs.size+1)) {s with heap:=h'}):wpAny (model prog w) A (call (.type "enumerate") [.ref t]) Q E s:=by refine callType_new F.called_enumerate Z3 (F.typeCall_enumerate_1 _) (F.newCall_enumerate_1 _) (λobj=>F.args_object_init_2 obj _) F.entry_enumerate_new (pq t Z8) ⟨ht,?_⟩;have e1:(eA t0 s.heap t).objs.size=s.heap.objs.size+1:=Heap.size_push ..;have g2:=Ħ (eA t0 s.heap t) (o:={cls:=.type "enumerate",data:=.fields #[.none,.bool false,.ref s.heap.objs.size,rawInt 0,.none,.none]}) rfl;have g1:=ÿ {cls:=.type "enumerate",data:=.fields #[.none,.bool false,.ref s.heap.objs.size,rawInt 0,.none,.none]} (Ħ s.heap (o:={cls:=.type (nm t0),data:=.fields #[.ref t,.int 0 0]}) rfl);rw[e1]at g2⊢;exact⟨⟨_,g2,rfl⟩,h _ g2 ⟨_,g1,rfl,rfl⟩ λc o x=>ÿ _ (ÿ _ x)⟩
def Ite(t0:Bool)(K:Frag)(a:Addr):It:=⟨λi H=>∃xs x,SQ t0 K H a xs/\xs[i]?=some x,λi H v H'=>∃T,H T=none/\v=.ref T/\∀xs,SQ t0 K H a xs->∃x,xs[i]?=some x/\H'=upd H T (.tup [.int i,x]),λi H=>∃xs,SQ t0 K H a xs/\xs.length<=i⟩
def tne(t0:Bool)(e it a:Addr)(i:Nat)(h:Heap):Prop:=(∃old,IsEnum h e it i old)/\Io t0 h it a i
theorem Ay{K:Frag}(Jn:e≠it)(R0:e≠a)(R1:a≠it):Ł P w K (.Tuple es k pos) (Ite t0 K a) [e,it] e (tne t0 e it a)where
 mem:=by simp
 obj:=λi h st c hc=>by
  obtain⟨⟨old,s1⟩,⟨o4,s4,c4,d4⟩⟩:=st;simp only[List.mem_cons,List.not_mem_nil,or_false]at hc;rcases hc with z|z<;>subst z;.exact⟨_,s1,λv q=>by cases q⟩
  .exact⟨_,s4,λv q=>by rw[d4]at q;cases q⟩
 keep:=λi h h' st kp=>by obtain⟨⟨old,s1⟩,s4⟩:=st;exact⟨⟨old,kp e Z2 _ s1⟩,s4.at λo z=>kp it Z2 o z⟩
 item:=by
  intro X hP hw hK hc i Z7 s σ H E I hf st hg;subst hP hw hK;obtain⟨⟨old,s1⟩,s4⟩:=st;obtain⟨xs,x,qv,hx⟩:=hg;obtain⟨Z8,rv,p,_⟩:=mK I qv;obtain⟨ux,Fn,rx⟩:=rv.get hx;have aE:i<Z8.toArray.size:=by have:=(ĩ.mp Fn).1;simpa using this
  have D:=draws (t:=t0) (prog:=X.prog) (w:=X.w) (A:=X.A.in1) (I.ok.hd hc) it a R1 Z8.toArray;refine wpAny_pyNext_enum_itemD D s1 ⟨s4,p⟩ aE Jn (by simp[Jn,R0]) λu h1 tk hu g1 g3 g5 g6 kp=>?_;have eu:u=ux:=by have hu:Z8.toArray[i]?=some u:=hu;rw[List.getElem?_toArray,Fn]at hu;exact(ŉ hu).symm
  subst eu;refine⟨_,rfl,?_⟩;refine wpAny_letOwnedTupleGo_enum g1 λh2 e1 sb=>?_;have live:∀c,c∈[e,it]->∃o,s.heap.get? c=some o:=λc bg=>by
   simp only[List.mem_cons,List.not_mem_nil,or_false]at bg;rcases bg with q|q<;>subst q;.exact⟨_,s1⟩
   .obtain⟨o,h,_⟩:=s4;exact⟨o,h⟩
  have ne:∀c,c∈[e,it]->c≠s.heap.objs.size:=λc bg z=>by obtain⟨o,ho⟩:=live c bg;exact absurd (ö ho) (by rw[z];exact Θ _)
  have hT:H s.heap.objs.size=none:=I.hok.fresh (Ø _);have kept:∀c o,c∉[e,it]->s.heap.get? c=some o->h2.get? c=some o:=λc o bg z=>sb.extBut _ _ (λq=>bg (by simp[q])) (kp c o (λq=>bg (by simp[q])) (λq=>bg (by simp[q])) z);have trk:∀c o,H c=some o->c∉[e,it]:=λc o z bg=>by have:=(hf c bg).1;rw[z]at this;cases this
  have xy:h2.get? s.heap.objs.size=some {cls:=.type "tuple",data:=.seq #[.int i tk,u]}:=sb.extBut _ _ (Ne.symm (ne e Z2)) g5;have mm:û X.prog X.w (upd H s.heap.objs.size (.tup [.int i,x])) h2:=λc o z=>by
   by_cases hb:c=s.heap.objs.size;.subst hb;rw[aj]at z;cases z;exact⟨by show 2<=sizeLine;decide,[.int i tk,u],.cons ⟨tk,rfl⟩ (.cons rx .nil),_,xy,rfl,_,rfl⟩
   .rw[aq hb]at z;refine(I.hok c o z).stay (λd v hd q=>kept d v ?_ q) (λd q=>by rw[aq (az q hT)];exact q) λd l q=>by rw[aq (az q hT)];exact q
    rcases hd with e'|e';.rw[e'];exact trk c o z
    .exact trk d _ e'
  have I2:Ä X Z7 σ (upd H s.heap.objs.size (.tup [.int i,x])) {s with heap:=h2,toks:=tk+1}:=by
   refine I.step (g':=s.gens) (d':=s.drawn) (t':=tk+1) (ch:=[e,it]) (λc bg=>?_) (λc o _ _ hn z _=>kept c o hn z) (λc o _ _ hn z _=>⟨o.slots,kept c o hn z⟩) (λc o _ z n=>by rw[aq (ę (ö z))];exact n) (λc o hn z=>⟨o,kept c o hn z⟩) (λc l z=>by rw[aq (az z hT)];exact z) (λc o l z=>by rw[aq (az z hT)];exact z) (λc l z=>⟨#[],by rw[aq (az z hT),z];simp⟩) (λm hm=>?_) mm I.bare;.obtain⟨f0,f1,f2,f3,f4,f5⟩:=hf c bg;exact⟨f3,f1,f4,f5⟩
   .obtain⟨o,gz,ep,ho,r⟩:=hm;refine⟨o,gz,ep,kept _ o (λbg=>?_) ho,r⟩;exact(hf _ bg).2.1 rfl
  refine⟨.ref s.heap.objs.size,_,I2,rfl,⟨s.heap.objs.size,hT,rfl,λCH AI=>⟨x,?_,rfl⟩⟩,⟨⟨u,?_⟩,?_⟩,λc bg=>?_⟩;.rw[wX I AI qv];exact hx
  .have:=e1;rw[show(((i+1:Nat):Int))=(i:Int)+1 by lia];exact this
  .exact g3.1.extBut sb.extBut Jn.symm
  .rw[aq (ne c bg)];exact(hf c bg).1
 done:=by
  intro X hP hw hK hc i Z7 s σ H E I hf st hg;subst hP hw hK;obtain⟨⟨old,s1⟩,s4⟩:=st;obtain⟨xs,qv,hlen⟩:=hg;obtain⟨Z8,rv,p,_⟩:=mK I qv;have hl:=rv.length;have hT:s.TypeIs (.ref e) "enumerate":=⟨_,s1,rfl⟩;have fin:∀h',Heap.ExtBut it s.heap h'->Ä X Z7 σ H {s with heap:=h'}:=λh' kp=>by obtain⟨f0,f1,f2,f3,f4,f5⟩:=hf it Z2;exact I.turned (t':=s.toks) (λb o hb z=>kp b o hb z) f0 f1 f3 f4 f5
  unfold pyNext;refine Â (wpAny_attempt (wpAny_callSpecial?_slot (name:=Str.ofString "__next__") hT F.slot_enumerate_next (wpAny_call_entry F.slot_enumerate_next hT F.entry_enumerate_next ?_ (F.args_enumerate_next_1 _))));show wpAny _ _ (field (.ref e) 2>>=_) _ _ _;refine Â (wpAny_field s1 rfl (x:=.ref it) rfl ?_);refine Â (wY (I.ok.hd hc) s4 p (by simp;lia) λh' x Fc cm=>?_);obtain⟨o,ho,R3⟩:=cm;refine Â (wpAny_isInstance (T:="StopIteration") (b:=true) ⟨o,ho,R3⟩ isSubtype_stop (Ô ⟨rfl,fin h' Fc⟩))
 self:=λ_ _ _ _ _ st h=>wpAny_pyIter_enum st.1.choose_spec h
section
def Lx(t0:Bool)(K:Frag)(t:TA):TI:=λσ H R=>t σ H λvs H1=>∃a xs,vs=[.ref a]/\SQ t0 K H1 a xs/\R (Ite t0 K a) H1
theorem pi_enum(t0:Bool)(hg:Gl X "enumerate")(hm:X.mg "enumerate"=none)(ha:PA X [a] ta)(hs:starEach [a] X.env=[(false,eval a X.env)]:=by rfl):PI X (.Tuple es k tp) (.Call (.Name "enumerate" p) [a] [] pos) (Lx t0 X.K ta):=by
 intro Z7 s σ H R I h;refine Call_ (jt I hg hm boot_enumerate (PyProof.Rows.callWith_type1 (Õ (ha pos Z7 s σ H _ I h) λus s1=>?_) hs rfl));rintro⟨vs,H1,I1,r1,q1⟩;obtain⟨x,xs,e,hx,q⟩:=q1;subst e;obtain⟨u,rfl,ru⟩:=ò r1;cases ru;obtain⟨Z8,_,p1,_⟩:=mK I1 hx;refine qm p1 λh' z1 z4 kp=>?_;refine wpAny_pyIter_enum z1 ?_;have lx:x<s1.heap.objs.size:=by obtain⟨_,e,_⟩:=p1;exact ö e
 refine⟨_,_,_,_,H1,rfl,I1.kept (t':=s1.toks) kp,Ay (e:=s1.heap.objs.size+1) (it:=s1.heap.objs.size) (a:=x) (Nat.succ_ne_self _) (ϧ (Nat.lt_succ_of_lt lx)) (ę lx),⟨⟨_,z1⟩,z4⟩,λc hc=>?_,q⟩;have hle:s1.heap.objs.size<=c:=by grind
 exact I1.fpOk hle (I1.hok.fresh hle)
end
theorem for_enum(t0:Bool){K:Frag}{g:TG}{tb:TS}{D:Ň}{σ:St}{H:Hp}(Pv:Nat->St->Hp->Prop)(h0:Pv 0 σ H)(hl:∀i σ H,i<=xs.length->Pv i σ H->SQ t0 K H a xs)(hs:∀i x σ H T,xs[i]?=some x->Pv i σ H->H T=none->g (.ref T) σ (upd H T (.tup [.int i,x])) λbo H2=>tb {D with nx:=Pv (i+1),ct:=Pv (i+1),bk:=D.nx} bo H2)(hd:∀σ H,Pv xs.length σ H->D.nx σ H):∃W:Nat->Nat->St->Hp->Prop,(∃m,W 0 m σ H)/\∀i m σ H,W i m σ H->((Ite t0 K a).stop i H/\D.nx σ H)\/((Ite t0 K a).go i H/\∃N,(∀af H',N af H'->∃m',m'<m/\W (i+1) m' af H')/\∀x H',(Ite t0 K a).yld i H x H'->g x σ H' λbo H2=>tb {D with nx:=N,ct:=N,bk:=D.nx} bo H2):=by
 refine⟨λi m σ H=>m=xs.length-i/\i<=xs.length/\Pv i σ H,⟨xs.length,by simp,Ě _,h0⟩,?_⟩;rintro i m σ H⟨rfl,hi,p⟩;have q:=hl i σ H hi p;by_cases aE:i<xs.length;.refine .inr ⟨⟨xs,xs[i],q,by simp[aE]⟩,Pv (i+1),λaf H' p'=>⟨xs.length-(i+1),Z1,rfl,aE,p'⟩,λx H' y=>?_⟩;obtain⟨T,nT,rfl,y⟩:=y;obtain⟨x,ex,rfl⟩:=y xs q;exact hs i x σ H T ex p nT
 .have e:i=xs.length:=Z1;subst e;exact .inl ⟨⟨xs,q,Ø _⟩,hd σ H p⟩
end L2.ZT
namespace L2
open PySem PySem.Spec PyProof.Rows
section
theorem qp(hc:X.calm=true):dF X (.builtin "min") (λxs H Q=>∃(p:Addr)(ns:PP),xs=[.ref p]/\É X.K H p (ns.map V.int)/\ns≠[]/\∀M,M∈ns->(∀a∈ns,M<=a)->Q (.int M) H):=by
 intro Z7 s σ H xs us Q I r h;obtain⟨p,ns,rfl,hq,gE,q⟩:=h;obtain⟨u,rfl,ru⟩:=ò r;cases ru;obtain⟨Z8,rv,pl,hz⟩:=I.list hq;have hi:IntsAre Z8 ns:=ĝ rv;obtain⟨zs,ez⟩:=(hi.allInts:AllInts Z8.toArray).items;have en:numsOf Z8=ns:=hi.numsOf;have hl:s.heap.IsList p (intItems zs):=ez▸pl.isList;have aS:0<zs.size:=by
  have e1:(intItems zs).size=Z8.length:=by rw[<-ez,Ď]
  have e2:=rv.length;rw[Ð]at e2;have e3:0<ns.length:=List.length_pos_iff.mpr gE;simp only[intItems,Array.size_map]at e1;lia
 have hn:numsOf (intItems zs).toList=ns:=by rw[<-ez];exact en
 refine min_intList (I.ok.hd hc) hl aS λv h' tk hv hk=>?_;obtain⟨t,rfl⟩:=intItems_at hv;obtain⟨h1,h2⟩:=argBest_lt (numAt zs) (zs.size-1);rw[nums_intItems]at hn;refine⟨.int _,H,I.kept (t':=tk) hk,⟨t,rfl⟩,q _ ?_ λa ha=>?_⟩;.rw[<-hn,numAt_eq];exact getD_mem (by rw[Ð,ő];lia)
 .rw[<-hn]at ha;obtain⟨j,hj,rfl⟩:=mem_getD ha;rw[Ð,ő]at hj;rw[<-numAt_eq];exact h2 j Z1
inductive χ(K:Frag)(x:V)(y:V)(H:Hp)(Q:VK):Prop|mk:∀a b ys,(x=.ref a)->(y=.ref b)->(Ê K H a [])->(Ê K H b ys)->(Q (.ref b) H)->χ K x y H Q
def JL(K:Frag):R2:=λx y H Q=>χ K x y H Q
open Builtin in
theorem Dn(l b:Addr)(Z8:Qa0)(n m:Nat)(dd AG:Option Addr)(sl kz:Array (Option Value)):Meets (Builtin.«tuple.__add__» ⟨[.ref l,.ref b],[]⟩) (λ_ R s=>s.heap.get? l=some {cls:=.type "tuple",dict:=dd,data:=.seq #[] n,slots:=sl}/\s.heap.get? b=some {cls:=.type "tuple",dict:=AG,data:=.seq Z8 m,slots:=kz}/\R (.ok (.ret (.ref b))) s):=by refine .of_wp λprog w A R s h=>?_;obtain⟨hl,hb,h⟩:=h;have f2:=PySem.AutoSeq1.sub_tuple_tuple;wp_walk;exact⟨_,rfl,h⟩
theorem Do:Ē X (binaryOp .Add) (JL X.K):=by intro Z7 s σ H x y v u Q I rx ry h;obtain⟨a,b,ys,rfl,rfl,ha,hb,q⟩:=h;cases rx;cases ry;obtain⟨Z8,r1,p1,_⟩:=I.tuple ha;obtain⟨cq,r2,p2,_⟩:=I.tuple hb;have e:Z8=[]:=r1.zero;subst e;obtain⟨⟨cls,dd,data,sl⟩,ho,hc,n,hd⟩:=id p1;obtain⟨⟨IB,AG,data2,kz⟩,qa,wt,n2,hd2⟩:=id p2;simp only at hc hd wt hd2;subst hc hd wt hd2;exact concat_meets ⟨_,ho,rfl⟩ ⟨_,qa,rfl⟩ noFill_tuple_add seq_tuple_add PySem.F.slot_tuple_add PySem.F.entry_tuple_add (PySem.F.args_tuple_add_2 _ _) (Dn a b cq.toArray n n2 dd AG sl kz) ⟨ho,qa,.ref b,H,I,rfl,q⟩
theorem Dp:Ē X (binaryOp .Add) (λx y H Q=>∃a b xs ys,x=.ref a/\y=.ref b/\Ê X.K H a xs/\Ê X.K H b ys/\ys≠[]/\xs.length+ys.length<=sizeLine/\(xs=[]->Q (.ref b) H)/\(xs≠[]->∀p,H p=none->Q (.ref p) (upd H p (.tup (xs++ys))))):=by
 intro Z7 s σ H x y v u Q I rx ry h;obtain⟨a,b,xs,ys,rfl,rfl,ha,hb,hy,hz,q1,q2⟩:=h;by_cases hx:xs=[];.subst hx;exact Do Z7 s σ H _ _ v u Q I rx ry ⟨a,b,ys,rfl,rfl,ha,hb,q1 rfl⟩
 .exact yu Z7 s σ H _ _ v u Q I rx ry ⟨a,b,xs,ys,rfl,rfl,ha,hb,hx,hz,λz=>absurd z hy,λ_=>q2 hx⟩
end
section
open HT in
theorem jU{lo hi:Option Int}(ht:IsTup s.heap t items)(hs:s.heap.IsSliceOf sl vl vu .none)(pl:IsPart vl lo)(pu:IsPart vu hi)(h1:sIx items.size 0 lo=0)(h2:sIx items.size items.size hi=items.size)(h:Q (.ref t) s):wpAny (model prog w) A (getItem (.ref t) (.ref sl)) Q E s:=by
 obtain⟨os,wx,E8,BU⟩:=id hs;have IC:s.TypeIs (.ref sl) "slice":=⟨os,wx,E8⟩;unfold getItem;try with_reducible refine wpAny_holding ?_
 first|refine Â (Ô ?_)|skip
 refine Â (wpAny_sequenceKey ht.typeIs Z3 ?_);refine Â (wpAny_callSpecial?_slot (name:=Str.ofString "__getitem__") ht.typeIs PyProof.Rows.slot_tuple_getitem (wpAny_call_entry PyProof.Rows.slot_tuple_getitem ht.typeIs entry_tuple_getitem ?_ (args_tuple_getitem _ _)));show wpAny _ _ (Builtin.Tuple.tupleItemsOf (.ref t)>>=_) _ _ s;refine Â (tupleItemsOf_ ht ?_);refine Â (wpAny_typeOf IC ?_);refine Â (gY hs pl pu ?_);rw[h1,h2];show wpAny _ _ (if((((0:Nat):Int))==0&&(1:Int)==1&&(items.size-0)==items.size)=true then _ else _) _ _ s;rw[È Z2];refine Â (Â (wpAny_typeOf ht.typeIs (Ô ?_)));rw[È Z3];exact Â (wpAny_rule (Ô ⟨_,rfl,Ô h⟩))
end
section
inductive Z0d(K:Frag)(x:V)(lo:Option Int)(hi:Option Int)(H:Hp)(Q:VK):Prop|mk:∀a xs,(x=.ref a)->(Ê K H a xs)->(((HT.sIx xs.length 0 lo=0/\HT.sIx xs.length xs.length hi=xs.length)->Q (.ref a) H))->((¬(HT.sIx xs.length 0 lo=0/\HT.sIx xs.length xs.length hi=xs.length)->∀p,H p=none->Q (.ref p) (upd H p (.tup (ju xs lo hi)))))->Z0d K x lo hi H Q
def Nv(K:Frag):V->Option Int->Option Int->Hp->VK->Prop:=λx lo hi H Q=>Z0d K x lo hi H Q
theorem yG:SlR X (Nv X.K):=by
 intro Z7 s σ H x v vl vu lo hi sl Q I rx hs pl pu h;obtain⟨a,xs,rfl,hx,q1,q2⟩:=h;by_cases hw:HT.sIx xs.length 0 lo=0/\HT.sIx xs.length xs.length hi=xs.length
 .cases rx;obtain⟨Z8,r,ht,hz⟩:=I.tuple hx;have hlen:Z8.toArray.size=xs.length:=by rw[Ď];exact r.length.symm
  refine⟨"tuple",_,PyProof.Rows.slot_tuple_getitem.lookup,ht.typeIs,?_⟩;exact jU ht hs pl pu (by rw[hlen];exact hw.1) (by rw[hlen];exact hw.2) ⟨.ref a,H,I,rfl,q1 hw⟩
 .exact Ju Z7 s σ H _ v vl vu lo hi sl Q I rx hs pl pu ⟨a,xs,rfl,hx,hw,q2 hw⟩
end
section
end
section
end
end L2
namespace L2.ZT
open PySem PySem.Spec PyProof.Rows L2
section
theorem uV{z TI TO i1 i2 l1 l2:Addr}(D:ZipApart z TI TO i1 i2 l1 l2)(hz:IsZip s.heap z TI TO .none)(JA:IsPair s.heap TI (.ref i1) (.ref i2))(N1:IsPair s.heap TO a b)(h1:Io t1 s.heap i1 l1 k)(h2:Io t2 s.heap i2 l2 k)(dQ:Sq t1 s.heap l1 xs)(eC:Sq t2 s.heap l2 ys)(hx:xs[k]?=some x)(hy:ys[k]?=some y)(hQ:∀h',IsZip h' z TI TO (rawInt s.heap.objs.size)->IsPair h' TO x y->Io t1 h' i1 l1 (k+1)->Io t2 h' i2 l2 (k+1)->IsPair h' s.heap.objs.size x y->h'.objs.size=s.heap.objs.size+1->(∀c o,c≠z->c≠TO->c≠i1->c≠i2->s.heap.get? c=some o->h'.get? c=some o)->Q (some (.ref s.heap.objs.size)) {s with heap:=h'}):wpAny (model prog w) A (pyNext (.ref z)) Q E s:=by
 have hT:s.TypeIs (.ref z) "zip":=⟨_,hz,rfl⟩;unfold pyNext;refine Â (wpAny_attempt (wpAny_callSpecial?_slot (name:=Str.ofString "__next__") hT F.slot_zip_next (wpAny_call_entry F.slot_zip_next hT F.entry_zip_next ?_ (F.args_zip_next_1 _))));show wpAny _ _ (field (.ref z) 2>>=_) _ _ _;refine Â (wpAny_field hz rfl (x:=.bool false) rfl ?_);show wpAny _ _ (field (.ref z) 3>>=_) _ _ _;refine Â (wpAny_field hz rfl (x:=.ref TI) rfl (Â (wpAny_seqItems JA rfl ?_)));refine Â ?_;unfold Builtin.SmallTypes.ownedTupleIsFree;refine Â (wpAny_field hz rfl (x:=.none) rfl (Ô ?_));simp only[if_true];refine Â (wpAny_rule (Â (wpAny_field hz rfl (x:=.ref TO) rfl (Â (wpAny_setField_rec hz Z2 λg1 z1 s1=>?_)))));replace z1:IsZip g1 z TI TO .ellipsis:=z1;refine Â ?_;simp only[List.zipIdx_cons,List.zipIdx_nil,List.forIn_cons,List.forIn_nil];refine Â (Â (wpAny_onRaise ?_));show wpAny _ _ (Builtin.SmallTypes.nextOf (.ref i1)>>=_) _ _ _;refine Â (nx (h1.extBut s1.extBut D.i1z) (dQ.extBut s1.extBut D.l1z) hx λg2 q1 s2=>Ô ?_);have o2:IsPair g2 TO a b:=s2.extBut _ _ D.TOi1 (s1.extBut _ _ D.TOz N1);refine Â (wpAny_seqItems o2 rfl (Â (wpAny_updateSeq_pair o2 λg3 o3 s3=>?_)));replace o3:IsPair g3 TO x b:=o3;refine Â (wpAny_letGo (Ô (Â (Â (wpAny_onRaise ?_)))));show wpAny _ _ (Builtin.SmallTypes.nextOf (.ref i2)>>=_) _ _ _;refine Â (nx (((h2.extBut s1.extBut D.i2z).extBut s2.extBut D.i12.symm).extBut s3.extBut D.TOi2.symm) (((eC.extBut s1.extBut D.l2z).extBut s2.extBut D.l2i1).extBut s3.extBut D.l2TO) hy λg4 q2 s4=>Ô ?_);have o4:IsPair g4 TO x b:=s4.extBut _ _ D.TOi2 o3;refine Â (wpAny_seqItems o4 rfl (Â (wpAny_updateSeq_pair o4 λg5 o5 s5=>?_)));replace o5:IsPair g5 TO x y:=o5;refine Â (wpAny_letGo (Ô (Ô (Â (wpAny_seqItems o5 rfl (Â (wpAny_newTuple ?_)))))));have hsz:g5.objs.size=s.heap.objs.size:=by rw[s5.1,s4.1,s3.1,s2.1,s1.1]
 have z5:IsZip g5 z TI TO .ellipsis:=s5.extBut _ _ D.TOz.symm (s4.extBut _ _ D.i2z.symm (s3.extBut _ _ D.TOz.symm (s2.extBut _ _ D.i1z.symm z1)));have k5:∀c o,c≠z->c≠TO->c≠i1->c≠i2->s.heap.get? c=some o->g5.get? c=some o:=λc o c1 c2 c3 c4 e=>s5.extBut _ _ c2 (s4.extBut _ _ c4 (s3.extBut _ _ c2 (s2.extBut _ _ c3 (s1.extBut _ _ c1 e))));have p1:Io t1 g5 i1 l1 (k+1):=((q1.extBut s3.extBut D.TOi1.symm).extBut s4.extBut D.i12).extBut s5.extBut D.TOi1.symm;have p2:Io t2 g5 i2 l2 (k+1):=q2.extBut s5.extBut D.TOi2.symm;have N4:z<g5.objs.size:=ö z5;refine Â ?_;unfold Builtin.SmallTypes.ownedTupleHandOut;have z6:IsZip (g5.push {cls:=.type "tuple",data:=.seq #[x,y]}) z TI TO .ellipsis:=ÿ _ z5;refine Â (wpAny_setField_rec z6 Z2 λg7 z7 s7=>?_);replace z7:IsZip g7 z TI TO (rawInt g5.objs.size):=z7;refine wpAny_setField_rec z7 Z2 λg8 z8 s8=>?_;replace z8:IsZip g8 z TI TO (rawInt g5.objs.size):=z8;have up:∀c o,c≠z->g5.get? c=some o->g8.get? c=some o:=λc o c1 e=>s8.extBut _ _ c1 (s7.extBut _ _ c1 (ÿ _ e));have t8:IsPair g8 g5.objs.size x y:=s8.extBut _ _ (ϧ N4) (s7.extBut _ _ (ϧ N4) (Ħ _ rfl));have n8:g8.objs.size=g5.objs.size+1:=by rw[s8.1,s7.1,Heap.size_push]
 rw[hsz]at z8 t8 n8;refine Ô ⟨_,rfl,Ô ?_⟩;show Q (some (.ref g5.objs.size)) _;rw[hsz];exact hQ g8 z8 (up _ _ D.TOz o5) (p1.at λo e=>up _ o D.i1z e) (p2.at λo e=>up _ o D.i2z e) t8 n8 λc o c1 c2 c3 c4 e=>up c o c1 (k5 c o c1 c2 c3 c4 e)
theorem wZ{z TI TO i1 i2 l1 l2:Addr}(hh:A.handled=none)(D:ZipApart z TI TO i1 i2 l1 l2)(hz:IsZip s.heap z TI TO .none)(JA:IsPair s.heap TI (.ref i1) (.ref i2))(N1:IsPair s.heap TO a b)(h1:Io t1 s.heap i1 l1 k)(dQ:Sq t1 s.heap l1 xs)(hx:xs[k]?=none)(hQ:∀h',(∀c o,c≠z->c≠i1->s.heap.get? c=some o->h'.get? c=some o)->Q none {s with heap:=h'}):wpAny (model prog w) A (pyNext (.ref z)) Q E s:=by
 have hT:s.TypeIs (.ref z) "zip":=⟨_,hz,rfl⟩;refine Â (wpAny_attempt (wpAny_callSpecial?_slot (name:=Str.ofString "__next__") hT F.slot_zip_next (wpAny_call_entry F.slot_zip_next hT F.entry_zip_next ?_ (F.args_zip_next_1 _))));show wpAny _ _ (field (.ref z) 2>>=_) _ _ _;refine Â (wpAny_field hz rfl (x:=.bool false) rfl ?_);refine Â (wpAny_field hz rfl (x:=.ref TI) rfl (Â (wpAny_seqItems JA rfl ?_)));refine Â ?_;refine Â (wpAny_field hz rfl (x:=.none) rfl (Ô ?_));refine Â (wpAny_rule (Â (wpAny_field hz rfl (x:=.ref TO) rfl (Â (wpAny_setField_rec hz Z2 λg1 z1 s1=>?_)))));replace z1:IsZip g1 z TI TO .ellipsis:=z1;refine Â ?_;refine Â (Â (wpAny_onRaise ?_));refine Â (wY hh (h1.extBut s1.extBut D.i1z) (dQ.extBut s1.extBut D.l1z) hx λg2 e s2 he=>?_);obtain⟨oe,JE,N9⟩:=he;have z2:IsZip g2 z TI TO .ellipsis:=s2 _ _ D.i1z.symm z1;have R4:e≠z:=λq=>by subst q;rw[z2]at JE;cases JE;simp at N9
 refine wpAny_setField_rec z2 Z2 λg3 _ s3=>?_;refine Â (wpAny_isInstance (T:="StopIteration") (b:=true) ⟨oe,s3.extBut _ _ R4 JE,N9⟩ isSubtype_stop (Ô (hQ _ λc o c1 c2 q=>s3.extBut _ _ c1 (s2 _ _ c2 (s1.extBut _ _ c1 q)))))
end
abbrev zA(t1:Bool)(h:Heap)(t:Addr):Heap:=h.push {cls:=.type (nm t1),data:=.fields #[.ref t,.int 0 0]}
abbrev zB(t1 t2:Bool)(h:Heap)(t l:Addr):Heap:=(zA t1 h t).push {cls:=.type (nm t2),data:=.fields #[.ref l,.int 0 0]}
abbrev zC(t1 t2:Bool)(h:Heap)(t l:Addr):Heap:=(zB t1 t2 h t l).push {cls:=.type "tuple",data:=.seq #[.ref h.objs.size,.ref (zA t1 h t).objs.size]}
abbrev zD(t1 t2:Bool)(h:Heap)(t l:Addr):Heap:=(zC t1 t2 h t l).push {cls:=.type "tuple",data:=.seq #[.none,.none]}
abbrev zE(t1 t2:Bool)(h:Heap)(t l:Addr):Heap:=(zD t1 t2 h t l).push {cls:=.type "zip",data:=.fields #[.none,.bool false,.bool false,.ref (zB t1 t2 h t l).objs.size,.ref (zC t1 t2 h t l).objs.size]}
theorem tG(t l:Addr)(xs ys:Qa0):Meets (Builtin.«zip.__new__» ⟨[.type "zip",.ref t,.ref l],[]⟩) (λ_ R s=>Sq t1 s.heap t xs/\Sq t2 s.heap l ys/\R (.ok (.ret (.ref (zD t1 t2 s.heap t l).objs.size))) {s with heap:=zE t1 t2 s.heap t l}):=.of_wp λprog w A R s h=>by obtain⟨hp,g,d,tk,os⟩:=s;obtain⟨ht,hl,h⟩:=h;have IZ:=sub_zip;have hT:Sq t1 (Shared.heap ⟨hp,g,d,tk,os⟩) t xs:=ht;have hL:Sq t2 (Shared.heap ⟨hp.push {cls:=.type (nm t1),data:=.fields #[.ref t,.int 0 0]},g,d,tk,os⟩) l ys:=hl.at λo e=>ÿ _ e;wp_walk using ph hT,ph hL;exact⟨_,rfl,h⟩
theorem uW{s:Shared}(ht:Sq t1 s.heap t xs)(hl:Sq t2 s.heap l ys)(h:∀h',IsZip h' (s.heap.objs.size+4) (s.heap.objs.size+2) (s.heap.objs.size+3) .none->IsPair h' (s.heap.objs.size+2) (.ref s.heap.objs.size) (.ref (s.heap.objs.size+1))->IsPair h' (s.heap.objs.size+3) .none .none->Io t1 h' s.heap.objs.size t 0->Io t2 h' (s.heap.objs.size+1) l 0->(∀c o,s.heap.get? c=some o->h'.get? c=some o)->Q (.ref (s.heap.objs.size+4)) {s with heap:=h'}):wpAny (model prog w) A (call (.type "zip") [.ref t,.ref l]) Q E s:=by
 refine callType_new F.called_zip Z3 (F.typeCall_zip_2 _ _) (F.newCall_zip_2 _ _) (λobj=>F.args_object_init_3 obj _ _) F.entry_zip_new (tG t l xs ys) ⟨ht,hl,?_⟩;have e1:(zA t1 s.heap t).objs.size=s.heap.objs.size+1:=Heap.size_push ..;have e2:(zB t1 t2 s.heap t l).objs.size=s.heap.objs.size+2:=by rw[Heap.size_push,e1]
 have e3:(zC t1 t2 s.heap t l).objs.size=s.heap.objs.size+3:=by rw[Heap.size_push,e2]
 have e4:(zD t1 t2 s.heap t l).objs.size=s.heap.objs.size+4:=by rw[Heap.size_push,e3]
 have Of:∀{c o},(zD t1 t2 s.heap t l).get? c=some o->(zE t1 t2 s.heap t l).get? c=some o:=λe=>ÿ _ e;have Oq:∀{c o},(zC t1 t2 s.heap t l).get? c=some o->(zE t1 t2 s.heap t l).get? c=some o:=λe=>Of (ÿ _ e);have Ot:∀{c o},(zB t1 t2 s.heap t l).get? c=some o->(zE t1 t2 s.heap t l).get? c=some o:=λe=>Oq (ÿ _ e);have up1:∀{c o},(zA t1 s.heap t).get? c=some o->(zE t1 t2 s.heap t l).get? c=some o:=λe=>Ot (ÿ _ e);have g5:(zE t1 t2 s.heap t l).get? (zD t1 t2 s.heap t l).objs.size=some _:=Ħ _ rfl;have g4:(zE t1 t2 s.heap t l).get? (zC t1 t2 s.heap t l).objs.size=some _:=Of (Ħ _ rfl);have g3:(zE t1 t2 s.heap t l).get? (zB t1 t2 s.heap t l).objs.size=some _:=Oq (Ħ _ rfl);have g2:(zE t1 t2 s.heap t l).get? (zA t1 s.heap t).objs.size=some _:=Ot (Ħ _ rfl);have g1:(zE t1 t2 s.heap t l).get? s.heap.objs.size=some _:=up1 (Ħ _ rfl);rw[e4,e2,e3]at g5;rw[e2,e1]at g3;rw[e3]at g4;rw[e1]at g2;rw[e4];exact⟨⟨_,g5,rfl⟩,h _ g5 g3 g4 ⟨_,g1,rfl,rfl⟩ ⟨_,g2,rfl,rfl⟩ λc o x=>up1 (ÿ _ x)⟩
def Itz(t1 t2:Bool)(K:Frag)(a b:Addr):It:=⟨λi H=>∃xs ys x y,SQ t1 K H a xs/\SQ t2 K H b ys/\xs[i]?=some x/\ys[i]?=some y,λi H v H'=>∃T,H T=none/\v=.ref T/\∀xs ys,SQ t1 K H a xs->SQ t2 K H b ys->∃x y,xs[i]?=some x/\ys[i]?=some y/\H'=upd H T (.tup [x,y]),λi H=>∃xs,SQ t1 K H a xs/\xs.length<=i⟩
def tnz(t1 t2:Bool)(z TI TO i1 i2 a b:Addr)(i:Nat)(h:Heap):Prop:=IsZip h z TI TO .none/\IsPair h TI (.ref i1) (.ref i2)/\(∃u v,IsPair h TO u v)/\Io t1 h i1 a i/\Io t2 h i2 b i
theorem Dq{K:Frag}{z TI TO i1 i2 a b:Addr}(D:ZipApart z TI TO i1 i2 a b):Ł P w K (.Tuple es k pos) (Itz t1 t2 K a b) [z,TI,TO,i1,i2] z (tnz t1 t2 z TI TO i1 i2 a b)where
 mem:=by simp
 obj:=λi h st c hc=>by
  obtain⟨s1,s2,⟨u,v,s3⟩,⟨o4,s4,c4,d4⟩,⟨o5,s5,c5,d5⟩⟩:=st;simp only[List.mem_cons,List.not_mem_nil,or_false]at hc;rcases hc with e|e|e|e|e<;>subst e;.exact⟨_,s1,λv q=>by cases q⟩
  .exact⟨_,s2,λv q=>by cases q⟩
  .exact⟨_,s3,λv q=>by cases q⟩
  .exact⟨_,s4,λv q=>by rw[d4]at q;cases q⟩
  .exact⟨_,s5,λv q=>by rw[d5]at q;cases q⟩
 keep:=λi h h' st kp=>by obtain⟨s1,s2,⟨u,v,s3⟩,s4,s5⟩:=st;exact⟨kp z Z2 _ s1,kp TI Z2 _ s2,⟨u,v,kp TO Z2 _ s3⟩,s4.at λo e=>kp i1 Z2 o e,s5.at λo e=>kp i2 Z2 o e⟩
 item:=by
  intro X hP hw hK hc i Z7 s σ H E I hf st hg;subst hP hw hK;obtain⟨s1,s2,⟨u,v,s3⟩,s4,s5⟩:=st;obtain⟨xs,ys,x,y,qv,Ou,hx,hy⟩:=hg;obtain⟨Z8,rv,p,_⟩:=mK I qv;obtain⟨R5,fI,q,_⟩:=mK I Ou;obtain⟨ux,Fn,rx⟩:=rv.get hx;obtain⟨uy,R6,ry⟩:=fI.get hy;refine uV D s1 s2 s3 s4 s5 p q (x:=ux) (y:=uy) (by simpa using Fn) (by simpa using R6) λh1 g1 g2 g3 g4 g5 g6 kp=>?_;refine⟨_,rfl,?_⟩;refine wpAny_letOwnedTupleGo_zip g1 λh2 e1 sb=>?_;have ne:∀c,c∈[z,TI,TO,i1,i2]->c≠s.heap.objs.size:=λc bg e=>by
   obtain⟨f0,f1,f2,f3,f4,f5⟩:=hf c bg;have:∃o,s.heap.get? c=some o:=by
    simp only[List.mem_cons,List.not_mem_nil,or_false]at bg;rcases bg with q|q|q|q|q<;>subst q;.exact⟨_,s1⟩
    .exact⟨_,s2⟩
    .exact⟨_,s3⟩
    .obtain⟨o,h,_⟩:=s4;exact⟨o,h⟩
    .obtain⟨o,h,_⟩:=s5;exact⟨o,h⟩
   obtain⟨o,ho⟩:=this;exact absurd (ö ho) (by rw[e];exact Θ _)
  have hT:H s.heap.objs.size=none:=I.hok.fresh (Ø _);have kept:∀c o,c∉[z,TO,i1,i2]->s.heap.get? c=some o->h2.get? c=some o:=λc o bg e=>sb.extBut _ _ (λq=>bg (by simp[q])) (kp c o (λq=>bg (by simp[q])) (λq=>bg (by simp[q])) (λq=>bg (by simp[q])) (λq=>bg (by simp[q])) e);have CI:∀c,c∈[z,TO,i1,i2]->c∈[z,TI,TO,i1,i2]:=λc bg=>by simp only[List.mem_cons,List.not_mem_nil,or_false]at bg⊢;rcases bg with q|q|q|q<;>simp[q]
  have trk:∀c o,H c=some o->c∉[z,TO,i1,i2]:=λc o e bg=>by have:=(hf c (CI c bg)).1;rw[e]at this;cases this
  have xy:h2.get? s.heap.objs.size=some {cls:=.type "tuple",data:=.seq #[ux,uy]}:=sb.extBut _ _ (Ne.symm (ne z Z2)) g5;have mm:û X.prog X.w (upd H s.heap.objs.size (.tup [x,y])) h2:=λc o e=>by
   by_cases hb:c=s.heap.objs.size;.subst hb;rw[aj]at e;cases e;exact⟨by show 2<=sizeLine;decide,[ux,uy],.cons rx (.cons ry .nil),_,xy,rfl,_,rfl⟩
   .rw[aq hb]at e;refine(I.hok c o e).stay (λd v hd q=>kept d v ?_ q) (λd q=>by rw[aq (az q hT)];exact q) λd l q=>by rw[aq (az q hT)];exact q
    rcases hd with e'|e';.rw[e'];exact trk c o e
    .exact trk d _ e'
  have I2:Ä X Z7 σ (upd H s.heap.objs.size (.tup [x,y])) {s with heap:=h2}:=by
   refine I.step (g':=s.gens) (d':=s.drawn) (t':=s.toks) (ch:=[z,TO,i1,i2]) (λc bg=>?_) (λc o _ _ hn e _=>kept c o hn e) (λc o _ _ hn e _=>⟨o.slots,kept c o hn e⟩) (λc o _ e n=>by rw[aq (ę (ö e))];exact n) (λc o hn e=>⟨o,kept c o hn e⟩) (λc l e=>by rw[aq (az e hT)];exact e) (λc o l e=>by rw[aq (az e hT)];exact e) (λc l e=>⟨#[],by rw[aq (az e hT),e];simp⟩) (λm hm=>?_) mm I.bare;.obtain⟨f0,f1,f2,f3,f4,f5⟩:=hf c (CI c bg);exact⟨f3,f1,f4,f5⟩
   .obtain⟨o,gz,ep,ho,r⟩:=hm;refine⟨o,gz,ep,kept _ o (λbg=>?_) ho,r⟩;exact(hf _ (CI _ bg)).2.1 rfl
  refine⟨.ref s.heap.objs.size,_,I2,rfl,⟨s.heap.objs.size,hT,rfl,λCH cE AI R7=>⟨x,y,?_,?_,rfl⟩⟩,⟨e1,?_,?_,?_,?_⟩,λc bg=>?_⟩;.rw[wX I AI qv];exact hx
  .rw[wX I R7 Ou];exact hy
  .exact sb.extBut _ _ D.TIz (kp _ _ D.TIz D.TITO D.TIi1 D.TIi2 s2)
  .exact⟨_,_,sb.extBut _ _ D.TOz g2⟩
  .exact g3.extBut sb.extBut D.i1z
  .exact g4.extBut sb.extBut D.i2z
  .rw[aq (ne c bg)];exact(hf c bg).1
 done:=by
  intro X hP hw hK hc i Z7 s σ H E I hf st hg;subst hP hw hK;obtain⟨s1,s2,⟨u,v,s3⟩,s4,s5⟩:=st;obtain⟨xs,qv,hlen⟩:=hg;obtain⟨Z8,rv,p,_⟩:=mK I qv;have hl:=rv.length;refine wZ (I.ok.hd hc) D s1 s2 s3 s4 p (by simp;lia) λh' kp=>⟨rfl,?_⟩;refine I.step (h':=h') (H':=H) (g':=s.gens) (d':=s.drawn) (t':=s.toks) (ch:=[z,i1]) (λc bg=>?_) (λc o _ _ hn e _=>kp c o (λq=>hn (by simp[q])) (λq=>hn (by simp[q])) e) (λc o _ _ hn e _=>⟨o.slots,kp c o (λq=>hn (by simp[q])) (λq=>hn (by simp[q])) e⟩) (λc o _ e n=>n) (λc o hn e=>⟨o,kp c o (λq=>hn (by simp[q])) (λq=>hn (by simp[q])) e⟩) (λ_ _ e=>e) (λ_ _ _ e=>e) (λc l e=>⟨#[],by rw[e];simp⟩) (λm hm=>?_) (λc o e=>?_) I.bare
  .have:c∈[z,TI,TO,i1,i2]:=by simp only[List.mem_cons,List.not_mem_nil,or_false]at bg⊢;rcases bg with q|q<;>simp[q]
   obtain⟨f0,f1,f2,f3,f4,f5⟩:=hf c this;exact⟨f3,f1,f4,f5⟩
  .obtain⟨o,gz,ep,ho,r⟩:=hm;exact⟨o,gz,ep,kp _ o (Ne.symm (hf z Z2).2.1) (Ne.symm (hf i1 Z2).2.1) ho,r⟩
  .have nn:∀d v c',c'∈[z,TI,TO,i1,i2]->H d=some v->d≠c':=λd v c' bg q e'=>by have:=(hf c' bg).1;rw[<-e',q]at this;cases this
   have nz:∀d v,H d=some v->d≠z/\d≠i1:=λd v q=>⟨nn d v z Z2 q,nn d v i1 Z2 q⟩;refine(I.hok c o e).stay (λd v hd q=>?_) (λ_ q=>q) λ_ _ q=>q;rcases hd with e'|e';.rw[e']at q⊢;exact kp c v (nz c o e).1 (nz c o e).2 q
   .exact kp d v (nz d _ e').1 (nz d _ e').2 q
 self:=λ_ _ _ _ _ st h=>wpAny_pyIter_zip st.1 h
section
def Nx(t1 t2:Bool)(K:Frag)(t:TA):TI:=λσ H R=>t σ H λvs H1=>∃a b xs ys,vs=[.ref a,.ref b]/\SQ t1 K H1 a xs/\SQ t2 K H1 b ys/\R (Itz t1 t2 K a b) H1
theorem pi_zip(t1 t2:Bool){es:ϲ}{k:Nat}{tp:Pos}{p pos:Pos}(hg:Gl X "zip")(hm:X.mg "zip"=none)(ha:PA X [a,b] ta)(hs:starEach [a,b] X.env=[(false,eval a X.env),(false,eval b X.env)]:=by rfl)(lT:starEach [b] X.env=[(false,eval b X.env)]:=by rfl):PI X (.Tuple es k tp) (.Call (.Name "zip" p) [a,b] [] pos) (Nx t1 t2 X.K ta):=by
 intro Z7 s σ H R I h;refine Call_ (jt I hg hm boot_zip (PyProof.Rows.callWith_type1 (Õ (ha pos Z7 s σ H _ I h) λus s1=>?_) (by rw[hs,lT]) (by rw[lT];rfl)));rintro⟨vs,H1,I1,r1,q1⟩;obtain⟨x,y,xs,ys,e,hx,hy,q⟩:=q1;subst e;obtain⟨u,v,rfl,ru,rv⟩:=Œ r1;cases ru;cases rv;obtain⟨Z8,_,p1,_⟩:=mK I1 hx;obtain⟨R5,_,p2,_⟩:=mK I1 hy;refine uW p1 p2 λh' z1 z2 z3 z4 z5 kp=>?_;refine wpAny_pyIter_zip z1 ?_;have lx:x<s1.heap.objs.size:=by obtain⟨_,e,_⟩:=p1;exact ö e
 have ly:y<s1.heap.objs.size:=by obtain⟨_,e,_⟩:=p2;exact ö e
 refine⟨_,_,_,_,H1,rfl,I1.kept (t':=s1.toks) kp,Dq (zipApart_new lx ly),⟨z1,z2,⟨_,_,z3⟩,z4,z5⟩,λc hc=>?_,q⟩;have hle:s1.heap.objs.size<=c:=by grind
 exact I1.fpOk hle (I1.hok.fresh hle)
end
theorem for_zip{K:Frag}{g:TG}{tb:TS}{D:Ň}{σ:St}{H:Hp}(Pv:Nat->St->Hp->Prop)(he:xs.length=ys.length)(h0:Pv 0 σ H)(hl:∀i σ H,i<=xs.length->Pv i σ H->SQ t1 K H a xs/\SQ t2 K H b ys)(hs:∀i x y σ H T,xs[i]?=some x->ys[i]?=some y->Pv i σ H->H T=none->g (.ref T) σ (upd H T (.tup [x,y])) λbo H2=>tb {D with nx:=Pv (i+1),ct:=Pv (i+1),bk:=D.nx} bo H2)(hd:∀σ H,Pv xs.length σ H->D.nx σ H):∃W:Nat->Nat->St->Hp->Prop,(∃m,W 0 m σ H)/\∀i m σ H,W i m σ H->((Itz t1 t2 K a b).stop i H/\D.nx σ H)\/((Itz t1 t2 K a b).go i H/\∃N,(∀af H',N af H'->∃m',m'<m/\W (i+1) m' af H')/\∀x H',(Itz t1 t2 K a b).yld i H x H'->g x σ H' λbo H2=>tb {D with nx:=N,ct:=N,bk:=D.nx} bo H2):=by
 refine⟨λi m σ H=>m=xs.length-i/\i<=xs.length/\Pv i σ H,⟨xs.length,by simp,Ě _,h0⟩,?_⟩;rintro i m σ H⟨rfl,hi,p⟩;obtain⟨q1,q2⟩:=hl i σ H hi p;by_cases aE:i<xs.length;.have JI:i<ys.length:=Z1;refine .inr ⟨⟨xs,ys,xs[i],ys[i],q1,q2,by simp[aE],by simp[JI]⟩,Pv (i+1),λaf H' p'=>⟨xs.length-(i+1),Z1,rfl,aE,p'⟩,λv H' y=>?_⟩;obtain⟨T,nT,rfl,y⟩:=y;obtain⟨x,z,ex,ez,rfl⟩:=y xs ys q1 q2;exact hs i x z σ H T ex ez p nT
 .have e:i=xs.length:=Z1;subst e;exact .inl ⟨⟨xs,q1,Ø _⟩,hd σ H p⟩
end L2.ZT
namespace L2
open PySem PySem.Spec PyProof.Rows PySem.Calls
section
theorem cX(hc:X.calm=true):dF X (.builtin "sum") (λxs H Q=>∃(p:Addr)(ns:PP),xs=[.ref p]/\(É X.K H p (ns.map V.int)\/Ê X.K H p (ns.map V.int))/\Q (.int ns.sum) H):=by
 intro Z7 s σ H xs us Q I r h;obtain⟨p,ns,rfl,hq,q⟩:=h;obtain⟨u,rfl,ru⟩:=ò r;cases ru;have go:∀Z8:gV,Ë (ns.map V.int) Z8->∃zs:Array (Int×Tok),Z8.toArray=intItems zs/\preSum (numAt zs) zs.size=ns.sum:=λZ8 rv=>by have hi:IntsAre Z8 ns:=ĝ rv;obtain⟨zs,ez⟩:=(hi.allInts:AllInts Z8.toArray).items;refine⟨zs,ez,?_⟩;have en:numsOf Z8.toArray.toList=ns:=hi.numsOf;rw[ez,nums_intItems]at en;rw[preSum_eq,ϩ Z2,en]
 rcases hq with hq|hq;.obtain⟨Z8,rv,pl,hz⟩:=I.list hq;obtain⟨zs,ez,es⟩:=go Z8 rv;refine sum_intListG (I.ok.hd hc) (ez▸pl.isList) λh' tk t' hk=>?_;rw[es];exact⟨.int _,H,I.kept (t':=tk) hk,⟨t',rfl⟩,q⟩
 .obtain⟨Z8,rv,pl,hz⟩:=I.tuple hq;obtain⟨zs,ez,es⟩:=go Z8 rv;have ht:s.heap.IsTuple p Z8.toArray:=pl;refine PySem.W.ktm_sumG (I.ok.hd hc) (ez▸ht) λh' tk t' hk=>?_;rw[es];exact⟨.int _,H,I.kept (t':=tk) hk,⟨t',rfl⟩,q⟩
end
section
open PySem.W
end
section
end
end L2
namespace So
open PySem PyProof.Rows
def gO:Bool->Keyed->Array Keyed->Nat->Nat->Nat->StateT SortSt Sem (Option Nat):=sortPriv%PySem.Builtin.gallop
section
def LtP(prog:Program)(w:World)(A:Around)(E:RC)(s:Shared)(Ok:Keyed->Prop)(st:SortSt):Prop:=∀x y Q,Ok x->Ok y->(∀r,Q (some r) st)->wpS (model prog w) A E s (lt' x y) Q st
theorem bz{st:SortSt}(e:arr[i]?=some p)(h:Q p st):wpS (model prog w) A E s (elem' arr i) Q st:=by rw[elem'_eq,e];exact Ü h
theorem fu{st:SortSt}(hL:LtP prog w A E s Ok st)(hk:Ok key)(hn:h<n)(kD:∀i,i<n->∃p,arr[b+i]?=some p/\Ok p)(q:∀k,k<=n->Q (some k) st):wpS (model prog w) A E s (gO left key arr b n h) Q st:=by
 have hb:∀(i:Nat)(R:Option Bool->SortSt->Prop),i<n->(∀r,R (some r) st)->wpS (model prog w) A E s (do let x<-elem' arr (b+i)if left=true then lt' x key else do
    let r<-lt' key x
    pure (Option.map (λx=>!x) r)) R st:=λi R hi hR=>by obtain⟨p,e1,e2⟩:=kD i hi;refine Ù (bz e1 ?_);cases left with|true=>rw[È rfl];exact hL _ _ _ e2 hk hR;|false=>rw[Æ Z3];exact Ù (hL _ _ _ hk e2 λr=>Ü (hR _))
 delta gO;refine Ù (hb h _ hn λr=>?_);cases r with|true=>
  dsimp only;rw[È rfl];refine Ù (wpS_mono (wpS_forRange (I:=λx c Z9=>Z9=st/\c.1=none/\c.2.1<c.2.2/\c.2.1<n-h/\x<c.2.2) (Q:=λc Z9=>Z9=st/\c.1=none/\c.2.1<c.2.2/\c.2.1<n-h) ?_ ?_ ⟨rfl,rfl,(by show 0<1;decide),(by show 0<n-h;lia),(by show 0<1;decide)⟩) ?_)
  .rintro x⟨c0,l,o⟩Z9 _ hx⟨rfl,rfl,g1,g2,g3⟩;dsimp only at g1 g2 g3⊢;by_cases ho:o≥n-h;.rw[È ho];exact Ü ⟨rfl,rfl,g1,g2⟩
   .rw[Æ ho];refine Ù (hb (h+o) _ Z1 λr=>?_);cases r with|true=>dsimp only;rw[Æ Z3];exact Ü ⟨rfl,rfl,by dsimp only;lia,by dsimp only;lia,by dsimp only;lia⟩;|false=>dsimp only;rw[È Z3];exact Ü ⟨rfl,rfl,g1,g2⟩
  .rintro⟨c0,l,o⟩Z9⟨rfl,rfl,g1,g2,g3⟩;exact⟨rfl,rfl,g1,g2⟩
  .rintro⟨c0,l,o⟩Z9⟨rfl,rfl,g1,g2⟩;dsimp only at g1 g2⊢;refine Ù (wpS_mono (wpS_forRange (I:=λx c c8=>c8=Z9/\c.1=none/\c.2.2<=n) (Q:=λc c8=>c8=Z9/\c.1=none/\c.2.2<=n) ?_ ?_ ⟨rfl,rfl,(by show h+min o (n-h)<=n;lia)⟩) ?_)
   .rintro x⟨c0,l,r⟩c8 _ hx⟨rfl,rfl,g2⟩;dsimp only at g2⊢;by_cases kU:l≥r;.rw[È kU];exact Ü ⟨rfl,rfl,g2⟩
    .rw[Æ kU];refine Ù (hb (l+(r-l)/2) _ Z1 λt=>?_);cases t with|true=>dsimp only;rw[È rfl];exact Ü ⟨rfl,rfl,g2⟩;|false=>dsimp only;rw[Æ Z3];exact Ü ⟨rfl,rfl,by dsimp only;lia⟩
   .rintro⟨c0,l,r⟩c8⟨rfl,rfl,g2⟩;exact⟨rfl,rfl,g2⟩
   .rintro⟨c0,l,r⟩c8⟨rfl,rfl,g1⟩;exact Ü (q _ g1);|false=>
  dsimp only;rw[Æ Z3];refine Ù (wpS_mono (wpS_forRange (I:=λx c Z9=>Z9=st/\c.1=none/\c.2.1<c.2.2/\c.2.1<h+1/\x<c.2.2) (Q:=λc Z9=>Z9=st/\c.1=none/\c.2.1<c.2.2/\c.2.1<h+1) ?_ ?_ ⟨rfl,rfl,(by show 0<1;decide),(by show 0<h+1;lia),(by show 0<1;decide)⟩) ?_)
  .rintro x⟨c0,l,o⟩Z9 _ hx⟨rfl,rfl,g1,g2,g3⟩;dsimp only at g1 g2 g3⊢;by_cases ho:o≥h+1;.rw[È ho];exact Ü ⟨rfl,rfl,g1,g2⟩
   .rw[Æ ho];refine Ù (hb (h-o) _ Z1 λr=>?_);cases r with|false=>dsimp only;rw[Æ Z3];exact Ü ⟨rfl,rfl,by dsimp only;lia,by dsimp only;lia,by dsimp only;lia⟩;|true=>dsimp only;rw[È rfl];exact Ü ⟨rfl,rfl,g1,g2⟩
  .rintro⟨c0,l,o⟩Z9⟨rfl,rfl,g1,g2,g3⟩;exact⟨rfl,rfl,g1,g2⟩
  .rintro⟨c0,l,o⟩Z9⟨rfl,rfl,g1,g2⟩;dsimp only at g1 g2⊢;refine Ù (wpS_mono (wpS_forRange (I:=λx c c8=>c8=Z9/\c.1=none/\c.2.2<=n) (Q:=λc c8=>c8=Z9/\c.1=none/\c.2.2<=n) ?_ ?_ ⟨rfl,rfl,(by show h-l<=n;lia)⟩) ?_)
   .rintro x⟨c0,l,r⟩c8 _ hx⟨rfl,rfl,g2⟩;dsimp only at g2⊢;by_cases kU:l≥r;.rw[È kU];exact Ü ⟨rfl,rfl,g2⟩
    .rw[Æ kU];refine Ù (hb (l+(r-l)/2) _ Z1 λt=>?_);cases t with|true=>dsimp only;rw[È rfl];exact Ü ⟨rfl,rfl,g2⟩;|false=>dsimp only;rw[Æ Z3];exact Ü ⟨rfl,rfl,by dsimp only;lia⟩
   .rintro⟨c0,l,r⟩c8⟨rfl,rfl,g2⟩;exact⟨rfl,rfl,g2⟩
   .rintro⟨c0,l,r⟩c8⟨rfl,rfl,g1⟩;exact Ü (q _ g1)
end
abbrev Sm:=StateT SortSt Sem
def GD(lo a m:Nat):Sm AscSt:=forIn [a:m] ((none,a):AscSt) λ_ c=>do let x<-ltAt' (lo+c.snd) (lo+c.snd-1)match x with|some b=>if b=true then pure (ForInStep.done (none,c.snd))else pure (ForInStep.yield (none,c.snd+1))|_=>pure (ForInStep.done (some none,c.snd))
def yH(lo n m:Nat):Sm (Option Nat):=do reverseSlice' lo (lo+n)let c<-GD lo n m match c.fst with|some r=>pure r|none=>pure (some c.snd)
def Ds(lo n m:Nat):Sm DescSt:=forIn [n:m] ((none,n,0):DescSt) λ_ c=>do let x<-ltAt' (lo+c.snd.fst) (lo+c.snd.fst-1)match x with
 |some b=>if b=true then if c.snd.snd>0 then do reverseSlice' (lo+c.snd.fst-(c.snd.snd+1)) (lo+c.snd.fst)pure (ForInStep.yield (none,c.snd.fst+1,0))else pure (ForInStep.yield (none,c.snd.fst+1,0))else do let y<-ltAt' (lo+c.snd.fst-1) (lo+c.snd.fst)match y with|some d=>if d=true then pure (ForInStep.done (none,c.snd.fst,c.snd.snd))else pure (ForInStep.yield (none,c.snd.fst+1,c.snd.snd+1))|_=>pure (ForInStep.done (some none,c.snd.fst,c.snd.snd))
  |_=>pure (ForInStep.done (some none,c.snd.fst,c.snd.snd))
def yI(lo n m:Nat):Sm (Option Nat):=do liftM (rule "list.sort.descending-run")let c<-Ds lo (n+1) m match c.fst with|some r=>pure r|none=>if c.snd.snd>0 then do reverseSlice' (lo+c.snd.fst-(c.snd.snd+1)) (lo+c.snd.fst)yH lo c.snd.fst m else yH lo c.snd.fst m
theorem bc{f f':α->Sm β}(h:m=m')(h':f=f'):(m>>=f)=(m'>>=f'):=by rw[h,h']
theorem Az(lo m:Nat):countRun' lo m=(do let c<-GD lo 1 m match c.fst with|some r=>pure r|none=>if(c.snd==m)=true then pure (some c.snd)else if c.snd>1 then do let x<-ltAt' lo (lo+c.snd-1)match x with|some b=>if b=true then pure (some c.snd)else do reverseSlice' lo (lo+c.snd)yI lo c.snd m|_=>pure none else yI lo c.snd m):=by
 have tl:∀n:Nat,((do
   reverseSlice' lo (lo+n)let mut n:=n
   for _ in[n:m]do
    let some smaller<-ltAt' (lo+n) (lo+n-1)|return none
    if smaller then break
    n:=n+1
   return some n):Sm (Option Nat))=yH lo n m:=λn=>by refine bc rfl (funext λu=>bc rfl (funext λc=>?_));obtain⟨r,n⟩:=c;cases r<;>rfl
 have pl:∀n:Nat,((do
   rule "list.sort.descending-run"let mut n:=n+1 let mut neq:=0
   for _ in[n:m]do
    let some smaller<-ltAt' (lo+n) (lo+n-1)|return none
    if smaller then
 if neq>0 then reverseSlice' (lo+n-(neq+1)) (lo+n)
     neq:=0 else
     let some larger<-ltAt' (lo+n-1) (lo+n)|return none
     if larger then break
     neq:=neq+1
    n:=n+1
   if neq>0 then reverseSlice' (lo+n-(neq+1)) (lo+n)
   reverseSlice' lo (lo+n)for _ in[n:m]do
    let some smaller<-ltAt' (lo+n) (lo+n-1)|return none
    if smaller then break
    n:=n+1
   return some n):Sm (Option Nat))=yI lo n m:=λn=>by refine bc rfl (funext λu=>bc rfl (funext λc=>?_));obtain⟨r,n2,q2⟩:=c;cases r with|some r=>rfl;|none=>
   dsimp only;split;.exact bc rfl (funext λu=>tl n2)
   .exact tl n2
 unfold GD;refine bc rfl (funext λc=>?_);obtain⟨r,n⟩:=c;cases r with|some r=>rfl;|none=>
  dsimp only;split;.rfl
  .split;.refine bc rfl (funext λx=>?_);cases x with|none=>rfl;|some b=>
     dsimp only;split;.rfl
     .exact bc rfl (funext λu=>pl n)
   .exact pl n
structure SB(ks:SortKind)(ae:Array Keyed)(st:SortSt):Prop where
 kind:kindOf st=ks
 ok:failedOf st=none
 pm:(arrOf st).Perm ae
section
variable{Ok:Keyed->Prop}{ae:Array Keyed}
def LtAll(prog:Program)(w:World)(A:Around)(E:RC)(s:Shared)(Ok:Keyed->Prop)(ks:SortKind):Prop:=∀st,kindOf st=ks->LtP prog w A E s Ok st
structure Go(ks:SortKind)(ae:Array Keyed)(st Z9:SortSt):Prop where
 b:SB ks ae Z9
 p:pendingOf Z9=pendingOf st
theorem SB.size{st:SortSt}(B:SB ks ae st):(arrOf st).size=ae.size:=B.pm.size_eq
theorem SB.item{st:SortSt}(B:SB ks ae st)(h0:∀p∈ae.toList,Ok p)(hi:i<ae.size):∃p,(arrOf st)[i]?=some p/\Ok p:=by
 have tq:i<(arrOf st).size:=by rw[B.size];exact hi
 exact⟨_,Array.getElem?_eq_getElem tq,h0 _ ((Zbd.mp B.pm).mem_iff.mp (Array.mem_toList_iff.mpr (Array.getElem_mem tq)))⟩
theorem SB.arr{st:SortSt}(B:SB ks ae st)(h:xs.Perm (arrOf st)):SB ks ae (setArr st xs):=⟨B.kind,B.ok,h.trans B.pm⟩
theorem Go.refl{st:SortSt}(B:SB ks ae st):Go ks ae st st:=⟨B,rfl⟩
theorem Go.arr{st Z9:SortSt}(g:Go ks ae st Z9)(h:xs.Perm (arrOf Z9)):Go ks ae st (setArr Z9 xs):=⟨g.b.arr h,g.p⟩
theorem ltA(hL:LtAll prog w A E s Ok ks){st:SortSt}(B:SB ks ae st)(h0:∀p∈ae.toList,Ok p)(hi:i<ae.size)(hj:j<ae.size)(h:∀r,Q (some r) st):wpS (model prog w) A E s (ltAt' i j) Q st:=by obtain⟨p,e1,ka⟩:=B.item h0 hi;obtain⟨q,e2,kb⟩:=B.item h0 hj;exact Ù (wpS_get (Ù (bz e1 (Ù (bz e2 (hL st B.kind p q Q ka kb h))))))
theorem tH{st aT:SortSt}(g:Go ks ae aT st)(h:∀Z9,Go ks ae aT Z9->Q () Z9):wpS (model prog w) A E s (reverseSlice' i j) Q st:=wpS_reverse (h _ (g.arr (mirror_perm _ _ _ _)))
variable(hL:LtAll prog w A E s Ok ks)(h0:∀p∈ae.toList,Ok p)
include hL h0
theorem yJ{st:SortSt}{lo a m:Nat}(hn:lo+m<=ae.size)(ha:1<=a)(Yw:a<=m)(B:SB ks ae st)(h:∀n,a<=n->n<=m->Q (none,n) st):wpS (model prog w) A E s (GD lo a m) Q st:=by
 refine wpS_forRange (I:=λx c Z9=>Z9=st/\c=(none,x)) ?_ ?_ ⟨rfl,rfl⟩;.rintro x c Z9 JJ JO⟨rfl,rfl⟩;refine Ù (ltA hL B h0 Z1 Z1 λr=>?_);cases r with|true=>exact Ü (h x JJ Z1);|false=>exact Ü ⟨rfl,rfl⟩
 .rintro c Z9⟨rfl,rfl⟩;exact h _ Z1 Z1
theorem uX{aT st:SortSt}{lo n m:Nat}(hn:lo+m<=ae.size)(h1:1<=n)(xA:n<=m)(g:Go ks ae aT st)(h:∀k Z9,Go ks ae aT Z9->1<=k->k<=m->Q (some k) Z9):wpS (model prog w) A E s (yH lo n m) Q st:=Ù (tH g λZ9 g'=>Ù (yJ hL h0 hn h1 xA g'.b λk k1 k2=>Ü (h k _ g' Z1 k2)))
theorem Dt{aT st:SortSt}{lo n m:Nat}(hn:lo+m<=ae.size)(h1:1<=n)(xA:n<=m)(g:Go ks ae aT st)(h:∀k q Z9,Go ks ae aT Z9->n<=k->k<=m->Q (none,k,q) Z9):wpS (model prog w) A E s (Ds lo n m) Q st:=by
 unfold Ds;refine wpS_forRange (I:=λx c Z9=>∃q,c=(none,x,q)/\Go ks ae aT Z9) ?_ ?_ ⟨0,rfl,g⟩
 .rintro x c Z9 JJ JO⟨q,rfl,g⟩;dsimp only;refine Ù (ltA hL g.b h0 Z1 Z1 λr=>?_)
  cases r with|true=>
   dsimp only;rw[È rfl];by_cases CL:q>0;.rw[È CL];exact Ù (tH g λst2 g2=>Ü ⟨0,rfl,g2⟩)
   .rw[Æ CL];exact Ü ⟨0,rfl,g⟩;|false=>dsimp only;refine Ù (ltA hL g.b h0 Z1 Z1 λr=>?_);cases r with|true=>exact Ü (h x q Z9 g JJ Z1);|false=>exact Ü ⟨q+1,rfl,g⟩
 .rintro c Z9⟨q,rfl,g⟩;exact h _ q Z9 g Z1 Z1
theorem uY{aT st:SortSt}{lo n m:Nat}(hn:lo+m<=ae.size)(xA:n+1<=m)(g:Go ks ae aT st)(h:∀k Z9,Go ks ae aT Z9->1<=k->k<=m->Q (some k) Z9):wpS (model prog w) A E s (yI lo n m) Q st:=by
 refine Ù (wpS_lift (wpAny_rule ⟨rfl,?_⟩));refine Ù (Dt hL h0 hn Z1 xA g λk q Z9 g k1 k2=>?_);dsimp only;by_cases CL:q>0;.rw[È CL];exact Ù (tH g λst2 g2=>uX hL h0 hn Z1 k2 g2 h)
 .rw[Æ CL];exact uX hL h0 hn Z1 k2 g h
theorem Du{st:SortSt}{lo m:Nat}(hn:lo+m<=ae.size)(h1:1<=m)(B:SB ks ae st)(h:∀k Z9,Go ks ae st Z9->1<=k->k<=m->Q (some k) Z9):wpS (model prog w) A E s (countRun' lo m) Q st:=by
 rw[Az];refine Ù (yJ hL h0 hn (Ø 1) h1 B λn n1 n2=>?_);dsimp only;have g:=Go.refl B;by_cases xA:n=m;.rw[È (by simpa using xA)];exact Ü (h n st g n1 n2)
 .rw[Æ (by simpa using xA)];by_cases Ov:n>1;.rw[È Ov];refine Ù (ltA hL B h0 Z1 Z1 λr=>?_);cases r with|true=>exact Ü (h n st g n1 n2);|false=>exact Ù (tH g λst2 g2=>uY hL h0 hn Z1 g2 h)
  .rw[Æ Ov];exact uY hL h0 hn Z1 g h
theorem JM{aT st:SortSt}{lo n ok:Nat}(hn:lo+n<=ae.size)(g:Go ks ae aT st)(h:∀Z9,Go ks ae aT Z9->Q true Z9):wpS (model prog w) A E s (binarySort' lo n ok) Q st:=by
 rw[binarySort'_eq];refine Ù (wpS_mono (wpS_forRange (I:=λk c Z9=>c=(none,())/\Go ks ae aT Z9) (Q:=λc Z9=>c=(none,())/\Go ks ae aT Z9) ?_ (λc Z9 h=>h) ⟨rfl,g⟩) ?_)
 .rintro k c Z9 JU Yx⟨rfl,g⟩;refine Ù (wpS_mono (wpS_forRange (I:=λx c st2=>st2=Z9/\∃l r,c=(none,l,r)/\l<=r/\r<=k) (Q:=λc st2=>st2=Z9/\∃l r,c=(none,l,r)) ?_ ?_ ⟨rfl,0,k,rfl,Z1,Z1⟩) ?_)
  .rintro x c st2 _ Yy⟨rfl,l,r,rfl,kU,JY⟩;dsimp only;by_cases kF:l≥r;.rw[È kF];exact Ü ⟨rfl,l,r,rfl⟩
   .rw[Æ kF];refine Ù (ltA hL g.b h0 Z1 Z1 λt=>?_);cases t with|true=>dsimp only;rw[È rfl];exact Ü ⟨rfl,l,(l+r)/2,rfl,Z1,Z1⟩;|false=>dsimp only;rw[Æ Z3];exact Ü ⟨rfl,(l+r)/2+1,r,rfl,Z1,Z1⟩
  .rintro c st2⟨rfl,l,r,rfl,_⟩;exact⟨rfl,l,r,rfl⟩
  .rintro c st2⟨rfl,l,r,rfl⟩;show wpS _ _ _ _ (do moveDown' (lo+k) (lo+l);pure (ForInStep.yield (none,()))) _ _;rw[moveDown'_eq];exact Ù (wpS_modify (Ü ⟨rfl,g.arr (bubble_perm _ _ _)⟩))
 .rintro c Z9⟨rfl,g⟩;exact Ü (h Z9 g)
end
def jV:Array Keyed->Array Keyed->Sm (Array Keyed):=sortPriv%PySem.Builtin.mergeLo
def jW:Nat->Sm Unit:=sortPriv%PySem.Builtin.setMinGallop
abbrev C1:=Option (Array Keyed)×Array Keyed×Nat×Nat×Nat×Nat
abbrev C2:=Option (Array Keyed)×Array Keyed×Nat×Nat×Nat×Nat×Nat
abbrev C0:=Option (Array Keyed)×Array Keyed×Nat×Nat×Nat
def one(a b:Array Keyed)(g:Nat)(out:Array Keyed)(ia ib ac bc:Nat):Sm (ForInStep C1):=do let y<-elem' b ib let x<-elem' a ia let r<-lt' y x match r with|some w=>if w=true then do let y<-elem' b ib if(ib+1==b.size)=true then pure (ForInStep.done (some (out.push y++a.extract ia a.size++b.extract (ib+1) b.size),out.push y,ia,ib+1,0,bc+1))else if bc+1≥g then pure (ForInStep.done (none,out.push y,ia,ib+1,0,bc+1))else pure (ForInStep.yield (none,out.push y,ia,ib+1,0,bc+1))else do let x<-elem' a ia if(ia+1+1==a.size)=true then pure (ForInStep.done (some (out.push x++b.extract ib b.size++a.extract (ia+1) a.size),out.push x,ia+1,ib,ac+1,0))else if ac+1≥g then pure (ForInStep.done (none,out.push x,ia+1,ib,ac+1,0))else pure (ForInStep.yield (none,out.push x,ia+1,ib,ac+1,0))|_=>pure (ForInStep.done (some (out++a.extract ia a.size++b.extract ib b.size),out,ia,ib,ac,bc))
def gl4(a b:Array Keyed)(out:Array Keyed)(ia ib g k k1:Nat):Sm (ForInStep C2):=do let x<-elem' a ia if(ia+1+1==a.size)=true then pure (ForInStep.done (some (out.push x++b.extract ib b.size++a.extract (ia+1) a.size),out.push x,ia+1,ib,g,k,k1))else if(decide (k<7)&&decide (k1<7))=true then pure (ForInStep.done (none,out.push x,ia+1,ib,g,k,k1))else pure (ForInStep.yield (none,out.push x,ia+1,ib,g,k,k1))
def gl3(a b:Array Keyed)(out:Array Keyed)(ia ib g k bc:Nat):Sm (ForInStep C2):=do let x<-elem' a ia let r<-gO true x b ib (b.size-ib) 0 match r with|some k1=>if k1>0 then if(ib+k1==b.size)=true then pure (ForInStep.done (some (out++b.extract ib (ib+k1)++a.extract ia a.size++b.extract (ib+k1) b.size),out++b.extract ib (ib+k1),ia,ib+k1,g,k,k1))else gl4 a b (out++b.extract ib (ib+k1)) ia (ib+k1) g k k1 else gl4 a b out ia ib g k k1|_=>pure (ForInStep.done (some (out++a.extract ia a.size++b.extract ib b.size),out,ia,ib,g,k,bc))
def gl2(a b:Array Keyed)(out:Array Keyed)(ia ib g k bc:Nat):Sm (ForInStep C2):=do let y<-elem' b ib if(ib+1==b.size)=true then pure (ForInStep.done (some (out.push y++a.extract ia a.size++b.extract (ib+1) b.size),out.push y,ia,ib+1,g,k,bc))else gl3 a b (out.push y) ia (ib+1) g k bc
def ϝ(a b:Array Keyed)(out:Array Keyed)(ia ib g ac bc:Nat):Sm (ForInStep C2):=do jW g let y<-elem' b ib let r<-gO false y a ia (a.size-ia) 0 match r with|some k=>if k>0 then if(ia+k+1==a.size)=true then pure (ForInStep.done (some (out++a.extract ia (ia+k)++b.extract ib b.size++a.extract (ia+k) a.size),out++a.extract ia (ia+k),ia+k,ib,g,k,bc))else if(ia+k==a.size)=true then pure (ForInStep.done (some (out++a.extract ia (ia+k)++a.extract (ia+k) a.size++b.extract ib b.size),out++a.extract ia (ia+k),ia+k,ib,g,k,bc))else gl2 a b (out++a.extract ia (ia+k)) (ia+k) ib g k bc else gl2 a b out ia ib g k bc|_=>pure (ForInStep.done (some (out++a.extract ia a.size++b.extract ib b.size),out,ia,ib,g,ac,bc))
def gal(a b:Array Keyed)(out:Array Keyed)(ia ib g ac bc:Nat):Sm (ForInStep C2):=if g>1 then ϝ a b out ia ib (g-1) ac bc else ϝ a b out ia ib g ac bc
def round(a b:Array Keyed)(out:Array Keyed)(ia ib g:Nat):Sm (ForInStep C0):=do let c<-forIn [0:a.size+b.size] ((none,out,ia,ib,0,0):C1) λ_ c=>one a b g c.2.1 c.2.2.1 c.2.2.2.1 c.2.2.2.2.1 c.2.2.2.2.2 match c.1 with|some r=>pure (ForInStep.done (some r,c.2.1,c.2.2.1,c.2.2.2.1,g))|none=>do liftM (rule "list.sort.gallop")let d<-forIn [0:a.size+b.size] ((none,c.2.1,c.2.2.1,c.2.2.2.1,g+1,c.2.2.2.2.1,c.2.2.2.2.2):C2) λ_ d=>gal a b d.2.1 d.2.2.1 d.2.2.2.1 d.2.2.2.2.1 d.2.2.2.2.2.1 d.2.2.2.2.2.2 match d.1 with|some r=>pure (ForInStep.done (some r,d.2.1,d.2.2.1,d.2.2.2.1,d.2.2.2.2.1))|none=>do jW (d.2.2.2.2.1+1)pure (ForInStep.yield (none,d.2.1,d.2.2.1,d.2.2.2.1,d.2.2.2.2.1+1))
theorem fi{r:Std.Legacy.Range}{f f':Nat->β->Sm (ForInStep β)}(h:f=f'):(forIn r c f:Sm β)=forIn r c f':=by rw[h]
theorem ic{α:Type}[Decidable c]{x x' y y':α}(h:x=x')(h':y=y'):(if c then x else y)=if c then x' else y':=by rw[h,h']
theorem Ly(a b:Array Keyed):jV a b=(do liftM (rule "list.sort.merge-lo")let e<-elem' b 0 if(1==b.size)=true then pure (#[e]++a.extract 0 a.size++b.extract 1 b.size)else if(0+1==a.size)=true then pure (#[e]++b.extract 1 b.size++a.extract 0 a.size)else do let s<-get let c<-forIn [0:a.size+b.size] ((none,#[e],0,1,gallopOf s):C0) λ_ c=>round a b c.2.1 c.2.2.1 c.2.2.2.1 c.2.2.2.2 match c.1 with|some r=>pure r|none=>liftM (unsupported "internal:list.sort.merge-bound")):=by
 delta jV;refine bc rfl (funext λu=>bc rfl (funext λe=>ic rfl (ic rfl (bc rfl (funext λs=>bc (fi (funext λx=>funext λc=>?_)) (funext λc=>?_))))))
 .unfold round;refine bc (fi (funext λx=>funext λc1=>?_)) (funext λc1=>?_);.unfold one;refine bc rfl (funext λy=>bc rfl (funext λx=>bc rfl (funext λr=>?_)));cases r with|none=>rfl;|some w=>exact ic (bc rfl (funext λy=>ic rfl (ic rfl rfl))) (bc rfl (funext λy=>ic rfl (ic rfl rfl)))
  .obtain⟨r,c1⟩:=c1;cases r with|some r=>rfl;|none=>
    refine bc rfl (funext λu=>bc (fi (funext λx=>funext λd=>?_)) (funext λd=>?_));.unfold gal;refine ic ?_ ?_<;>(unfold ϝ;exact bc rfl (funext λu=>bc rfl (funext λy=>bc rfl (funext λr=>by rfl))))
    .obtain⟨r,d⟩:=d;cases r<;>rfl
 .obtain⟨r,c⟩:=c;cases r<;>rfl
structure SG(st Z9:SortSt):Prop where
 kind:kindOf Z9=kindOf st
 arr:arrOf Z9=arrOf st
 pend:pendingOf Z9=pendingOf st
 fail:failedOf Z9=failedOf st
theorem SG.refl(st:SortSt):SG st st:=⟨rfl,rfl,rfl,rfl⟩
theorem SG.trans(g:SG a b)(h:SG b c):SG a c:=⟨h.kind.trans g.kind,h.arr.trans g.arr,h.pend.trans g.pend,h.fail.trans g.fail⟩
structure Two(Ok:Keyed->Prop)(a b:Array Keyed):Prop where
 ka:∀p∈a.toList,Ok p
 kb:∀p∈b.toList,Ok p
theorem item{Ok:Keyed->Prop}{a:Array Keyed}(ka:∀p∈a.toList,Ok p)(hi:i<a.size):∃p,a[i]?=some p/\Ok p/\a.toList.drop i=p::a.toList.drop (i+1):=by refine⟨a[i],Array.getElem?_eq_getElem hi,ka _ (Array.mem_toList_iff.mpr (Array.getElem_mem hi)),?_⟩;have:=Zas (l:=a.toList) (i:=i) (by simpa using hi);rw[this];simp
theorem jX(a:Array Keyed)(i j:Nat):(a.extract i j).toList=(a.toList.drop i).take (j-i):=by rw[Array.toList_extract]
theorem nF(a:Array Keyed)(i:Nat):(a.extract i a.size).toList=a.toList.drop i:=by rw[jX];refine ϩ ?_;rw[Za5];exact Ø _
def M(a b out:Array Keyed)(ia ib:Nat):Prop:=(out.toList++(a.toList.drop ia++b.toList.drop ib)).Perm (a.toList++b.toList)
abbrev Rs(a b r:Array Keyed):Prop:=r.toList.Perm (a.toList++b.toList)
theorem mid(o t A R:List Keyed):(o++t++(A++R)).Perm (o++(A++(t++R))):=by rw[į,<-į t,<-į A];exact(List.perm_append_comm.append_right R).append_left o
theorem M.pushA(m:M a b out ia ib)(e:a.toList.drop ia=x::a.toList.drop (ia+1)):M a b (out.push x) (ia+1) ib:=by unfold M at m⊢;rw[e]at m;rw[Array.toList_push,į];exact m
theorem M.pushB(m:M a b out ia ib)(e:b.toList.drop ib=x::b.toList.drop (ib+1)):M a b (out.push x) ia (ib+1):=by unfold M at m⊢;rw[e]at m;rw[Array.toList_push];exact(mid _ [x] _ _).trans m
theorem M.segA(k:Nat)(m:M a b out ia ib):M a b (out++a.extract ia (ia+k)) (ia+k) ib:=by unfold M at m⊢;rw[Ϡ,jX,show ia+k-ia=k by lia,į,<-į (List.take _ _),<-List.drop_drop,zBg];exact m
theorem M.segB(k:Nat)(m:M a b out ia ib):M a b (out++b.extract ib (ib+k)) ia (ib+k):=by unfold M at m⊢;rw[Ϡ,jX,show ib+k-ib=k by lia];refine(mid _ _ _ _).trans ?_;rw[<-List.drop_drop,zBg];exact m
theorem M.e1(m:M a b out ia ib):Rs a b (out++a.extract ia a.size++b.extract ib b.size):=by unfold M at m;unfold Rs;rw[Ϡ,Ϡ,nF,nF,į];exact m
theorem M.e2(m:M a b out ia ib):Rs a b (out++b.extract ib b.size++a.extract ia a.size):=by unfold M at m;unfold Rs;rw[Ϡ,Ϡ,nF,nF,į];exact(List.perm_append_comm.append_left _).trans m
section
theorem jh{st:SortSt}(h:∀Z9,SG st Z9->Q () Z9):wpS (model prog w) A E s (jW g) Q st:=wpS_modify (h _ ⟨rfl,rfl,rfl,rfl⟩)
structure At(a b out:Array Keyed)(ia ib:Nat):Prop where
 mi:M a b out ia ib
 ha:ia+1<a.size
 hb:ib<b.size
def G2(a b:Array Keyed)(n:Nat)(st:SortSt)(r:ForInStep C2)(Z9:SortSt):Prop:=SG st Z9/\match r with|.done c=>(∃z,c.1=some z/\Rs a b z)\/(c.1=none/\At a b c.2.1 c.2.2.1 c.2.2.2.1/\n<=c.2.2.1+c.2.2.2.1)|.yield c=>c.1=none/\At a b c.2.1 c.2.2.1 c.2.2.2.1/\n<=c.2.2.1+c.2.2.2.1
variable(hL:LtAll prog w A E s Ok ks)(T:Two Ok a b)
include T
theorem pA{aT st:SortSt}(sg:SG aT st)(m:At a b out ia ib)(hn:n<=ia+ib+1):wpS (model prog w) A E s (gl4 a b out ia ib g k k1) (G2 a b n aT) st:=by
 obtain⟨x,x1,x2,x4⟩:=item T.ka (i:=ia) (by have:=m.ha;lia);refine Ù (bz x1 ?_);have m':=m.mi.pushA x4;by_cases ha:ia+1+1=a.size;.rw[È (by simpa using ha)];exact Ü ⟨sg,.inl ⟨_,rfl,m'.e2⟩⟩
 .rw[Æ (by simpa using ha)];have at':At a b (out.push x) (ia+1) ib:=⟨m',by have:=m.ha;lia,m.hb⟩;split;.exact Ü ⟨sg,.inr ⟨rfl,at',by dsimp only;lia⟩⟩
  .exact Ü ⟨sg,rfl,at',by dsimp only;lia⟩
include hL
theorem xf{g ia ib ac bc:Nat}{st:SortSt}(hk:kindOf st=ks)(m:At a b out ia ib):wpS (model prog w) A E s (one a b g out ia ib ac bc) (λr Z9=>Z9=st/\match r with|.done c=>(∃z,c.1=some z/\Rs a b z)\/(c.1=none/\At a b c.2.1 c.2.2.1 c.2.2.2.1/\ia+ib+1=c.2.2.1+c.2.2.2.1)|.yield c=>c.1=none/\At a b c.2.1 c.2.2.1 c.2.2.2.1/\ia+ib+1=c.2.2.1+c.2.2.2.1) st:=by
 obtain⟨x,x1,x2,x4⟩:=item T.ka (i:=ia) (by have:=m.ha;lia);obtain⟨y,y1,y2,y4⟩:=item T.kb m.hb;unfold one;refine Ù (bz y1 (Ù (bz x1 (Ù (hL st hk _ _ _ y2 x2 λe=>?_)))))
 cases e with|true=>
  refine Ù (bz y1 ?_);have m':=m.mi.pushB y4;by_cases hb:ib+1=b.size;.rw[È (by simpa using hb)];exact Ü ⟨rfl,.inl ⟨_,rfl,m'.e1⟩⟩
  .rw[Æ (by simpa using hb)];have at':At a b (out.push y) ia (ib+1):=⟨m',m.ha,by have:=m.hb;lia⟩;split;.exact Ü ⟨rfl,.inr ⟨rfl,at',by dsimp only;lia⟩⟩
   .exact Ü ⟨rfl,rfl,at',by dsimp only;lia⟩;|false=>
  refine Ù (bz x1 ?_);have m':=m.mi.pushA x4;by_cases ha:ia+1+1=a.size;.rw[È (by simpa using ha)];exact Ü ⟨rfl,.inl ⟨_,rfl,m'.e2⟩⟩
  .rw[Æ (by simpa using ha)];have at':At a b (out.push x) (ia+1) ib:=⟨m',by have:=m.ha;lia,m.hb⟩;split;.exact Ü ⟨rfl,.inr ⟨rfl,at',by dsimp only;lia⟩⟩
   .exact Ü ⟨rfl,rfl,at',by dsimp only;lia⟩
theorem xj{g ia ib k bc n:Nat}{aT st:SortSt}(hk:kindOf st=ks)(sg:SG aT st)(m:At a b out ia ib)(hn:n<=ia+ib+1):wpS (model prog w) A E s (gl3 a b out ia ib g k bc) (G2 a b n aT) st:=by
 obtain⟨x,x1,x2,x4⟩:=item T.ka (i:=ia) (by have:=m.ha;lia);have hb:=m.hb;refine Ù (bz x1 ?_);refine Ù (fu (hL st hk) x2 Z1 (λi hi=>?_) λk1 kn=>?_);.obtain⟨p,p1,p2,_⟩:=item T.kb (i:=ib+i) Z1;exact⟨p,p1,p2⟩
 .by_cases h0:k1>0
  .dsimp only;rw[È h0];have m':=m.mi.segB k1;by_cases e:ib+k1=b.size;.rw[È (by simpa using e)];exact Ü ⟨sg,.inl ⟨_,rfl,m'.e1⟩⟩
   .rw[Æ (by simpa using e)];exact pA T sg ⟨m',m.ha,Z1⟩ Z1
  .dsimp only;rw[Æ h0];exact pA T sg m hn
theorem pB{g ia ib k bc n:Nat}{aT st:SortSt}(hk:kindOf st=ks)(sg:SG aT st)(m:At a b out ia ib)(hn:n<=ia+ib+1):wpS (model prog w) A E s (gl2 a b out ia ib g k bc) (G2 a b n aT) st:=by
 obtain⟨y,y1,y2,y4⟩:=item T.kb m.hb;refine Ù (bz y1 ?_);have m':=m.mi.pushB y4;by_cases hb:ib+1=b.size;.rw[È (by simpa using hb)];exact Ü ⟨sg,.inl ⟨_,rfl,m'.e1⟩⟩
 .rw[Æ (by simpa using hb)];exact xj hL T hk sg ⟨m',m.ha,by have:=m.hb;lia⟩ Z1
theorem xm{g ia ib ac bc n:Nat}{aT st:SortSt}(hk:kindOf st=ks)(sg:SG aT st)(m:At a b out ia ib)(hn:n<=ia+ib+1):wpS (model prog w) A E s (ϝ a b out ia ib g ac bc) (G2 a b n aT) st:=by
 obtain⟨y,y1,y2,y4⟩:=item T.kb m.hb;have ha:=m.ha;unfold ϝ;refine Ù (jh λZ9 CM=>?_);have dS:kindOf Z9=ks:=CM.kind.trans hk;have cb:SG aT Z9:=sg.trans CM;refine Ù (bz y1 ?_);refine Ù (fu (hL Z9 dS) y2 Z1 (λi hi=>?_) λk kn=>?_);.obtain⟨p,p1,p2,_⟩:=item T.ka (i:=ia+i) Z1;exact⟨p,p1,p2⟩
 .by_cases h0:k>0
  .dsimp only;rw[È h0];have m':=m.mi.segA k;by_cases e:ia+k+1=a.size;.rw[È (by simpa using e)];exact Ü ⟨cb,.inl ⟨_,rfl,m'.e2⟩⟩
   .rw[Æ (by simpa using e)];by_cases e2:ia+k=a.size;.rw[È (by simpa using e2)];exact Ü ⟨cb,.inl ⟨_,rfl,m'.e1⟩⟩
    .rw[Æ (by simpa using e2)];exact pB hL T dS cb ⟨m',Z1,m.hb⟩ Z1
  .dsimp only;rw[Æ h0];exact pB hL T dS cb m hn
theorem pC{aT st:SortSt}(hk:kindOf st=ks)(sg:SG aT st)(m:At a b out ia ib):wpS (model prog w) A E s (round a b out ia ib g) (λr Z9=>SG aT Z9/\match r with|.done c=>∃z,c.1=some z/\Rs a b z|.yield c=>c.1=none/\At a b c.2.1 c.2.2.1 c.2.2.2.1/\ia+ib+1<=c.2.2.1+c.2.2.2.1) st:=by
 have R8:0<a.size+b.size:=by have:=m.ha;lia
 refine Ù (wpS_mono (wpS_forRange (I:=λx c Z9=>Z9=st/\c.1=none/\At a b c.2.1 c.2.2.1 c.2.2.2.1/\ia+ib+x=c.2.2.1+c.2.2.2.1) (Q:=λc Z9=>Z9=st/\((∃z,c.1=some z/\Rs a b z)\/(c.1=none/\At a b c.2.1 c.2.2.1 c.2.2.2.1/\ia+ib+1<=c.2.2.1+c.2.2.2.1))) ?_ ?_ ⟨rfl,rfl,m,rfl⟩) ?_)
 .rintro x⟨c0,o,i,j,ac,bc⟩Z9 _ hx⟨rfl,rfl,m',e⟩;dsimp only at m' e⊢;refine wpS_mono (xf hL T hk m') λr st2 h2=>?_;obtain⟨rfl,h2⟩:=h2
  cases r with|done c=>
   rcases h2 with h2|⟨h2,h3,h4⟩;.exact⟨rfl,.inl h2⟩
   .exact⟨rfl,.inr ⟨h2,h3,Z1⟩⟩;|yield c=>obtain⟨h2,h3,h4⟩:=h2;exact⟨rfl,h2,h3,Z1⟩
 .rintro c Z9⟨rfl,h1,h2,h3⟩;exact⟨rfl,.inr ⟨h1,h2,Z1⟩⟩
 .rintro⟨c0,o,i,j,ac,bc⟩Z9⟨rfl,h⟩;dsimp only at h⊢;rcases h with⟨z,rfl,hz⟩|⟨rfl,m',wc⟩;.exact Ü ⟨sg,z,rfl,hz⟩
  .dsimp only;refine Ù (wpS_lift (wpAny_rule ⟨rfl,?_⟩));refine Ù (wpS_mono (wpS_forRange (I:=λx c st2=>SG aT st2/\c.1=none/\At a b c.2.1 c.2.2.1 c.2.2.2.1/\ia+ib+1<=c.2.2.1+c.2.2.2.1) (Q:=λc st2=>SG aT st2/\((∃z,c.1=some z/\Rs a b z)\/(c.1=none/\At a b c.2.1 c.2.2.1 c.2.2.2.1/\ia+ib+1<=c.2.2.1+c.2.2.2.1))) ?_ ?_ ⟨sg,rfl,m',wc⟩) ?_)
   .rintro x⟨c0,o,i,j,g2,ac,bc⟩st2 _ hx⟨cb,rfl,m2,e2⟩;dsimp only at m2 e2⊢;have Kb:kindOf st2=ks:=cb.kind.trans (sg.kind.symm.trans hk);have go:∀g',wpS (model prog w) A E s (ϝ a b o i j g' ac bc) (G2 a b (ia+ib+1) aT) st2:=λg'=>xm hL T Kb cb m2 Z1;unfold gal;split;.refine wpS_mono (go _) λr ja h3=>?_;obtain⟨h3,h4⟩:=h3;cases r with|done c=>exact⟨h3,h4⟩;|yield c=>exact⟨h3,h4⟩
    .refine wpS_mono (go _) λr ja h3=>?_;obtain⟨h3,h4⟩:=h3;cases r with|done c=>exact⟨h3,h4⟩;|yield c=>exact⟨h3,h4⟩
   .rintro c st2⟨h0,h1,h2,h3⟩;exact⟨h0,.inr ⟨h1,h2,h3⟩⟩
   .rintro⟨c0,o,i,j,g2,ac,bc⟩st2⟨cb,h⟩;dsimp only at h⊢;rcases h with⟨z,rfl,hz⟩|⟨rfl,m2,xB⟩;.exact Ü ⟨cb,z,rfl,hz⟩
    .dsimp only;refine Ù (jh λja qA=>Ü ⟨⟨qA.kind.trans cb.kind,qA.arr.trans cb.arr,qA.pend.trans cb.pend,qA.fail.trans cb.fail⟩,rfl,m2,xB⟩)
theorem Lz(ha:0<a.size)(hb:0<b.size){st:SortSt}(hk:kindOf st=ks)(h:∀r Z9,SG st Z9->Rs a b r->Q r Z9):wpS (model prog w) A E s (jV a b) Q st:=by
 rw[Ly];obtain⟨y,y1,y2,y4⟩:=item T.kb hb;refine Ù (wpS_lift (wpAny_rule ⟨rfl,?_⟩));refine Ù (bz y1 ?_);have m0:M a b #[] 0 0:=by unfold M;exact .refl _
 have m:M a b #[y] 0 1:=m0.pushB y4;by_cases e1:1=b.size;.rw[È (by simpa using e1)];exact Ü (h _ st (SG.refl _) m.e1)
 .rw[Æ (by simpa using e1)];by_cases e2:0+1=a.size;.rw[È (by simpa using e2)];exact Ü (h _ st (SG.refl _) m.e2)
  .rw[Æ (by simpa using e2)];refine Ù (wpS_get ?_);refine Ù (wpS_mono (wpS_forRange (I:=λx c Z9=>SG st Z9/\c.1=none/\At a b c.2.1 c.2.2.1 c.2.2.2.1/\1+x<=c.2.2.1+c.2.2.2.1) (Q:=λc Z9=>SG st Z9/\∃z,c.1=some z/\Rs a b z) ?_ ?_ ⟨SG.refl _,rfl,⟨m,by dsimp only;lia,by dsimp only;lia⟩,by dsimp only;lia⟩) ?_);.rintro x⟨c0,o,i,j,g⟩Z9 _ hx⟨sg,rfl,m',e⟩;dsimp only at m' e⊢;refine wpS_mono (pC hL T (sg.kind.trans hk) sg m') λr st2 h2=>?_;obtain⟨cb,h2⟩:=h2;cases r with|done c=>exact⟨cb,h2⟩;|yield c=>obtain⟨h2,h3,h4⟩:=h2;exact⟨cb,h2,h3,Z1⟩
   .rintro c Z9⟨sg,h1,m',e⟩;have:=m'.ha;have:=m'.hb;exact absurd e Z1
   .rintro⟨c0,o,i,j,g⟩Z9⟨sg,z,e,hz⟩;rw[e];exact Ü (h z Z9 sg hz)
end
def jY:Array Keyed->Array Keyed->Sm (Array Keyed):=sortPriv%PySem.Builtin.mergeHi
namespace Hi
abbrev dn(a b out:Array Keyed)(na nb:Nat):Array Keyed:=a.extract 0 na++b.extract 0 nb++out.reverse
abbrev fb(a b out:Array Keyed)(na nb:Nat):Array Keyed:=b.extract 0 nb++a.extract 0 na++out.reverse
abbrev H1:=Option (Array Keyed)×Nat×Nat×Array Keyed×Nat×Nat
abbrev H2:=Option (Array Keyed)×Nat×Nat×Array Keyed×Nat×Nat×Nat
abbrev H0:=Option (Array Keyed)×Nat×Nat×Array Keyed×Nat
def one(a b:Array Keyed)(g:Nat)(na nb:Nat)(out:Array Keyed)(ac bc:Nat):Sm (ForInStep H1):=do let y<-elem' b (nb-1)let x<-elem' a (na-1)let r<-lt' y x match r with|some w=>if w=true then do let x<-elem' a (na-1)if(na-1==0)=true then pure (ForInStep.done (some (dn a b (out.push x) (na-1) nb),na-1,nb,out.push x,ac+1,0))else if ac+1≥g then pure (ForInStep.done (none,na-1,nb,out.push x,ac+1,0))else pure (ForInStep.yield (none,na-1,nb,out.push x,ac+1,0))else do let y<-elem' b (nb-1)if(nb-1==1)=true then pure (ForInStep.done (some (fb a b (out.push y) na (nb-1)),na,nb-1,out.push y,0,bc+1))else if bc+1≥g then pure (ForInStep.done (none,na,nb-1,out.push y,0,bc+1))else pure (ForInStep.yield (none,na,nb-1,out.push y,0,bc+1))|_=>pure (ForInStep.done (some (dn a b out na nb),na,nb,out,ac,bc))
def gl4(a b:Array Keyed)(na nb:Nat)(out:Array Keyed)(g k k1:Nat):Sm (ForInStep H2):=do let x<-elem' a (na-1)if(na-1==0)=true then pure (ForInStep.done (some (dn a b (out.push x) (na-1) nb),na-1,nb,out.push x,g,k,k1))else if(decide (k<7)&&decide (k1<7))=true then pure (ForInStep.done (none,na-1,nb,out.push x,g,k,k1))else pure (ForInStep.yield (none,na-1,nb,out.push x,g,k,k1))
def gl3(a b:Array Keyed)(na nb:Nat)(out:Array Keyed)(g k bc:Nat):Sm (ForInStep H2):=do let x<-elem' a (na-1)let r<-gO true x b 0 nb (nb-1)match r with|some t=>if nb-t>0 then if(t==1)=true then pure (ForInStep.done (some (fb a b (out++(b.extract t nb).reverse) na t),na,t,out++(b.extract t nb).reverse,g,k,nb-t))else if(t==0)=true then pure (ForInStep.done (some (dn a b (out++(b.extract t nb).reverse) na t),na,t,out++(b.extract t nb).reverse,g,k,nb-t))else gl4 a b na t (out++(b.extract t nb).reverse) g k (nb-t)else gl4 a b na nb out g k (nb-t)|_=>pure (ForInStep.done (some (dn a b out na nb),na,nb,out,g,k,bc))
def gl2(a b:Array Keyed)(na nb:Nat)(out:Array Keyed)(g k bc:Nat):Sm (ForInStep H2):=do let y<-elem' b (nb-1)if(nb-1==1)=true then pure (ForInStep.done (some (fb a b (out.push y) na (nb-1)),na,nb-1,out.push y,g,k,bc))else gl3 a b na (nb-1) (out.push y) g k bc
def ϝ(a b:Array Keyed)(na nb:Nat)(out:Array Keyed)(g ac bc:Nat):Sm (ForInStep H2):=do jW g let y<-elem' b (nb-1)let r<-gO false y a 0 na (na-1)match r with|some t=>if na-t>0 then if(t==0)=true then pure (ForInStep.done (some (dn a b (out++(a.extract t na).reverse) t nb),t,nb,out++(a.extract t na).reverse,g,na-t,bc))else gl2 a b t nb (out++(a.extract t na).reverse) g (na-t) bc else gl2 a b na nb out g (na-t) bc|_=>pure (ForInStep.done (some (dn a b out na nb),na,nb,out,g,ac,bc))
def gal(a b:Array Keyed)(na nb:Nat)(out:Array Keyed)(g ac bc:Nat):Sm (ForInStep H2):=if g>1 then ϝ a b na nb out (g-1) ac bc else ϝ a b na nb out g ac bc
def round(a b:Array Keyed)(na nb:Nat)(out:Array Keyed)(g:Nat):Sm (ForInStep H0):=do let c<-forIn [0:a.size+b.size] ((none,na,nb,out,0,0):H1) λ_ c=>one a b g c.2.1 c.2.2.1 c.2.2.2.1 c.2.2.2.2.1 c.2.2.2.2.2 match c.1 with|some r=>pure (ForInStep.done (some r,c.2.1,c.2.2.1,c.2.2.2.1,g))|none=>do liftM (rule "list.sort.gallop")let d<-forIn [0:a.size+b.size] ((none,c.2.1,c.2.2.1,c.2.2.2.1,g+1,c.2.2.2.2.1,c.2.2.2.2.2):H2) λ_ d=>gal a b d.2.1 d.2.2.1 d.2.2.2.1 d.2.2.2.2.1 d.2.2.2.2.2.1 d.2.2.2.2.2.2 match d.1 with|some r=>pure (ForInStep.done (some r,d.2.1,d.2.2.1,d.2.2.2.1,d.2.2.2.2.1))|none=>do jW (d.2.2.2.2.1+1)pure (ForInStep.yield (none,d.2.1,d.2.2.1,d.2.2.2.1,d.2.2.2.2.1+1))
theorem LC(a b:Array Keyed):jY a b=(do liftM (rule "list.sort.merge-hi")let e<-elem' a (a.size-1)if(a.size-1==0)=true then pure (dn a b #[e] (a.size-1) b.size)else if(b.size==1)=true then pure (fb a b #[e] (a.size-1) b.size)else do let s<-get let c<-forIn [0:a.size+b.size] ((none,a.size-1,b.size,#[e],gallopOf s):H0) λ_ c=>round a b c.2.1 c.2.2.1 c.2.2.2.1 c.2.2.2.2 match c.1 with|some r=>pure r|none=>liftM (unsupported "internal:list.sort.merge-bound")):=by
 delta jY;refine bc rfl (funext λu=>bc rfl (funext λe=>ic rfl (ic rfl (bc rfl (funext λs=>bc (fi (funext λx=>funext λc=>?_)) (funext λc=>?_))))))
 .unfold round;refine bc (fi (funext λx=>funext λc1=>?_)) (funext λc1=>?_);.unfold one;refine bc rfl (funext λy=>bc rfl (funext λx=>bc rfl (funext λr=>?_)));cases r with|none=>rfl;|some w=>exact ic (bc rfl (funext λy=>ic rfl (ic rfl rfl))) (bc rfl (funext λy=>ic rfl (ic rfl rfl)))
  .obtain⟨r,c1⟩:=c1;cases r with|some r=>rfl;|none=>
    refine bc rfl (funext λu=>bc (fi (funext λx=>funext λd=>?_)) (funext λd=>?_));.unfold gal;refine ic ?_ ?_<;>(unfold ϝ;exact bc rfl (funext λu=>bc rfl (funext λy=>bc rfl (funext λr=>by rfl))))
    .obtain⟨r,d⟩:=d;cases r<;>rfl
 .obtain⟨r,c⟩:=c;cases r<;>rfl
theorem GF(a:Array Keyed)(n:Nat):(a.extract 0 n).toList=a.toList.take n:=by simp
theorem ext_cut(a:Array Keyed)(t n:Nat):(a.extract t n).toList=(a.toList.take n).drop t:=by rw[jX,List.drop_take]
theorem uZ(out:Array Keyed)(x:Keyed):(out.push x).reverse.toList=x::out.reverse.toList:=by simp
theorem yK(out seg:Array Keyed):(out++seg.reverse).reverse.toList=seg.toList++out.reverse.toList:=by simp
def Mh(a b out:Array Keyed)(na nb:Nat):Prop:=(a.toList.take na++(b.toList.take nb++out.reverse.toList)).Perm (a.toList++b.toList)
theorem gC{l:List Keyed}(h:t<=n):l.take n=l.take t++(l.take n).drop t:=by have e:=zBg t (l.take n);rw[List.take_take,show min t n=t by lia]at e;exact e.symm
theorem LK{a b:Array Keyed}(m:(a.toList.take na++(b.toList.take nb++o)).Perm out)(h:t<=na)(e:(a.toList.take na).drop t=seg):(a.toList.take t++(b.toList.take nb++(seg++o))).Perm out:=by rw[gC h,e,į]at m;exact((List.perm_append_comm_assoc _ _ _).append_left _).trans m
theorem LQ{a b:Array Keyed}(m:(a.toList.take na++(b.toList.take nb++o)).Perm out)(h:t<=nb)(e:(b.toList.take nb).drop t=seg):(a.toList.take na++(b.toList.take t++(seg++o))).Perm out:=by rw[gC (l:=b.toList) h,e,į]at m;exact m
structure At(a b out:Array Keyed)(na nb:Nat):Prop where
 mi:Mh a b out na nb
 a1:1<=na
 a2:na<=a.size
 b1:2<=nb
 b2:nb<=b.size
theorem iy{Ok:Keyed->Prop}{a:Array Keyed}(ka:∀p∈a.toList,Ok p)(h1:1<=n)(h2:n<=a.size):∃p,a[n-1]?=some p/\Ok p/\(a.toList.take n).drop (n-1)=[p]:=by obtain⟨p,p1,p2,p4⟩:=item ka (i:=n-1) Z1;refine⟨p,p1,p2,?_⟩;rw[List.drop_take,p4,show n-(n-1)=1 by lia];rfl
theorem pushA(m:Mh a b out na nb)(e:(a.toList.take na).drop (na-1)=[x]):Mh a b (out.push x) (na-1) nb:=by unfold Mh;rw[uZ];exact LK m Z1 e
theorem pushB(m:Mh a b out na nb)(e:(b.toList.take nb).drop (nb-1)=[x]):Mh a b (out.push x) na (nb-1):=by unfold Mh;rw[uZ];exact LQ m Z1 e
theorem segA(m:Mh a b out na nb)(ht:t<=na):Mh a b (out++(a.extract t na).reverse) t nb:=by unfold Mh;rw[yK,ext_cut];exact LK m ht rfl
theorem segB(m:Mh a b out na nb)(ht:t<=nb):Mh a b (out++(b.extract t nb).reverse) na t:=by unfold Mh;rw[yK,ext_cut];exact LQ m ht rfl
theorem e_d(m:Mh a b out na nb):Rs a b (dn a b out na nb):=by unfold Mh at m;unfold Rs dn;rw[Ϡ,Ϡ,GF,GF,į];exact m
theorem e_f(m:Mh a b out na nb):Rs a b (fb a b out na nb):=by unfold Mh at m;unfold Rs fb;rw[Ϡ,Ϡ,GF,GF,į];exact(List.perm_append_comm_assoc _ _ _).trans m
section
theorem xf(hL:LtAll prog w A E s Ok ks)(T:Two Ok a b){g na nb ac bc:Nat}{st:SortSt}(hk:kindOf st=ks)(m:At a b out na nb):wpS (model prog w) A E s (one a b g na nb out ac bc) (λr Z9=>Z9=st/\match r with|.done c=>(∃z,c.1=some z/\Rs a b z)\/(c.1=none/\At a b c.2.2.2.1 c.2.1 c.2.2.1/\c.2.1+c.2.2.1+1=na+nb)|.yield c=>c.1=none/\At a b c.2.2.2.1 c.2.1 c.2.2.1/\c.2.1+c.2.2.1+1=na+nb) st:=by
 obtain⟨mi,a1,a2,b1,b2⟩:=m;obtain⟨x,x1,x2,x4⟩:=iy T.ka a1 a2;obtain⟨y,y1,y2,y4⟩:=iy T.kb (show 1<=nb by lia) b2;unfold one;refine Ù (bz y1 (Ù (bz x1 (Ù (hL st hk _ _ _ y2 x2 λe=>?_)))))
 cases e with|true=>
  dsimp only;refine Ù (bz x1 ?_);have m':=pushA mi x4;by_cases h0:na-1=0;.rw[È (by simpa using h0)];exact Ü ⟨rfl,.inl ⟨_,rfl,e_d m'⟩⟩
  .rw[Æ (by simpa using h0)];have at':At a b (out.push x) (na-1) nb:=⟨m',Z1,Z1,b1,b2⟩;split;.exact Ü ⟨rfl,.inr ⟨rfl,at',by dsimp only;lia⟩⟩
   .exact Ü ⟨rfl,rfl,at',by dsimp only;lia⟩;|false=>
  dsimp only;refine Ù (bz y1 ?_);have m':=pushB mi y4;by_cases h0:nb-1=1;.rw[È (by simpa using h0)];exact Ü ⟨rfl,.inl ⟨_,rfl,e_f m'⟩⟩
  .rw[Æ (by simpa using h0)];have at':At a b (out.push y) na (nb-1):=⟨m',a1,a2,Z1,Z1⟩;split;.exact Ü ⟨rfl,.inr ⟨rfl,at',by dsimp only;lia⟩⟩
   .exact Ü ⟨rfl,rfl,at',by dsimp only;lia⟩
def G2(a b:Array Keyed)(n:Nat)(st:SortSt)(r:ForInStep H2)(Z9:SortSt):Prop:=SG st Z9/\match r with|.done c=>(∃z,c.1=some z/\Rs a b z)\/(c.1=none/\At a b c.2.2.2.1 c.2.1 c.2.2.1/\c.2.1+c.2.2.1<n)|.yield c=>c.1=none/\At a b c.2.2.2.1 c.2.1 c.2.2.1/\c.2.1+c.2.2.1<n
theorem pA(T:Two Ok a b){aT st:SortSt}(sg:SG aT st)(m:At a b out na nb)(hn:na+nb<=n):wpS (model prog w) A E s (gl4 a b na nb out g k k1) (G2 a b n aT) st:=by
 obtain⟨mi,a1,a2,b1,b2⟩:=m;obtain⟨x,x1,x2,x4⟩:=iy T.ka a1 a2;refine Ù (bz x1 ?_);have m':=pushA mi x4;by_cases h0:na-1=0;.rw[È (by simpa using h0)];exact Ü ⟨sg,.inl ⟨_,rfl,e_d m'⟩⟩
 .rw[Æ (by simpa using h0)];have at':At a b (out.push x) (na-1) nb:=⟨m',Z1,Z1,b1,b2⟩;split;.exact Ü ⟨sg,.inr ⟨rfl,at',by dsimp only;lia⟩⟩
  .exact Ü ⟨sg,rfl,at',by dsimp only;lia⟩
theorem xj(hL:LtAll prog w A E s Ok ks)(T:Two Ok a b){g na nb k bc n:Nat}{aT st:SortSt}(hk:kindOf st=ks)(sg:SG aT st)(m:At a b out na nb)(hn:na+nb<=n):wpS (model prog w) A E s (gl3 a b na nb out g k bc) (G2 a b n aT) st:=by
 obtain⟨mi,a1,a2,b1,b2⟩:=id m;obtain⟨x,x1,x2,x4⟩:=iy T.ka a1 a2;unfold gl3;refine Ù (bz x1 ?_);refine Ù (fu (hL st hk) x2 Z1 (λi hi=>?_) λt kn=>?_);.obtain⟨p,p1,p2,_⟩:=item T.kb (i:=0+i) Z1;exact⟨p,p1,p2⟩
 .by_cases h0:nb-t>0
  .dsimp only;rw[È h0];have m':=segB mi (show t<=nb by lia);by_cases e:t=1;.rw[È (by simpa using e)];exact Ü ⟨sg,.inl ⟨_,rfl,e_f m'⟩⟩
   .rw[Æ (by simpa using e)];by_cases e2:t=0;.rw[È (by simpa using e2)];exact Ü ⟨sg,.inl ⟨_,rfl,e_d m'⟩⟩
    .rw[Æ (by simpa using e2)];exact pA T sg ⟨m',a1,a2,Z1,Z1⟩ Z1
  .dsimp only;rw[Æ h0];exact pA T sg m hn
theorem pB(hL:LtAll prog w A E s Ok ks)(T:Two Ok a b){g na nb k bc n:Nat}{aT st:SortSt}(hk:kindOf st=ks)(sg:SG aT st)(m:At a b out na nb)(hn:na+nb<=n):wpS (model prog w) A E s (gl2 a b na nb out g k bc) (G2 a b n aT) st:=by
 obtain⟨mi,a1,a2,b1,b2⟩:=m;obtain⟨y,y1,y2,y4⟩:=iy T.kb (show 1<=nb by lia) b2;refine Ù (bz y1 ?_);have m':=pushB mi y4;by_cases h0:nb-1=1;.rw[È (by simpa using h0)];exact Ü ⟨sg,.inl ⟨_,rfl,e_f m'⟩⟩
 .rw[Æ (by simpa using h0)];exact xj hL T hk sg ⟨m',a1,a2,Z1,Z1⟩ Z1
theorem xm(hL:LtAll prog w A E s Ok ks)(T:Two Ok a b){g na nb ac bc n:Nat}{aT st:SortSt}(hk:kindOf st=ks)(sg:SG aT st)(m:At a b out na nb)(hn:na+nb<=n):wpS (model prog w) A E s (ϝ a b na nb out g ac bc) (G2 a b n aT) st:=by
 obtain⟨mi,a1,a2,b1,b2⟩:=id m;obtain⟨y,y1,y2,y4⟩:=iy T.kb (show 1<=nb by lia) b2;refine Ù (jh λZ9 CM=>?_);have dS:kindOf Z9=ks:=CM.kind.trans hk;have cb:SG aT Z9:=sg.trans CM;refine Ù (bz y1 ?_);refine Ù (fu (hL Z9 dS) y2 Z1 (λi hi=>?_) λt kn=>?_);.obtain⟨p,p1,p2,_⟩:=item T.ka (i:=0+i) Z1;exact⟨p,p1,p2⟩
 .by_cases h0:na-t>0
  .dsimp only;rw[È h0];have m':=segA mi (show t<=na by lia);by_cases e:t=0;.rw[È (by simpa using e)];exact Ü ⟨cb,.inl ⟨_,rfl,e_d m'⟩⟩
   .rw[Æ (by simpa using e)];exact pB hL T dS cb ⟨m',Z1,Z1,b1,b2⟩ Z1
  .dsimp only;rw[Æ h0];exact pB hL T dS cb m hn
theorem pC(hL:LtAll prog w A E s Ok ks)(T:Two Ok a b){aT st:SortSt}(hk:kindOf st=ks)(sg:SG aT st)(m:At a b out na nb):wpS (model prog w) A E s (round a b na nb out g) (λr Z9=>SG aT Z9/\match r with|.done c=>∃z,c.1=some z/\Rs a b z|.yield c=>c.1=none/\At a b c.2.2.2.1 c.2.1 c.2.2.1/\c.2.1+c.2.2.1<na+nb) st:=by
 have R8:0<a.size+b.size:=by have:=m.a1;have:=m.a2;lia
 refine Ù (wpS_mono (wpS_forRange (I:=λx c Z9=>Z9=st/\c.1=none/\At a b c.2.2.2.1 c.2.1 c.2.2.1/\c.2.1+c.2.2.1+x=na+nb) (Q:=λc Z9=>Z9=st/\((∃z,c.1=some z/\Rs a b z)\/(c.1=none/\At a b c.2.2.2.1 c.2.1 c.2.2.1/\c.2.1+c.2.2.1<na+nb))) ?_ ?_ ⟨rfl,rfl,m,rfl⟩) ?_)
 .rintro x⟨c0,i,j,o,ac,bc⟩Z9 _ hx⟨rfl,rfl,m',e⟩;dsimp only at m' e⊢;refine wpS_mono (xf hL T hk m') λr st2 h2=>?_;obtain⟨rfl,h2⟩:=h2
  cases r with|done c=>
   rcases h2 with h2|⟨h2,h3,h4⟩;.exact⟨rfl,.inl h2⟩
   .exact⟨rfl,.inr ⟨h2,h3,Z1⟩⟩;|yield c=>obtain⟨h2,h3,h4⟩:=h2;exact⟨rfl,h2,h3,Z1⟩
 .rintro c Z9⟨rfl,h1,h2,h3⟩;exact⟨rfl,.inr ⟨h1,h2,Z1⟩⟩
 .rintro⟨c0,i,j,o,ac,bc⟩Z9⟨rfl,h⟩;dsimp only at h⊢;rcases h with⟨z,rfl,hz⟩|⟨rfl,m',wc⟩;.exact Ü ⟨sg,z,rfl,hz⟩
  .dsimp only;refine Ù (wpS_lift (wpAny_rule ⟨rfl,?_⟩));refine Ù (wpS_mono (wpS_forRange (I:=λx c st2=>SG aT st2/\c.1=none/\At a b c.2.2.2.1 c.2.1 c.2.2.1/\c.2.1+c.2.2.1<na+nb) (Q:=λc st2=>SG aT st2/\((∃z,c.1=some z/\Rs a b z)\/(c.1=none/\At a b c.2.2.2.1 c.2.1 c.2.2.1/\c.2.1+c.2.2.1<na+nb))) ?_ ?_ ⟨sg,rfl,m',wc⟩) ?_)
   .rintro x⟨c0,i,j,o,g2,ac,bc⟩st2 _ hx⟨cb,rfl,m2,e2⟩;dsimp only at m2 e2⊢;have Kb:kindOf st2=ks:=cb.kind.trans (sg.kind.symm.trans hk);have go:∀g',wpS (model prog w) A E s (ϝ a b i j o g' ac bc) (G2 a b (na+nb) aT) st2:=λg'=>xm hL T Kb cb m2 Z1;unfold gal;split;.refine wpS_mono (go _) λr ja h3=>?_;obtain⟨h3,h4⟩:=h3;cases r with|done c=>exact⟨h3,h4⟩;|yield c=>exact⟨h3,h4⟩
    .refine wpS_mono (go _) λr ja h3=>?_;obtain⟨h3,h4⟩:=h3;cases r with|done c=>exact⟨h3,h4⟩;|yield c=>exact⟨h3,h4⟩
   .rintro c st2⟨h0,h1,h2,h3⟩;exact⟨h0,.inr ⟨h1,h2,h3⟩⟩
   .rintro⟨c0,i,j,o,g2,ac,bc⟩st2⟨cb,h⟩;dsimp only at h⊢;rcases h with⟨z,rfl,hz⟩|⟨rfl,m2,xB⟩;.exact Ü ⟨cb,z,rfl,hz⟩
    .dsimp only;refine Ù (jh λja qA=>Ü ⟨⟨qA.kind.trans cb.kind,qA.arr.trans cb.arr,qA.pend.trans cb.pend,qA.fail.trans cb.fail⟩,rfl,m2,xB⟩)
theorem hi_wp(hL:LtAll prog w A E s Ok ks)(T:Two Ok a b)(ha:0<a.size)(hb:0<b.size){st:SortSt}(hk:kindOf st=ks)(h:∀r Z9,SG st Z9->Rs a b r->Q r Z9):wpS (model prog w) A E s (jY a b) Q st:=by
 rw[LC];obtain⟨x,x1,x2,x4⟩:=iy T.ka (n:=a.size) ha (Ø _);refine Ù (wpS_lift (wpAny_rule ⟨rfl,?_⟩));refine Ù (bz x1 ?_);have m0:Mh a b #[] a.size b.size:=by unfold Mh;rw[ϩ (by rw[ő];exact Ø _),ϩ (by rw[ő];exact Ø _)];simp
 have m:Mh a b #[x] (a.size-1) b.size:=pushA m0 x4;by_cases e1:a.size-1=0;.rw[È (by simpa using e1)];exact Ü (h _ st (SG.refl _) (e_d m))
 .rw[Æ (by simpa using e1)];by_cases e2:b.size=1;.rw[È (by simpa using e2)];exact Ü (h _ st (SG.refl _) (e_f m))
  .rw[Æ (by simpa using e2)];refine Ù (wpS_get ?_);refine Ù (wpS_mono (wpS_forRange (I:=λx c Z9=>SG st Z9/\c.1=none/\At a b c.2.2.2.1 c.2.1 c.2.2.1/\c.2.1+c.2.2.1+x<a.size+b.size) (Q:=λc Z9=>SG st Z9/\∃z,c.1=some z/\Rs a b z) ?_ ?_ ⟨SG.refl _,rfl,⟨m,by dsimp only;lia,by dsimp only;lia,by dsimp only;lia,Ø _⟩,by dsimp only;lia⟩) ?_);.rintro x⟨c0,i,j,o,g⟩Z9 _ hx⟨sg,rfl,m',e⟩;dsimp only at m' e⊢;refine wpS_mono (pC hL T (sg.kind.trans hk) sg m') λr st2 h2=>?_;obtain⟨cb,h2⟩:=h2;cases r with|done c=>exact⟨cb,h2⟩;|yield c=>obtain⟨h2,h3,h4⟩:=h2;exact⟨cb,h2,h3,Z1⟩
   .rintro c Z9⟨sg,h1,m',e⟩;exact absurd e Z1
   .rintro⟨c0,i,j,o,g⟩Z9⟨sg,z,e,hz⟩;rw[e];exact Ü (h z Z9 sg hz)
end
end Hi
open PySem PyProof.Rows
def over(arr:Array Keyed)(n:Nat)(l:List Keyed):Array Keyed:=l.zipIdx.foldl (λa p=>a.setIfInBounds (n+p.2) p.1) arr
theorem yL:∀(l:List Keyed)j n(arr:Array Keyed),n+j+l.length<=arr.size->(((l.zipIdx j).foldl (λa p=>a.setIfInBounds (n+p.2) p.1) arr).size=arr.size/\∀i,((l.zipIdx j).foldl (λa p=>a.setIfInBounds (n+p.2) p.1) arr)[i]?=if n+j<=i/\i<n+j+l.length then l[i-(n+j)]? else arr[i]?)
 |[],j,n,arr,_=>by refine⟨rfl,λi=>?_⟩;rw[Æ (by rw[List.length_nil];lia)];rfl;|p::l,j,n,arr,h=>by
  rw[Ī]at h;rw[List.zipIdx_cons,List.foldl_cons];obtain⟨h1,h2⟩:=yL l (j+1) n (arr.setIfInBounds (n+j) p) (by rw[Array.size_setIfInBounds];lia);refine⟨by rw[h1,Array.size_setIfInBounds],λi=>?_⟩;rw[h2 i,Ī,Array.getElem?_setIfInBounds];by_cases e:n+j=i;.subst e;rw[Æ Z1,È rfl,È Z1];simp
  .rw[Æ e];by_cases e2:n+(j+1)<=i/\i<n+(j+1)+l.length;.rw[È e2,È Z1,show i-(n+j)=(i-(n+(j+1)))+1 by lia];rfl
   .rw[Æ e2,Æ Z1]
theorem Ba(h:n+l.length<=arr.size):(over arr n l).toList=arr.toList.take n++l++arr.toList.drop (n+l.length):=by
 obtain⟨h1,h2⟩:=yL l 0 n arr Z1;refine List.ext_getElem? λi=>?_;rw[Zaz];show((l.zipIdx 0).foldl (λa p=>a.setIfInBounds (n+p.2) p.1) arr)[i]?=_;have hl:arr.toList.length=arr.size:=ő;rw[h2 i,į,List.getElem?_append,Ė,hl,show min n arr.size=n by lia,List.getElem?_append];by_cases e1:i<n;.rw[Æ Z1,È e1,List.getElem?_take,È e1,Zaz]
 .rw[Æ e1];by_cases e2:i<n+l.length;.rw[È Z1,È Z1];rfl
  .rw[Æ Z1,Æ Z1,List.getElem?_drop,Zaz];congr 1;lia
theorem LR(i:Nat):mergeAt' i=(do let s<-get match(pendingOf s)[i]?,(pendingOf s)[i+1]? with
 |some p,some q=>do set (setPending s (((pendingOf s).setIfInBounds i (p.1,p.2.1+q.2.1,p.2.2)).eraseIdxIfInBounds (i+1)))let y<-elem' (arrOf s) q.1 let r<-gO false y (arrOf s) p.1 p.2.1 0 match r with
   |some k=>if(p.2.1-k==0)=true then pure true else do
 let x<-elem' (arrOf s) (p.1+k+(p.2.1-k)-1)let r<-gO true x (arrOf s) q.1 q.2.1 (q.2.1-1)
     match r with|some n=>if(n==0)=true then pure true else do
 let m<-if p.2.1-k<=n then jV ((arrOf s).extract (p.1+k) q.1) ((arrOf s).extract q.1 (q.1+n))else jY ((arrOf s).extract (p.1+k) q.1) ((arrOf s).extract q.1 (q.1+n))
       modify λs'=>setArr s' (over (arrOf s') (p.1+k) m.toList)let s'<-get
       pure (failedOf s').isNone|_=>pure false
   |_=>pure false
  |_,_=>liftM (unsupported "internal:list.sort.pending")):=by delta mergeAt';refine bc rfl (funext λs=>?_);generalize e1:(pendingOf s)[i]?=o1;generalize e2:(pendingOf s)[i+1]?=o2;cases o1 with|none=>cases o2<;>rfl;|some p=>cases o2 with|none=>rfl;|some q=>refine bc rfl (funext λu=>bc rfl (funext λy=>bc rfl (funext λr=>?_)));cases r with|none=>rfl;|some k=>refine ic rfl (bc rfl (funext λx=>bc rfl (funext λr=>?_)));cases r with|none=>rfl;|some n=>exact ic rfl (ic (bc rfl (funext λm=>rfl)) (bc rfl (funext λm=>rfl)))
theorem v5{l:List Keyed}(h:t<=n)(hn:n<=l.length):(l.take n).drop t++l.drop n=l.drop t:=by have e:=zBg n l;have:(l.take n++l.drop n).drop t=(l.take n).drop t++l.drop n:=List.drop_append_of_le_length (by rw[Ė];lia);rw[e]at this;exact this.symm
section
theorem M3(hL:LtAll prog w A E s Ok ks)(h0:∀p∈ae.toList,Ok p){st:SortSt}(B:SB ks ae st)(e1:(pendingOf st)[i]?=some (sa,na,pw))(e2:(pendingOf st)[i+1]?=some (sa+na,nb,Ow))(n1:1<=na)(n2:1<=nb)(hz:sa+na+nb<=ae.size)(h:∀Z9,SB ks ae Z9->pendingOf Z9=((pendingOf st).setIfInBounds i (sa,na+nb,pw)).eraseIdxIfInBounds (i+1)->Q true Z9):wpS (model prog w) A E s (mergeAt' i) Q st:=by
 rw[LR];refine Ù (wpS_get ?_);rw[e1,e2];dsimp only;have kA:∀p∈(arrOf st).toList,Ok p:=λp hp=>h0 p ((Zbd.mp B.pm).mem_iff.mp hp);have hsz:(arrOf st).size=ae.size:=B.size;have fR:(arrOf st).toList.length=ae.size:=by rw[ő,hsz]
 obtain⟨P,eP⟩:∃P,P=((pendingOf st).setIfInBounds i (sa,na+nb,pw)).eraseIdxIfInBounds (i+1):=⟨_,rfl⟩;rw[<-eP]at h⊢;have Ki:∀{R:PUnit->SortSt->Prop},R ⟨⟩ (setPending st P)->wpS (model prog w) A E s (set (setPending st P):Sm PUnit) R st:=λhR=>by unfold wpS;rw[StateT.run_set];exact Ô ⟨rfl,hR⟩
 refine Ù (Ki ?_);obtain⟨st1,qB⟩:∃st1,st1=setPending st P:=⟨_,rfl⟩;have k1:kindOf st1=ks:=by rw[qB];exact B.kind
 have a1:arrOf st1=arrOf st:=by rw[qB]
 have p1:pendingOf st1=P:=by rw[qB]
 have f1:failedOf st1=none:=by rw[qB];exact B.ok
 rw[<-qB];have all:SB ks ae st1:=⟨k1,f1,by rw[a1];exact B.pm⟩;obtain⟨y,y1,y2,y4⟩:=item kA (i:=sa+na) Z1;refine Ù (bz y1 ?_);refine Ù (fu (hL st1 k1) y2 Z1 (λj hj=>?_) λk kn=>?_);.obtain⟨p,q1,q2,_⟩:=item kA (i:=sa+j) Z1;exact⟨p,q1,q2⟩
 .dsimp only;by_cases JU:na-k=0;.rw[È (by simpa using JU)];exact Ü (h st1 all p1)
  .rw[Æ (by simpa using JU)];rw[show sa+k+(na-k)-1=sa+na-1 by lia];obtain⟨x,x1,x2,x4⟩:=item kA (i:=sa+na-1) Z1;refine Ù (bz x1 ?_);refine Ù (fu (hL st1 k1) x2 Z1 (λj hj=>?_) λn nn=>?_);.obtain⟨p,q1,q2,_⟩:=item kA (i:=sa+na+j) Z1;exact⟨p,q1,q2⟩
   .dsimp only;by_cases Ox:n=0;.rw[È (by simpa using Ox)];exact Ü (h st1 all p1)
    .rw[Æ (by simpa using Ox)];obtain⟨X,eX⟩:∃X,X=(arrOf st).extract (sa+k) (sa+na):=⟨_,rfl⟩;obtain⟨Y,eY⟩:∃Y,Y=(arrOf st).extract (sa+na) (sa+na+n):=⟨_,rfl⟩;rw[<-eX,<-eY];have lX:X.toList=((arrOf st).toList.take (sa+na)).drop (sa+k):=by rw[eX,Hi.ext_cut]
     have lY:Y.toList=((arrOf st).toList.take (sa+na+n)).drop (sa+na):=by rw[eY,Hi.ext_cut]
     have zX:X.size=na-k:=by rw[<-ő,lX,Za5,Ė,fR];lia
     have zY:Y.size=n:=by rw[<-ő,lY,Za5,Ė,fR];lia
     have TT:Two Ok X Y:=⟨λp hp=>kA p (by rw[lX]at hp;exact Zaq (List.mem_of_mem_drop hp)),λp hp=>kA p (by rw[lY]at hp;exact Zaq (List.mem_of_mem_drop hp))⟩;have fin:∀m st2,SG st1 st2->Rs X Y m->wpS (model prog w) A E s (do
 modify λs'=>setArr s' (over (arrOf s') (sa+k) m.toList)let s'<-get
       pure (failedOf s').isNone) Q st2:=λm st2 sg D=>by
      refine Ù (wpS_modify (Ù (wpS_get (Ü ?_))));have ft:(failedOf (setArr st2 (over (arrOf st2) (sa+k) m.toList))).isNone=true:=by show(failedOf st2).isNone=true;rw[sg.fail,f1];rfl
      rw[ft];have am:arrOf st2=arrOf st:=sg.arr.trans a1;have lm:m.toList.length=na-k+n:=by rw[D.length_eq,ì,ő,ő,zX,zY]
      have ol:(over (arrOf st) (sa+k) m.toList).toList=(arrOf st).toList.take (sa+k)++m.toList++(arrOf st).toList.drop (sa+na+n):=by rw[Ba (by rw[lm,hsz];lia),lm,show sa+k+(na-k+n)=sa+na+n by lia]
      have CO:(over (arrOf st) (sa+k) m.toList).toList.Perm (arrOf st).toList:=by
       rw[ol];have e:(arrOf st).toList=(arrOf st).toList.take (sa+k)++(X.toList++Y.toList)++(arrOf st).toList.drop (sa+na+n):=by rw[lX,lY];have c1:=v5 (l:=(arrOf st).toList) (t:=sa+na) (n:=sa+na+n) Z1 (by rw[fR];lia);have c2:=v5 (l:=(arrOf st).toList) (t:=sa+k) (n:=sa+na) Z1 (by rw[fR];lia);rw[į,į,c1,c2,zBg]
       conv=>rhs;rw[e]
       exact List.Perm.append_right _ (List.Perm.append_left _ D)
      refine h _ ⟨sg.kind.trans k1,by show failedOf st2=none;rw[sg.fail,f1],?_⟩ (sg.pend.trans p1);show(over (arrOf st2) (sa+k) m.toList).Perm ae;rw[am];exact(Zbd.mpr CO).trans B.pm
     by_cases hc:na-k<=n;.rw[È hc];exact Ù (Lz hL TT Z1 Z1 k1 λm st2 sg D=>fin m st2 sg D)
     .rw[Æ hc];exact Ù (Hi.hi_wp hL TT Z1 Z1 k1 λm st2 sg D=>fin m st2 sg D)
end
abbrev Run:=Nat×Nat×Nat
def Ch:List Run->Nat->Nat->Prop|[],a,b=>a=b|r::l,a,b=>r.1=a/\1<=r.2.1/\Ch l (a+r.2.1) b
theorem Ch.le:∀{l:List Run}{a b:Nat},Ch l a b->a+l.length<=b|[],a,b,h=>by have h:a=b:=h;simp[h];|r::l,a,b,h=>by have:=Ch.le h.2.2;have:=h.2.1;rw[Ī];lia
theorem Ch.split:∀{l1 l2:List Run}{a b:Nat},Ch (l1++l2) a b↔∃m,Ch l1 a m/\Ch l2 m b
 |[],l2,a,b=>⟨λh=>⟨a,rfl,h⟩,λhZ=>by obtain⟨m,h1,h2⟩:=hZ;rw[h1];exact h2⟩|r::l1,l2,a,b=>by
  constructor;.intro h;obtain⟨m,h1,h2⟩:=Ch.split.mp h.2.2;exact⟨m,⟨h.1,h.2.1,h1⟩,h2⟩
  .rintro⟨m,h1,h2⟩;exact⟨h1.1,h1.2.1,Ch.split.mpr ⟨m,h1.2.2,h2⟩⟩
theorem Bb{p:Array Run}(h:i+1<p.size):((p.setIfInBounds i v).eraseIdxIfInBounds (i+1)).toList=p.toList.take i++v::p.toList.drop (i+2):=by
 have hl:p.toList.length=p.size:=ő;have e1:(p.setIfInBounds i v).eraseIdxIfInBounds (i+1)=(p.setIfInBounds i v).eraseIdx (i+1) (by rw[Array.size_setIfInBounds];exact h):=by grind
 rw[e1,Array.toList_eraseIdx,Array.toList_setIfInBounds,List.eraseIdx_eq_take_drop_succ,List.take_set,List.drop_set,È Z1];have e2:p.toList.take (i+1)=p.toList.take i++[p.toList[i]'Z1]:=by rw[Ĝ,Ö Z1];rfl
 rw[e2,List.set_append_right _ _ (by rw[Ė];lia)];rw[Ė,show i-min i p.toList.length=0 by lia];simp
section
structure St(ks:SortKind)(ae:Array Keyed)(st:SortSt)(lo:Nat):Prop where
 base:SB ks ae st
 ch:Ch (pendingOf st).toList 0 lo
 le:lo<=ae.size
theorem v6(hL:LtAll prog w A E s Ok ks)(h0:∀p∈ae.toList,Ok p){st:SortSt}{lo i:Nat}(S:St ks ae st lo)(hi:i+1<(pendingOf st).size)(h:∀Z9,St ks ae Z9 lo->(pendingOf Z9).size+1=(pendingOf st).size->Q true Z9):wpS (model prog w) A E s (mergeAt' i) Q st:=by
 have hl:(pendingOf st).toList.length=(pendingOf st).size:=ő;have d1:(pendingOf st).toList.drop i=(pendingOf st).toList[i]'Z1::(pendingOf st).toList.drop (i+1):=Zas Z1;have d2:(pendingOf st).toList.drop (i+1)=(pendingOf st).toList[i+1]'Z1::(pendingOf st).toList.drop (i+2):=Zas Z1;have g1:(pendingOf st)[i]?=some ((pendingOf st).toList[i]'Z1):=by rw[<-Zaz,Ö Z1]
 have g2:(pendingOf st)[i+1]?=some ((pendingOf st).toList[i+1]'Z1):=by rw[<-Zaz,Ö Z1]
 obtain⟨⟨sa,na,pw⟩,ep⟩:∃r,r=(pendingOf st).toList[i]'Z1:=⟨_,rfl⟩;obtain⟨⟨sb,nb,Ow⟩,eq⟩:∃r,r=(pendingOf st).toList[i+1]'Z1:=⟨_,rfl⟩;rw[<-ep]at d1 g1;rw[<-eq]at d2 g2;have c:=S.ch;rw[<-zBg i (pendingOf st).toList,d1,d2]at c;obtain⟨m,c1,c2⟩:=Ch.split.mp c;obtain⟨q1,q2,q4,q5,q7⟩:=c2;dsimp only at q1 q2 q4 q5 q7;subst q1;subst q4;have lb:=Ch.le q7;refine M3 hL h0 S.base g1 g2 q2 q5 (by have:=S.le;lia) λZ9 B' P'=>?_;have pl:(pendingOf Z9).toList=(pendingOf st).toList.take i++(sa,na+nb,pw)::(pendingOf st).toList.drop (i+2):=by rw[P',Bb hi]
 refine h Z9 ⟨B',?_,S.le⟩ ?_;.rw[pl];refine Ch.split.mpr ⟨sa,c1,rfl,by dsimp only;lia,?_⟩;dsimp only;rw[<-Nat.add_assoc];exact q7
 .rw[<-ő,pl,ì,Ī,Ė,Za5];lia
def rest(z lo n:Nat):Sm (ForInStep (Option Unit×Nat)):=do let s<-get match(pendingOf s).back? with
 |some (s1,n1,_)=>do
 let c<-forIn [0:z] ((none,()):Option Unit×Unit) λ_ _=>do let s<-get match(if(pendingOf s).size>1 then(pendingOf s)[(pendingOf s).size-2]? else none)with|some (_,_,older)=>if older<=power' z (2*s1+n1) (2*s1+n1+n1+n) z then pure (ForInStep.done (none,()))else do let b<-mergeAt' ((pendingOf s).size-2)if(!b)=true then pure (ForInStep.done (some (),()))else pure (ForInStep.yield (none,()))|_=>pure (ForInStep.done (none,()))
  match c.1 with|some r=>pure (ForInStep.done (some r,lo))|none=>do modify λs=>setPending s ((pendingOf s).modify ((pendingOf s).size-1) λx=>(x.1,x.2.1,power' z (2*s1+n1) (2*s1+n1+n1+n) z))modify λs=>setPending s ((pendingOf s).push (lo,n,0))pure (ForInStep.yield (none,lo+n))
 |_=>do modify λs=>setPending s ((pendingOf s).push (lo,n,0))pure (ForInStep.yield (none,lo+n))
theorem Ch.pw(f:Run->Run)(hf:∀r,(f r).1=r.1/\(f r).2.1=r.2.1):∀{l:List Run}{a b i:Nat},Ch l a b->Ch (l.modify i f) a b|[],a,b,i,h=>by cases i<;>exact h;|r::l,a,b,0,h=>by obtain⟨e1,e2⟩:=hf r;refine⟨e1.trans h.1,by rw[e2];exact h.2.1,?_⟩;rw[e2];exact h.2.2;|r::l,a,b,i+1,h=>⟨h.1,h.2.1,Ch.pw f hf h.2.2⟩
theorem St.push{st:SortSt}{lo n:Nat}(S:St ks ae st lo)(n1:1<=n)(hn:lo+n<=ae.size):St ks ae (setPending st ((pendingOf st).push (lo,n,0))) (lo+n):=by refine⟨⟨S.base.kind,S.base.ok,S.base.pm⟩,?_,hn⟩;rw[Array.toList_push];exact Ch.split.mpr ⟨lo,S.ch,rfl,n1,rfl⟩
theorem St.pw{st:SortSt}{lo i:Nat}(S:St ks ae st lo)(f:Run->Run)(hf:∀r,(f r).1=r.1/\(f r).2.1=r.2.1):St ks ae (setPending st ((pendingOf st).modify i f)) lo:=by refine⟨⟨S.base.kind,S.base.ok,S.base.pm⟩,?_,S.le⟩;rw[Array.toList_modify];exact S.ch.pw f hf
theorem yM(hL:LtAll prog w A E s Ok ks)(h0:∀p∈ae.toList,Ok p){st:SortSt}{lo n x:Nat}(S:St ks ae st lo)(n1:1<=n)(hn:lo+n<=ae.size)(hx:x<=lo)(h:∀Z9,St ks ae Z9 (lo+n)->Q (.yield (none,lo+n)) Z9):wpS (model prog w) A E s (rest ae.size lo n) Q st:=by unfold rest;refine Ù (wpS_get ?_);cases(pendingOf st).back? with|none=>exact Ù (wpS_modify (Ü (h _ (S.push n1 hn))));|some q=>
  obtain⟨s1,Kj,p1⟩:=q;refine Ù (wpS_mono (wpS_forRange (I:=λ_ c Z9=>c=(none,())/\St ks ae Z9 lo) (Q:=λc Z9=>c=(none,())/\St ks ae Z9 lo) ?_ (λ_ _ z=>z) ⟨rfl,S⟩) ?_)
  .rintro y c Z9 _ _⟨rfl,S'⟩;refine Ù (wpS_get ?_);by_cases h1:(pendingOf Z9).size>1
   .rw[È h1];have hl:(pendingOf Z9).size-2<(pendingOf Z9).size:=Z1;rw[Array.getElem?_eq_getElem hl];dsimp only;split;.exact Ü ⟨rfl,S'⟩
    .refine Ù (v6 hL h0 S' Z1 λst2 S2 _=>?_);exact Ü ⟨rfl,S2⟩
   .rw[Æ h1];exact Ü ⟨rfl,S'⟩
  .rintro c Z9⟨rfl,S'⟩;refine Ù (wpS_modify (Ù (wpS_modify (Ü (h _ ?_)))));exact(S'.pw (λx=>(x.1,x.2.1,power' ae.size (2*s1+Kj) (2*s1+Kj+Kj+n) ae.size)) λ_=>⟨rfl,rfl⟩).push n1 hn
theorem ifl(c:Prop)[Decidable c](n:Nat):(if c then n-1 else n)<=n:=by split<;>lia
theorem runs_wp(hL:LtAll prog w A E s Ok ks)(h0:∀p∈ae.toList,Ok p){st:SortSt}(B:SB ks ae st)(hp:pendingOf st=#[])(h:∀Z9,SB ks ae Z9->Q () Z9):wpS (model prog w) A E s sortRuns' Q st:=by
 rw[sortRuns'_eq];refine Ù (wpS_get ?_);dsimp only;rw[B.size];generalize minRun' ae.size ae.size 0=mr;refine Ù (wpS_mono (wpS_forRange (I:=λx c Z9=>c.1=none/\St ks ae Z9 c.2/\x<=c.2) (Q:=λc Z9=>c.1=none/\St ks ae Z9 ae.size) ?_ ?_ ⟨rfl,⟨B,by rw[hp];rfl,Ě _⟩,Ø _⟩) ?_)
 .rintro x⟨c0,lo⟩Z9 _ hx⟨rfl,S,sM⟩;dsimp only at S sM⊢;by_cases kF:lo≥ae.size
  .rw[È kF];have e:lo=ae.size:=by have:=S.le;lia
   refine Ü ⟨rfl,?_⟩;rw[<-e];exact S
  .rw[Æ kF];refine Ù (Du hL h0 Z1 Z1 S.base λn st1 G1 n1 n2=>?_);dsimp only;have S1:St ks ae st1 lo:=⟨G1.b,by rw[G1.p];exact S.ch,S.le⟩;have tr:∀{m m':Sm (ForInStep (Option Unit×Nat))}{R:ForInStep (Option Unit×Nat)->SortSt->Prop}{st2:SortSt},m=m'->wpS (model prog w) A E s m' R st2->wpS (model prog w) A E s m R st2:=λe h=>e▸h;by_cases hm:n<mr;.rw[È hm];refine Ù (wpS_lift (wpAny_rule ⟨rfl,?_⟩));refine Ù (JM hL h0 Z1 (Go.refl G1.b) λst2 G2=>?_);rw[Æ Z3];refine tr ?_ (yM (n:=min (ae.size-lo) mr) hL h0 ⟨G2.b,by rw[G2.p];exact S1.ch,S.le⟩ Z1 Z1 sM λja S3=>⟨rfl,S3,by dsimp only;lia⟩);.skip;unfold rest;refine bc rfl (funext λs=>?_);cases(pendingOf s).back? with|none=>rfl;|some q=>
      obtain⟨s1,n1,p⟩:=q;refine bc (fi (funext λx=>funext λc=>bc rfl (funext λs=>?_))) (funext λc=>?_);.generalize(if(pendingOf s).size>1 then(pendingOf s)[(pendingOf s).size-2]? else none)=o;cases o with|none=>rfl;|some r=>obtain⟨r1,r2,r3⟩:=r;exact ic rfl (bc rfl (funext λb=>rfl))
      .obtain⟨r,u⟩:=c;cases r<;>rfl
   .rw[Æ hm];refine tr ?_ (yM (n:=n) hL h0 S1 n1 Z1 sM λja S3=>⟨rfl,S3,by dsimp only;lia⟩);.skip;unfold rest;refine bc rfl (funext λs=>?_);cases(pendingOf s).back? with|none=>rfl;|some q=>
      obtain⟨s1,n1,p⟩:=q;refine bc (fi (funext λx=>funext λc=>bc rfl (funext λs=>?_))) (funext λc=>?_);.generalize(if(pendingOf s).size>1 then(pendingOf s)[(pendingOf s).size-2]? else none)=o;cases o with|none=>rfl;|some r=>obtain⟨r1,r2,r3⟩:=r;exact ic rfl (bc rfl (funext λb=>rfl))
      .obtain⟨r,u⟩:=c;cases r<;>rfl
 .rintro⟨c0,lo⟩Z9⟨h1,S,h2⟩;dsimp only at h1 S h2⊢;have e:lo=ae.size:=by have:=S.le;lia
  rw[<-e];exact⟨h1,S⟩
 .rintro⟨c0,lo⟩Z9⟨h1,S⟩;dsimp only at h1;subst h1;dsimp only;have p0:(pendingOf Z9).size<=ae.size:=by have:=Ch.le S.ch;rw[ő]at this;lia
  refine Ù (wpS_mono (wpS_forRange (I:=λx c st2=>c=(none,())/\St ks ae st2 ae.size/\(pendingOf st2).size+x<=ae.size) (Q:=λc st2=>c=(none,())/\St ks ae st2 ae.size/\(pendingOf st2).size<=1) ?_ ?_ ⟨rfl,S,Z1⟩) ?_)
  .rintro x c st2 _ hx⟨rfl,S2,iA⟩;refine Ù (wpS_get ?_);by_cases h1:(pendingOf st2).size<=1;.rw[È h1];exact Ü ⟨rfl,S2,h1⟩
   .rw[Æ h1];refine Ù (v6 hL h0 S2 (Nat.lt_of_le_of_lt (Nat.succ_le_succ (ifl _ _)) (show(pendingOf st2).size-2+1<(pendingOf st2).size by lia)) λja S3 z3=>?_);rw[Æ Z3];exact Ü ⟨rfl,S3,Z1⟩
  .rintro c st2⟨rfl,S2,iA⟩;exact⟨rfl,S2,Z1⟩
  .rintro c st2⟨rfl,S2,iA⟩;exact Ü (h st2 S2.base)
end
end So
namespace L2
open PySem PySem.Spec PyProof.Rows PySem.Calls
section
open PySem.W
theorem Dv:∀{ns ms:PP}{us vs:gV}{i:Nat},Ë (ns.map V.int) us->Ë (ms.map V.int) vs->(∀r,Q r s)->KatLex prog w A true (decide (ns.length<ms.length)) Q (us.zip vs) i s
 |[],[],_,_,_,.nil,.nil,h=>h _|[],_::_,_,_,_,.nil,.cons _ _,h=>by refine kat_nil ?_;exact h _;|_::_,[],_,_,_,.cons _ _,.nil,h=>by refine kat_nil ?_;exact h _;|x::ns,y::ms,_,_,i,.cons r1 t1,.cons r2 t2,h=>by
  obtain⟨k1,rfl⟩:=r1;obtain⟨k2,rfl⟩:=r2;refine kat_cons (wpAny_eqBool_int ?_);by_cases e:x=y;.subst e;rw[show(x==x)=true from beq_self_eq_true x];refine kat_yes ?_;have:=Dv (prog:=prog) (w:=w) (A:=A) (i:=i+1) t1 t2 h;rw[show decide ((x::ns).length<(x::ms).length)=decide (ns.length<ms.length)by rw[Ī,Ī];exact decide_eq_decide.mpr Z1];exact this
  .rw[show(x==y)=false from beq_false_of_ne e];refine kat_no ?_;cases hi:(true&&i==0)with|true=>exact oneLt_int (h _);|false=>exact kat_one _ _ (lt_int (h _))
theorem GJ{ns ms:PP}(hx:s.heap.get? x=some ox)(dx:ox.data=.seq us.toArray nx)(hy:s.heap.get? y=some oy)(dy:oy.data=.seq vs.toArray ny)(r1:Ë (ns.map V.int) us)(r2:Ë (ms.map V.int) vs)(h:∀r,Q r s):wpAny (model prog w) A (keyLt' (tuples' true) (.ref x) (.ref y)) Q E s:=by refine kat_lt hx dx hy dy ?_;have l1:=r1.length;have l2:=r2.length;rw[Ð]at l1 l2;have:=Dv (prog:=prog) (w:=w) (A:=A) (s:=s) (Q:=Q) (i:=0) r1 r2 h;rw[Ď,Ď,<-l1,<-l2];exact this
theorem GK{R:gV->Prop}(lst:s.heap.IsList l vs.toArray)(fits:vs.length<=sizeLine)(small:vs.length<2->R vs)(big:2<=vs.length->∀g,(∀b o,s.heap.get? b=some o->g.get? b=some o)->wpAny (model prog w) A.in1.in1 (keyKind' vs.toArray) (λκ s1=>s1={s with heap:=g}/\wpS (model prog w) A.in1.in1 (λ_ _=>False) {s with heap:=g} sortRuns' (λ_ st=>failedOf st=none/\∃out,(arrOf st).map (·.2)=List.toArray out/\R out) (SortSt.mk' κ (vs.toArray.zip vs.toArray) #[] 7 none)) (λ_ _=>False) {s with heap:=g})(len:∀out,R out->out.length=vs.length)(fin:∀out,R out->∀h2 c,(∀b o,s.heap.get? b=some o->h2.get? b=some o)->h2.get? (s.heap.objs.size+1)=some (seqObj "list" out.toArray c)->Q (.ref (s.heap.objs.size+1)) {s with heap:=h2}):wpAny (model prog w) A (call (.builtin "sorted") [.ref l]) Q E s:=by
 refine call_function_entry kind_sorted plain_sorted entry_sorted (args_sorted1 _) ?_;unfold Builtin.«sorted»;refine Â (m:=checkCount "sorted" 1 1 _) (Ô (Â (collect_list lst ?_ fits)));refine Â (wpAny_newList ?_ fits);have mn:((s.heap.push (seqObj "list" #[] 0)).update s.heap.objs.size (Obj.mapSeq (·++vs.toArray))).objs.size=s.heap.objs.size+1:=by rw[Heap.size_update,Heap.size_push]
 obtain⟨g1,CU⟩:∃g1,g1=((s.heap.push (seqObj "list" #[] 0)).update s.heap.objs.size (Obj.mapSeq (·++vs.toArray))).push (seqObj "list" vs.toArray 0):=⟨_,rfl⟩;have kG:g1.get? (s.heap.objs.size+1)=some (seqObj "list" vs.toArray 0):=by rw[CU,<-mn];exact Ħ _ rfl
 have R9:∀b o,s.heap.get? b=some o->g1.get? b=some o:=λb o q=>by have lt:b<s.heap.objs.size:=ö q;rw[CU,Heap.get?_push_ne _ _ _ (by rw[mn];exact ę (Nat.lt_succ_of_lt lt)),Heap.get?_update_ne _ _ _ _ (ę lt),Heap.get?_push_ne _ _ _ (ę lt)];exact q
 show wpAny _ _ _ _ _ {s with heap:=_};rw[mn,show((s.heap.push (seqObj "list" #[] 0)).update s.heap.objs.size (Obj.mapSeq (·++vs.toArray))).push (seqObj "list" vs.toArray 0)=g1 from CU.symm];refine Â (wpAny_holding (wpAny_call_entry slot_list_sort ⟨_,kG,rfl⟩ entry_list_sort ?body (args_list_sort _)));obtain⟨D,eD⟩:∃D,D=s.heap.objs.size+1:=⟨_,rfl⟩;rw[<-eD]at kG fin⊢;have apart:∀b o,s.heap.get? b=some o->b≠D:=λb o q e=>by have lt:b<s.heap.objs.size:=ö q;rw[e,eD]at lt;exact absurd lt (Nat.not_lt_of_le (Nat.le_succ _))
 obtain⟨g2,Kk⟩:∃g2,g2=g1.update D (Obj.mapSeq λ_=>(#[]:Qa0)):=⟨_,rfl⟩;have CY:Heap.SameBut D g1 g2:=Kk▸Heap.SameBut.update g1 D _;obtain⟨e1,at2⟩:∃e1,g2.get? D=some (seqObj "list" #[] e1):=⟨_,Kk▸get?_update_seq kG λ_=>#[]⟩;obtain⟨g3,Kn⟩:∃g3,g3=(g2.push (seqObj "tuple" vs.toArray 0)).push (seqObj "list" #[] 0):=⟨_,rfl⟩;have AJ:g3.get? D=some (seqObj "list" #[] e1):=Kn▸ÿ _ (ÿ _ at2);have Kt:∀b o,s.heap.get? b=some o->g3.get? b=some o:=λb o q=>Kn▸ÿ _ (ÿ _ ((CY.2 b (apart b o q)).trans (R9 b o q)));rw[list_sort_plain];refine Â (listItems_at kG rfl (Â (listUpdate_at kG rfl ?_ (by rw[Ď];exact fits) (Ě _))));rw[<-Kk];refine Â (seqEpoch_at at2 rfl (Â (wpAny_newTuple (Â (wpAny_newList (wpAny_holding ?_) (Ě _))) fits)));rw[<-Kn];dsimp only;by_cases two:vs.toArray.size<2
 .have xC:vs.length<2:=by rw[Ď]at two;exact two
  rw[È two,È two];refine Â (Ô ?_);refine Â (Ô ?_);dsimp only;have em:(vs.toArray.zip vs.toArray).map (·.2)=vs.toArray:=by apply Array.toList_inj.mp;simp only[Array.toList_map,Array.toList_zip];exact List.map_snd_zip (Ø _)
  rw[em];refine Â (seqEpoch_at AJ rfl (Â (listUpdate_at AJ rfl ?_ (Ě _) (by rw[Ď];lia))));simp only[bne_self_eq_false,Bool.false_eq_true,if_false];have Kx:=Heap.SameBut.update g3 D (Obj.mapSeq λ_=>vs.toArray);exact Ô ⟨_,rfl,Ô ⟨_,rfl,fin vs (small xC) _ _ (λb o z=>(Kx.2 b (apart b o z)).trans (Kt b o z)) (get?_update_seq AJ _)⟩⟩
 .have xC:2<=vs.length:=by rw[Ď]at two;lia
  rw[Æ two,Æ two];refine Â (wpAny_mono (big xC g3 Kt) (λκ s1=>?_) λ_ _ x=>x.elim);rintro⟨qB,run⟩;subst qB;refine Â (wpAny_mono run ?_ λ_ _ x=>x.elim);rintro⟨⟨⟩,st⟩s2⟨KA,Oy,out,Dx,hR⟩;subst KA;dsimp only at Oy Dx⊢;rw[Dx];refine Â (seqEpoch_at AJ rfl (Â (listUpdate_at AJ rfl ?_ (Ě _) (by rw[Ď,len out hR];lia))));rw[Oy];simp only[bne_self_eq_false,Bool.false_eq_true,if_false];have Kx:=Heap.SameBut.update g3 D (Obj.mapSeq λ_=>out.toArray);exact Ô ⟨_,rfl,Ô ⟨_,rfl,fin out hR _ _ (λb o z=>(Kx.2 b (apart b o z)).trans (Kt b o z)) (get?_update_seq AJ _)⟩⟩
theorem pF{ads:þ}{row:Addr->PP}:∀{l:þ},(∀a∈l,∃us o n,g.get? a=some o/\o.cls=.type "tuple"/\o.data=.seq us.toArray n/\Ë ((row a).map V.int) us/\row a≠[])->∃fs,KatTups g (l.map Value.ref) fs/\fs.length=l.length/\∀v∈fs,∃i t,v=.int i t|[],_=>⟨[],.nil,rfl,λ_ h=>absurd h Z2⟩|a::l,h=>by obtain⟨us,o,n,h1,h2,h3,h4,h5⟩:=h a (.head _);obtain⟨fs,k,hl,hi⟩:=pF (ads:=ads) (row:=row) (l:=l) λb hb=>h b (.tail _ hb);cases er:row a with|nil=>exact absurd er h5;|cons i r=>rw[er]at h4;cases h4 with|cons r1 t1=>
    obtain⟨t,rfl⟩:=r1;refine⟨_,.cons h1 h2 h3 (f:=.int i t) Z2 k,by rw[Ī,Ī,hl],λv hv=>?_⟩;rcases Ġ.mp hv with z|z;.exact⟨i,t,z⟩
    .exact hi v z
theorem GP{l:þ}{row:Addr->PP}(obj:∀a∈l,∃us o n,s.heap.get? a=some o/\o.cls=.type "tuple"/\o.data=.seq us.toArray n/\Ë ((row a).map V.int) us/\row a≠[])(hl:0<l.length)(h:Q (tuples' true) s):wpAny (model prog w) A (keyKind' (l.map Value.ref).toArray) Q E s:=by obtain⟨fs,kt,fl,fi⟩:=pF (ads:=l) (row:=row) obj;refine PySem.W.kat_kind (T:=.type "int") kt (by rw[fl];exact hl) (λv hv=>?_) Z3 h;obtain⟨i,t,rfl⟩:=fi v hv;exact .now
def M4(l:þ)(p:Keyed):Prop:=∃a∈l,p.1=.ref a
theorem xn{row:Addr->PP}(obj:∀a∈l,∃us o n,s.heap.get? a=some o/\o.cls=.type "tuple"/\o.data=.seq us.toArray n/\Ë ((row a).map V.int) us/\row a≠[]):So.LtAll prog w A E s (M4 l) (tuples' true):=λst hk x y Q' kx ky hQ=>by obtain⟨xa,c1,ex⟩:=kx;obtain⟨ya,c2,ey⟩:=ky;obtain⟨Yz,o1,n1,g1,_,d1,r1,_⟩:=obj xa c1;obtain⟨YA,o2,n2,g2,_,d2,r2,_⟩:=obj ya c2;rw[lt'_eq];refine Ù (wpS_get ?_);rw[hk,ex,ey];refine Ù (wpS_lift (wpAny_attempt (GJ g1 d1 g2 d2 r1 r2 λr=>⟨rfl,?_⟩)));exact Ü (hQ r)
theorem v7(l:þ):((l.map Value.ref).toArray.zip (l.map Value.ref).toArray).toList=l.map λa=>(Value.ref a,Value.ref a):=by grind
theorem Bc(l:þ):∀p∈((l.map Value.ref).toArray.zip (l.map Value.ref).toArray).toList,M4 l p:=λz Fu=>by rw[v7]at Fu;obtain⟨a,ha,rfl⟩:=è.mp Fu;exact⟨a,ha,rfl⟩
def Dw(p:Keyed):Addr:=match p.1 with|.ref a=>a|_=>0
theorem Be{row:Addr->PP}(obj:∀a∈l,∃(us:gV)(o:Obj)(n:Nat),s.heap.get? a=some o/\o.cls=.type "tuple"/\o.data=.seq us.toArray n/\Ë ((row a).map V.int) us/\row a≠[])(h:∀st(l':þ),failedOf st=none->(arrOf st).map (·.2)=List.toArray (l'.map Value.ref)->l'.Perm l->Q () st):wpS (model prog w) A E s sortRuns' Q (SortSt.mk' (tuples' true) ((l.map Value.ref).toArray.zip (l.map Value.ref).toArray) #[] 7 none):=by
 refine So.runs_wp (ks:=tuples' true) (xn obj) (Bc l) ⟨rfl,rfl,.refl _⟩ rfl λZ9 B=>?_;have AK:=Zbd.mp B.pm;rw[v7]at AK;have e:(arrOf Z9).toList=((arrOf Z9).toList.map Dw).map (λa=>(Value.ref a,Value.ref a)):=by
  rw[ħ];conv=>lhs;rw[<-List.map_id (arrOf Z9).toList]
  refine Zbf λz Fu=>?_;obtain⟨a,ha,rfl⟩:=è.mp (AK.mem_iff.mp Fu);rfl
 have pm:((arrOf Z9).toList.map Dw).Perm l:=by have:=AK.map Dw;rw[ħ]at this;rw[show(Dw∘λa=>(Value.ref a,Value.ref a))=id from rfl,List.map_id]at this;exact this
 generalize(arrOf Z9).toList.map Dw=l' at e pm;refine h Z9 l' B.ok ?_ pm;apply Array.toList_inj.mp;rw[Array.toList_map,e,ħ];rfl
end
section
theorem lN:∀{l:þ}{us:gV},Ë (l.map V.ref) us->us=l.map Value.ref|[],_,.nil=>rfl|a::l,_,.cons r t=>by rw[lN t,show _=Value.ref a from r];rfl
theorem yN:∀(l:þ),Ë (l.map V.ref) (l.map Value.ref)|[]=>.nil|_::l=>.cons rfl (yN l)
theorem fJ:dF X (.builtin "sorted") (λxs H Q=>∃(p:Addr)(l:þ)(row:Addr->PP),xs=[.ref p]/\É X.K H p (l.map V.ref)/\(∀a∈l,Ê X.K H a ((row a).map V.int)/\row a≠[])/\∀q(l':þ),H q=none->q≠sysModules->l'.Perm l->Q (.ref q) (upd H q (.lst (l'.map V.ref)))):=by
 intro Z7 s σ H xs us Q I r h;obtain⟨p,l,row,rfl,hp,xE,q⟩:=h;obtain⟨u,rfl,ru⟩:=ò r;cases ru;obtain⟨Z8,rv,pl,hz⟩:=I.list hp;have ei:=lN rv;subst ei;have hlen:(l.map Value.ref).length<=sizeLine:=by rw[Ð]at hz⊢;exact hz
 have obj:∀a∈l,∃(us:gV)(o:Obj)(n:Nat),s.heap.get? a=some o/\o.cls=.type "tuple"/\o.data=.seq us.toArray n/\Ë ((row a).map V.int) us/\row a≠[]:=λa ha=>by obtain⟨ht,gE⟩:=xE a ha;obtain⟨as,ra,pa,_⟩:=I.tuple ht;obtain⟨oa,ga,ca,na,da⟩:=pa;exact⟨as,oa,na,ga,ca,da,ra,gE⟩
 refine GK (R:=λout=>∃l':þ,out=l'.map Value.ref/\l'.Perm l) pl.isList hlen (λhs=>⟨l,rfl,.refl _⟩) (λhb g kp=>?_) (λout⟨l',e,pm⟩=>by rw[e,Ð,Ð,pm.length_eq]) λout⟨l',e,pm⟩h2 c DA at2=>?_
 .have DB:∀a∈l,∃(us:gV)(o:Obj)(n:Nat),g.get? a=some o/\o.cls=.type "tuple"/\o.data=.seq us.toArray n/\Ë ((row a).map V.int) us/\row a≠[]:=λa ha=>by obtain⟨us,o,n,h1,h2⟩:=obj a ha;exact⟨us,o,n,kp _ _ h1,h2⟩
  refine GP (s:={s with heap:=g}) DB (by rw[Ð]at hb;lia) ?_;refine⟨rfl,Be (s:={s with heap:=g}) DB λst l' e1 e2 e3=>⟨e1,l'.map Value.ref,e2,l',rfl,e3⟩⟩
 .subst e;exact⟨.ref (s.heap.objs.size+1),_,I.laid (t':=s.toks) DA (Nat.le_succ _) (show Ñ X.prog X.w _ h2 _ (.lst (l'.map V.ref))from⟨by rw[Ð,pm.length_eq];rw[Ð]at hz;exact hz,_,c,yN l',at2⟩),rfl,q _ l' (I.hok.fresh (Nat.le_succ _)) (ϧ (ĵ I.big (Nat.le_succ _))) pm⟩
theorem iz:dF X (.builtin "sorted") (λxs H Q=>∃(p:Addr)(l:þ)(row:Addr->PP),xs=[.ref p]/\É X.K H p (l.map V.ref)/\(∀a∈l,Ê X.K H a ((row a).map V.int)/\row a≠[])/\∀q(l':þ),H q=none->l'.Perm l->Q (.ref q) (upd H q (.lst (l'.map V.ref)))):=by intro Z7 s σ H xs us Q I r h;obtain⟨p,l,row,e,hp,xE,q⟩:=h;exact fJ Z7 s σ H xs us Q I r ⟨p,l,row,e,hp,xE,λq' l' a _ b=>q q' l' a b⟩
end
section
theorem jq(hc:X.calm=true):dF X (.builtin "max") (λxs H Q=>∃(p:Addr)(ns:PP),xs=[.ref p]/\É X.K H p (ns.map V.int)/\ns≠[]/\∀M,M∈ns->(∀a∈ns,a<=M)->Q (.int M) H):=by
 intro Z7 s σ H xs us Q I r h;obtain⟨p,ns,rfl,hq,gE,q⟩:=h;obtain⟨u,rfl,ru⟩:=ò r;cases ru;obtain⟨Z8,rv,pl,hz⟩:=I.list hq;have hi:IntsAre Z8 ns:=ĝ rv;obtain⟨zs,ez⟩:=(hi.allInts:AllInts Z8.toArray).items;have en:numsOf Z8=ns:=hi.numsOf;have hl:s.heap.IsList p (intItems zs):=ez▸pl.isList;have aS:0<zs.size:=by
  have e1:(intItems zs).size=Z8.length:=by rw[<-ez,Ď]
  have e2:=rv.length;rw[Ð]at e2;have e3:0<ns.length:=List.length_pos_iff.mpr gE;simp only[intItems,Array.size_map]at e1;lia
 have hn:numsOf (intItems zs).toList=ns:=by rw[<-ez];exact en
 refine max_intList (I.ok.hd hc) hl aS λv h' tk hv hk=>?_;obtain⟨t,rfl⟩:=intItems_at hv;obtain⟨h1,h2⟩:=argBest_gt (numAt zs) (zs.size-1);rw[nums_intItems]at hn;refine⟨.int _,H,I.kept (t':=tk) hk,⟨t,rfl⟩,q _ ?_ λa ha=>?_⟩;.rw[<-hn,numAt_eq];exact getD_mem (by rw[Ð,ő];lia)
 .rw[<-hn]at ha;obtain⟨j,hj,rfl⟩:=mem_getD ha;rw[Ð,ő]at hj;rw[<-numAt_eq];exact h2 j Z1
end
theorem Bf(ha:s.TypeIs a "list")(hb:s.TypeIs b "list")(hc:wpAny M A (call (.builtin "list.__iadd__") [a,b]) Q E s):wpAny M A (inplaceOp .Add a b) Q E s:=by
 unfold inplaceOp;refine wpAny_holding ?_;have hl:typeLookup (.type "list") (dunderI "add")=pure (some (.builtin "list.__iadd__")):=F.slot_list_iadd.lookup;have Sa:fillsInplaceSlot (.type "list") "add" (Operator.Add==.Add)=pure false:=by
  unfold fillsInplaceSlot;show(typeLookup (.type "list") (dunderI "add")>>=λfi=>pure (fi.isSome&&!isSeqSlot fi))=pure false;rw[hl];have:isSeqSlot (some (.builtin "list.__iadd__"))=true:=by decide+kernel
  show(pure (true&&!isSeqSlot (some (.builtin "list.__iadd__"))):Sem Bool)=_;rw[this];rfl
 have Sb:seqSlot? (.type "list") (dunderI "add")=pure (some (.builtin "list.__iadd__")):=PySem.seqSlot_of F.slot_list_iadd.lookup Z5;refine Â (wpAny_typeOf ha (Â (wpAny_of_eq Sa ?_)));show wpAny M A (if false=true then _ else _) Q E s;rw[Æ Ō];refine Â (wpAny_binaryOp1_none (nm:="add") ha hb noFill_list_add ?_);refine Â (wpAny_of_eq Sb ?_);exact Â (wpAny_rule hc)
inductive ϰ(x:V)(y:V)(H:Hp)(Q:VK):Prop|mk:∀l b xs zs,(x=.ref l)->(y=.ref b)->(H l=some (.lst xs))->(H b=some (.lst zs))->(xs.length+zs.length<=sizeLine)->(Q (.ref l) (upd H l (.lst (xs++zs))))->ϰ  x y H Q
def M5:TIp:=λx y H Q=>ϰ  x y H Q
theorem tK:PIp X .Add M5:=by
 intro Z7 s σ H x y v u Q I rx ru h;obtain⟨l,b,xs,zs,rfl,rfl,hH,hB,hz,q⟩:=h;cases rx;cases ru;obtain⟨z,Z8,n,r,hl,e⟩:=I.lstM hH;obtain⟨z2,cq,n2,r2,eC,e2⟩:=I.lstM hB;have hsz:Z8.toArray.size+cq.toArray.size<=sizeLine:=by rw[Ď,Ď];lia
 have gT:¬(!Z8.toArray.isEmpty&&Builtin.List.listTooLong (Z8.toArray.size+cq.toArray.size))=true:=by rw[oH hsz,Bool.and_false];exact Ō
 refine Bf ⟨_,e,rfl⟩ ⟨_,e2,rfl⟩ (call_meets F.slot_list_iadd ⟨_,e,rfl⟩ F.entry_list_iadd (F.args_list_iadd_2 _ _) (AutoSeq1.list___iadd___list_list_0 l Z8.toArray n b cq.toArray n2 gT (by rw[Ď];lia) Z1) ⟨e,e2,?_⟩);refine⟨.ref l,_,I.lset (its':=Z8++cq) hH e Z2 (r.append r2) ?_,rfl,q⟩;rw[ì];lia
section
theorem GQ(n1:(d==sysModules)=false)(g1:s.heap.get? d=some o)(g2:o.ExactDict)(g3:o.data=.dict es ep)(q:R (.ref s.heap.objs.size) {s with heap:=s.heap.push {cls:=.type "dict_keyiterator",data:=.fields #[.ref d,.int 0 0,.int es.size 0,.int ep 0]}}):wpAny (model prog w) A (pyIter (.ref d)) R E s:=by have ty:s.TypeIs (.ref d) "dict":=⟨o,g1,g2.1⟩;refine wpAny_pyIter_slot ty F.slot_dict_iter (wpAny_call_entry F.slot_dict_iter ty F.entry_dict_iter ?_ (F.args_dict_iter_1 _));refine Â ?_;refine Â (wpAny_notOrdered_dict ty (Ô ?_));show wpAny (model prog w) _ (Builtin.Dict.showsAll d>>=_) _ E s;unfold Builtin.Dict.showsAll;rw[n1];refine Â (Ô (Â (wpAny_dictEntries g1 g3 (Â (wpAny_dictEpoch g1 g3 ?_)))));refine Â (ϖ (Ô ⟨_,rfl,"dict_keyiterator",_,⟨_,Ħ _ rfl,rfl⟩,F.slot_dict_keyiterator_next.lookup,?_⟩));exact q
theorem GR(st:s.heap.IsKeyIter it d i es.size ep)(g1:s.heap.get? d=some o)(g3:o.data=.dict es ep)(hx:es[i]?=some e)(q:∀h',h'.IsKeyIter it d (i+1) es.size ep->Heap.SameBut it s.heap h'->R (some e.key) {s with heap:=h'}):wpAny (model prog w) A (pyNext (.ref it)) R E s:=by obtain⟨oi,i1,i2,i3⟩:=id st;unfold pyNext;refine Â (wpAny_attempt (wpAny_callSpecial?_slot (name:=Str.ofString "__next__") st.typeIs F.slot_dict_keyiterator_next (wpAny_call_entry F.slot_dict_keyiterator_next st.typeIs F.entry_dict_keyiterator_next ?_ (F.args_dict_keyiterator_next_1 _))));refine Â (Ô (Â (Â ?_)));refine Â (wpAny_typeNameOfWhole_keyiter st.typeIs (Ô (Â (wpAny_fieldsOf i1 i3 ?_))));refine Â (Ô (Â (wpAny_dictEntries g1 g3 ?_)));rw[Æ Z2];refine Â (Ô (Â (wpAny_dictEpoch g1 g3 ?_)));rw[Æ Z2];refine Ô ?_;simp only[show¬((i:Int)<0)from by lia,if_false,Int.toNat_natCast,hx];refine Â (Â (wpAny_typeNameOfWhole_keyiter st.typeIs (Ô ?_)));refine Â (wpAny_isOneOf_keyiter st.typeIs ?_);show wpAny (model prog w) _ (setField (.ref it) 1 (rawInt ((i:Int)+1))>>=_) _ _ s;refine Â (wpAny_setField i1 i3 Z2 ?_);have Z9:(s.heap.update it (Obj.mapFields (·.setIfInBounds 1 (rawInt ((i:Int)+1))))).IsKeyIter it d (i+1) es.size ep:=⟨_,Heap.get?_update_self _ i1 (Obj.isFreed_of_fields (Obj.data_mapFields i3 _)),(Obj.cls_mapFields ..).trans i2,by rw[Obj.data_mapFields i3];simp[rawInt]⟩;refine Â (wpAny_holding (Â (wpAny_isOneOf_keyiter (s:={s with heap:=s.heap.update it (Obj.mapFields (·.setIfInBounds 1 (rawInt ((i:Int)+1))))}) Z9.typeIs ?_)));exact Ô (Ô ⟨_,rfl,Ô (q _ Z9 (Heap.SameBut.update ..))⟩)
theorem JN(hh:A.handled=none)(st:s.heap.IsKeyIter it d i es.size ep)(g1:s.heap.get? d=some o)(g3:o.data=.dict es ep)(hx:es.size<=i)(q:∀h',Heap.ExtBut it s.heap h'->R none {s with heap:=h'}):wpAny (model prog w) A (pyNext (.ref it)) R E s:=by obtain⟨oi,i1,i2,i3⟩:=id st;unfold pyNext;refine Â (wpAny_attempt (wpAny_callSpecial?_slot (name:=Str.ofString "__next__") st.typeIs F.slot_dict_keyiterator_next (wpAny_call_entry F.slot_dict_keyiterator_next st.typeIs F.entry_dict_keyiterator_next ?_ (F.args_dict_keyiterator_next_1 _))));refine Â (Ô (Â (Â ?_)));refine Â (wpAny_typeNameOfWhole_keyiter st.typeIs (Ô (Â (wpAny_fieldsOf i1 i3 ?_))));refine Â (Ô (Â (wpAny_dictEntries g1 g3 ?_)));rw[Æ Z2];refine Â (Ô (Â (wpAny_dictEpoch g1 g3 ?_)));rw[Æ Z2];refine Ô ?_;simp only[if_false,Int.toNat_natCast,Array.getElem?_eq_none hx];refine Â (Â (wpAny_typeNameOfWhole_keyiter st.typeIs (Ô ?_)));show wpAny (model prog w) _ (setField (.ref it) 0 .none>>=_) _ _ s;refine Â (wpAny_setField i1 i3 Z2 ?_);refine Â ?_;refine Â (ϖ (Â (m:=firstArgMember _ _) (wpAny_of_eq (a:=Value.none) (by first|rfl|(simp only[firstArgMember];rfl)) ?_)) (by size_fits));refine ϖ ?_ (by size_fits);simp only[raiseNew];refine Â (wpAny_handled ?_);rw[show A.in1.handled=none from hh];refine Â (Ô (wpAny_throw ?_));refine Â (wpAny_isInstance (b:=true) (T:="StopIteration") ⟨_,Ħ _ rfl,rfl⟩ isSubtype_stop ?_);exact Ô (q _ (((Heap.SameBut.update ..).extBut.push _).push _))
end
def Itd(d:Addr)(o:Obj)(kvs:List (List Key×V)):It:=⟨λi H=>H d=some (.frz o (.dT kvs))/\i<kvs.length,λi H x H'=>H'=H/\∃b k v,x=.ref b/\kvs[i]?=some (k,v)/\H b=some (.tup (k.map kV)),λi H=>H d=some (.frz o (.dT kvs))/\kvs.length<=i⟩
theorem KT.get:∀{kvs:List (List Key×V)}{xs:List (List Key×Addr×Value)}{i:Nat}{k:List Key}{v:V},KT H kvs xs->kvs[i]?=some (k,v)->∃b u,xs[i]?=some (k,b,u)/\H b=some (.tup (k.map kV))|_,_,_,_,_,.nil,e=>by simp at e;|p::_,q::_,0,k,v,.cons r t,e=>by grind;|p::_,q::_,i+1,k,v,.cons r t,e=>by obtain⟨b,u,e1,e2⟩:=KT.get t e;exact⟨b,u,by rw[Za4];exact e1,e2⟩
theorem KT.len:∀{kvs:List (List Key×V)}{xs:List (List Key×Addr×Value)},KT H kvs xs->xs.length=kvs.length|_,_,.nil=>rfl|_,_,.cons _ t=>by rw[Ī,Ī,KT.len t]
theorem Ä.frzT{σ:St}(I:Ä X Z7 σ H s)(e:H d=some (.frz o (.dT kvs))):s.heap.get? d=some o/\o.ExactDict/\(d==sysModules)=false/\∃es ep xs,o.data=.dict es ep/\KT H kvs xs/\es.toList=xs.map (entryOfKey (tupleKind (bx X.prog X.w))):=by obtain⟨e0,_,hs,xs,kt,o',es,ep,g1,g2,g3,g4,_⟩:=(I.hok _ _ e);rw[e0]at g1;cases g1;exact⟨e0,g2,hs,es,ep,xs,g3,kt,g4⟩
theorem Bg{es:Array DictEntry}(kt:KT H kvs xs)(e:es.toList=xs.map (entryOfKey (tupleKind (bx P w)))):es.size=kvs.length:=by rw[<-ő,e,Ð,kt.len]
theorem Bh{K:Frag}(d it:Addr)(o:Obj)(kvs:List (List Key×V))(es:Array DictEntry)(ep:Nat)(od:o.data=.dict es ep)(hz:es.size=kvs.length):Ł P w K tg (Itd d o kvs) [it] it (λi h=>h.IsKeyIter it d i es.size ep)where
 mem:=by simp
 obj:=λi h st b hb=>by
  have e:b=it:=by simpa using hb
  subst e;obtain⟨o,e,c,d⟩:=st;exact⟨o,e,λv z=>by rw[d]at z;cases z⟩
 keep:=λi h h' st k=>st.at λo e=>k it Z2 o e;item:=by
  intro X hP hw hK hc i Z7 s σ H E I hf st hg;subst hP hw hK;obtain⟨hq,hx⟩:=hg;obtain⟨e0,g2,hs,gz,wb,xs,g3,kt,g4⟩:=I.frzT hq;rw[od]at g3;cases g3;obtain⟨b,u,ex,eb⟩:=kt.get (k:=kvs[i].1) (v:=kvs[i].2) (Ö hx);have ee:es[i]?=some (entryOfKey (tupleKind (bx X.prog X.w)) (kvs[i].1,b,u)):=by rw[entry_at g4,ex];rfl
  obtain⟨f0,f1,f2,f3,f4,f5⟩:=hf it Z2;refine GR st e0 od ee λh' Z9 sb=>?_;have I1:Ä X Z7 σ H {s with heap:=h'}:=I.turned (t':=s.toks) (λb o hb e=>(sb.2 b hb).trans e) f0 f1 f3 f4 f5;obtain⟨o2,e2,c2,d2⟩:=id Z9;exact⟨.ref b,rfl,yh (s:={s with heap:=h'}) e2 c2 d2 Z3 ⟨.ref b,H,I1,rfl,⟨rfl,b,kvs[i].1,kvs[i].2,rfl,Ö hx,eb⟩,Z9,λb hb=>(hf b hb).1⟩⟩
 done:=by intro X hP hw hK hc i Z7 s σ H E I hf st hg;subst hP hw hK;obtain⟨hq,hx⟩:=hg;obtain⟨e0,g2,hs,gz,wb,xs,g3,kt,g4⟩:=I.frzT hq;rw[od]at g3;cases g3;obtain⟨f0,f1,f2,f3,f4,f5⟩:=hf it Z2;exact JN (I.ok.hd hc) st e0 od Z1 λh' eb=>⟨rfl,I.turned (t':=s.toks) (λb o hb e=>eb b o hb e) f0 f1 f3 f4 f5⟩
 self:=λ_ _ _ _ _ st h=>wpAny_pyIter_keyiter st h
section
def M6(tl:TE):TI:=λσ H R=>tl σ H λx H1=>∃d o kvs,x=.ref d/\H1 d=some (.frz o (.dT kvs))/\R (Itd d o kvs) H1
theorem tL(hl:PE X l tl):PI X tg l (M6 tl):=by
 intro Z7 s σ H R I h;refine Õ (hl Z7 s σ H _ I h) λv s1=>?_;rintro⟨x,H1,I1,r1,q1⟩;obtain⟨d,o,kvs,e,hq,q⟩:=q1;subst e;cases r1;obtain⟨e0,g2,hs,es,ep,xs,g3,kt,g4⟩:=I1.frzT hq;refine GQ hs e0 g2 g3 ?_;refine⟨s1.heap.objs.size,[s1.heap.objs.size],_,_,H1,rfl,I1.kept (t':=s1.toks) λb o e=>ÿ _ e,Bh d _ o kvs es ep g3 (Bg kt g4),⟨_,Ħ _ rfl,rfl,rfl⟩,λb hb=>?_,q⟩;have e:b=s1.heap.objs.size:=by simpa using hb
 subst e;exact I1.fpOk (Ø _) (I1.hok.fresh (Ø _))
inductive Z09(t:TE)(σ:St)(H:Hp)(Q:VK):Prop|mk:∀d kvs,(H d=some (.dT kvs))->(∀o,t σ (upd H d (.frz o (.dT kvs))) λv H'=>H' d=some (.frz o (.dT kvs))/\Q v (upd H' d (.dT kvs)))->Z09 t σ H Q
def Ny(t:TE):TE:=λσ H Q=>Z09 t σ H Q
theorem xu(h:PE X e t):PE X e (Ny t):=by
 intro Z7 s σ H Q I hq;obtain⟨d,kvs,ed,hq⟩:=hq;obtain⟨hz,hs,xs,kt,o,es,ep,g1,g⟩:=(I.hok _ _ ed);have nt:∀{b:Addr}{u:HO},H b=some u->u≠.dT kvs->b≠d:=λ{b u}e n z=>by rw[z,ed]at e;exact n (ŉ e).symm
 have I1:Ä X Z7 σ (upd H d (.frz o (.dT kvs))) {s with heap:=s.heap,toks:=s.toks}:=by
  refine I.un ⟨λb ob q _ _ _=>q,λb ob q _ _ _=>⟨ob.slots,q⟩,λb ob q n _=>?_,λb ob q _=>⟨ob,q⟩,λb xs q=>?_,λb ob u q=>?_,λb ps q=>⟨#[],?_⟩⟩ λb u e=>?_;.rw[aq λz=>by rw[z,ed]at n;cases n];exact n
  .rw[aq (nt q λz=>by cases z)];exact q
  .rw[aq (nt q λz=>by cases z)];exact q
  .rw[aq (nt q λz=>by cases z),q];simp
  .have bE:∀c xs,H c=some (.tup xs)->upd H d (.frz o (.dT kvs)) c=some (.tup xs):=λc xs q=>by rw[aq (nt q λz=>by cases z)];exact q
   by_cases hb:b=d;.subst hb;rw[aj]at e;cases e;exact⟨g1,(show Ñ X.prog X.w H s.heap b (.dT kvs)from I.hok _ _ ed).stay (λ_ _ _ q=>q) (λc q=>by rw[aq (nt q λz=>by cases z)];exact q) bE⟩
   .rw[aq hb]at e;exact(I.hok b u e).stay (λ_ _ _ q=>q) (λc q=>by rw[aq (nt q λz=>by cases z)];exact q) bE
 refine Õ (h Z7 s σ _ _ I1 (hq o)) λv s1=>?_;rintro⟨x,H1,J,r1,e1,q1⟩;have FA:∀{b:Addr}{u:HO},H1 b=some u->u≠.frz o (.dT kvs)->b≠d:=λ{b u}e n z=>by rw[z,e1]at e;exact n (ŉ e).symm
 have fr:∀b,H1 b=none->upd H1 d (.dT kvs) b=none:=λb n=>by rw[aq λz=>by rw[z,e1]at n;cases n];exact n
 refine⟨x,upd H1 d (.dT kvs),⟨J.ok,J.os,J.bare,⟨J.base.keep,J.base.slot,λb ob q n hx=>fr b (J.base.free b ob q n hx),J.base.there,λb xs q=>?_,λb ob u q=>?_,λb ps q=>?_⟩,J.loc,J.cell,fr _ J.free,λy c e=>fr _ (J.freeC y c e),λp hp=>?_,λb u e=>?_,J.len⟩,r1,q1⟩;.have:=J.base.tups b xs q;rw[aq (FA this λz=>by cases z)];exact this
 .have h0:=I.base.frzs b ob u q;have:=J.base.frzs b ob u q;rw[aq (nt h0 λz=>by cases z)];exact this
 .obtain⟨m,e⟩:=J.base.tbls b ps q;exact⟨m,by rw[aq (FA e λz=>by cases z)];exact e⟩
 .obtain⟨a,n,c⟩:=J.pin p hp;exact⟨a,fr _ n,c⟩
 .have bE:∀c xs,H1 c=some (.tup xs)->upd H1 d (.dT kvs) c=some (.tup xs):=λc xs q=>by rw[aq (FA q λz=>by cases z)];exact q
  have tw:∀a c,H1 c=some (.own a)->upd H1 d (.dT kvs) c=some (.own a):=λa c q=>by rw[aq (FA q λz=>by cases z)];exact q
  by_cases hb:b=d;.subst hb;rw[aj]at e;cases e;exact Ñ.stay ((J.hok _ _ e1).2) (λ_ _ _ q=>q) (tw b) bE
  .rw[aq hb]at e;exact(J.hok b u e).stay (λ_ _ _ q=>q) (tw b) bE
end
section
variable{K:Type}[DecidableEq K]{knd:HeapKind prog w K}
theorem JP(hu:knd.room A)(hk:knd.is s.heap k a)(hm:s.heap.DictOfH knd d xs)(nk:k∉xs.map (·.1))(hz:xs.length<=sizeLine)(q:∀h',h'.DictOfH knd d (xs++[(k,a,v)])->Heap.SameBut d s.heap h'->R () {s with heap:=h'}):wpAny (model prog w) A (dictSetHashed d (.ref a) (knd.hash k) v) R E s:=by
 obtain⟨o,es,ep,g1,g2,g3,g4,g5,g6⟩:=hm;have ez:=size_of_entries g4;unfold dictSetHashed;try with_reducible refine wpAny_holding ?_
 refine Â (wpAny_dictFind_heap hu hk g1 g3 g4 g5 g6 (λno=>?_) λj p hj=>absurd (è.mpr ⟨_,Κ hj,rfl⟩) nk);refine Â (wpAny_rule (wpAny_updateDictKeys (hz:=Z1) g1 g3 (q _ ⟨_,_,ep+1,Heap.get?_update_self _ g1 (Obj.isFreed_of_dict (Obj.data_mapDictKeys g3 _)),g2.mapDictKeys _,Obj.data_mapDictKeys g3 _,?_,λx hx=>?_,?_⟩ (Heap.SameBut.update ..))));.simp[g4,entryOfKey]
 .rcases ē.mp hx with z|z;.exact knd.keeps (g5 x z) g1 g3 (Heap.SameBut.update ..)
  .rw[Ū.mp z];exact knd.keeps hk g1 g3 (Heap.SameBut.update ..)
 .rw[ë,Zbc];refine⟨g6,by simp,λx hx y hy=>?_⟩;rw[show y=k by simpa using hy];exact λe=>nk (e▸hx)
theorem GX{nm:String}(hu:knd.room A)(db:d≠b)(hd:s.heap.DictOfH knd d xs)(hb:s.heap.DictOfH knd b ys)(nd:((xs++ys).map (·.1)).Nodup)(hz:xs.length+ys.length<=sizeLine)(q:∀h',h'.DictOfH knd d (xs++ys)->Heap.SameBut d s.heap h'->R () {s with heap:=h'}):wpAny (model prog w) A (do
 let epoch<-dictEpoch b let l<-dictEntries b
   forIn [:l.size] PUnit.unit λi(_:PUnit)=>(do let l'<-dictEntries b match l'[i]? with|some e=>do holding [e.key,e.val] (dictSetHashed d e.key e.hash e.val)let wb<-dictEpoch b if(wb !=epoch)=true then do(unsupported (toString nm++toString ":source-changed-during-callback"):Sem PUnit)pure (ForInStep.yield PUnit.unit)else pure (ForInStep.yield PUnit.unit)|_=>do(unsupported "internal:dict-merge":Sem PUnit)pure (ForInStep.yield PUnit.unit):Sem (ForInStep PUnit))pure ()) R E s:=by
 obtain⟨ob,es,ep,g1,g2,g3,g4,g5,g6⟩:=id hb;have ez:=size_of_entries g4;refine Â (wpAny_dictEpoch g1 g3 (Â (wpAny_dictEntries g1 g3 (Â ?_))));rw[Std.Legacy.Range.forIn_eq_forIn_range'];simp only[Std.Legacy.Range.size,Nat.sub_zero,Nat.add_sub_cancel,Nat.div_one];refine wpAny_forIn_list _ (λrest _ s'=>∃h' i,s'={s with heap:=h'}/\rest=List.range' i (ys.length-i)/\i<=ys.length/\h'.DictOfH knd d (xs++ys.take i)/\h'.get? b=some ob/\Heap.SameBut d s.heap h'/\∀y∈ys,knd.is h' y.1 y.2.1) _ ?_ ?_ _ _ ⟨s.heap,0,rfl,by rw[ez];rfl,Ě _,by rw[Za0,Į];exact hd,g1,Heap.SameBut.refl _ _,g5⟩
 .rintro x rest u s'⟨h',i,rfl,hr,hi,pE,c9,sb,hk⟩;have aE:i<ys.length:=by
   rcases Nat.lt_or_ge i ys.length with h|h;.exact h
   .rw[Nat.sub_eq_zero_of_le h]at hr;simp at hr
  obtain⟨rfl,jI⟩:x=i/\rest=List.range' (i+1) (ys.length-(i+1)):=by rw[show ys.length-i=(ys.length-(i+1))+1 by lia,List.range'_succ]at hr;injection hr with h1 h2;exact⟨h1,h2⟩
  have ex:es[x]?=some (entryOfKey knd ys[x]):=by rw[entry_at g4,Ö aE];rfl
  refine Â (wpAny_dictEntries c9 g3 ?_);rw[ex];have nk:ys[x].1∉(xs++ys.take x).map (·.1):=λhm=>by
   have e:xs++ys=(xs++ys.take x)++ys[x]::ys.drop (x+1):=by rw[į,<-Zas aE,zBg]
   rw[e,ë,Zbc]at nd;exact nd.2.2 _ hm _ (by rw[ě];exact .head _) rfl
  refine Â (wpAny_holding (JP (s:={s with heap:=h'}) hu (hk _ (Č aE)) pE nk (by rw[ì,Ė];lia) λh2 hd2 CY=>?_));have iE:h2.get? b=some ob:=(CY.2 b (Ne.symm db)).trans c9;refine Â (wpAny_dictEpoch iE g3 ?_);rw[Æ Z2];obtain⟨od,e1,e2,d1,d2,d3,d4,d5,d6⟩:=id pE;refine Ô ⟨h2,x+1,rfl,jI,aE,?_,iE,sb.trans CY,λy hy=>knd.keeps (hk y hy) d1 d3 CY⟩;rw[Ĝ,Ö aE,<-į];exact hd2
 .rintro u s'⟨h',i,rfl,hr,hi,pE,c9,sb,hk⟩;have:i=ys.length:=by grind
  rw[this,Ĩ]at pE;exact Ô (q h' pE sb)
end
section
variable{K:Type}[DecidableEq K]{knd:KeyKind prog w K}
theorem v8(hk:IsTupleKey knd s.heap ks a)(h:R false s):wpAny (model prog w) A (Builtin.Dict.quietEq (.ref a)) R E s:=by have hT:=hk.typeIs;refine Â (wpAny_specialOf hT F.slot_tuple_eq.lookup (Ô ?_));exact h
theorem Dy{ys:List (List K×Addr×Value)}(g1:s.heap.get? b=some ob)(g3:ob.data=.dict es ep)(g4:es.toList=ys.map (entryOfKey (tupleKind knd)))(g5:∀x∈ys,IsTupleKey knd s.heap x.1 x.2.1)(hh:(ys.map λy=>tupleKeyHash knd y.1).Nodup)(q:R es s):wpAny (model prog w) A (Builtin.Dict.entriesForEmpty nm b) R E s:=by
 refine Â (wpAny_dictEntries g1 g3 (Â ?_));rw[<-Array.forIn_toList];refine wpAny_forIn_list _ (λrest _ s'=>s'=s/\∀e∈rest,∃y∈ys,e=entryOfKey (tupleKind knd) y) _ ?_ ?_ _ _ ⟨rfl,λe he=>by grind⟩
 .rintro x rest u s'⟨rfl,hr⟩;obtain⟨y,hy,rfl⟩:=hr x (.head _);refine Â (v8 (g5 y hy) ?_);rw[È (show(!false)=true from rfl),Æ ?_];.exact Ô ⟨rfl,λe he=>hr e (.tail _ he)⟩
  .have e1:(es.filter λx=>x.hash==(entryOfKey (tupleKind knd) y).hash).size=(ys.map λz=>tupleKeyHash knd z.1).count (tupleKeyHash knd y.1):=by rw[<-ő,Array.toList_filter,g4,List.count_eq_countP,List.countP_map,<-List.countP_eq_length_filter,List.countP_map];rfl
   have:=List.nodup_iff_count.mp hh (tupleKeyHash knd y.1);lia
 .rintro u s'⟨rfl,_⟩;exact Ô q
theorem Dz(hu:A.units<cLine)(db:d≠b)(bs:(b==sysModules)=false)(hd:s.heap.DictOfH (tupleKind knd) d xs)(hb:s.heap.DictOfH (tupleKind knd) b ys)(nd:((xs++ys).map (·.1)).Nodup)(hh:xs=[]->(ys.map λy=>tupleKeyHash knd y.1).Nodup)(hz:xs.length+ys.length<=sizeLine)(q:∀h',h'.DictOfH (tupleKind knd) d (xs++ys)->Heap.SameBut d s.heap h'->R () {s with heap:=h'}):wpAny (model prog w) A (Builtin.Dict.mergeDict nm d b) R E s:=by
 obtain⟨od,YB,Sd,d1,d2,d3,d4,d5,d6⟩:=id hd;obtain⟨ob,YC,YD,b1,b2,b3,b4,b5,b6⟩:=id hb;have zd:=size_of_entries d4;have zb:=size_of_entries b4;have loop:=GX (nm:=nm) (E:=E) (R:=R) hu db hd hb nd hz q;unfold Builtin.Dict.mergeDict;rw[Æ (by simpa using db)];unfold Builtin.Dict.showsAll;rw[bs,Æ Ō];refine Â (Ô (Â (wpAny_dictEntries b1 b3 ?_)));dsimp only;split
 .refine Â (wpAny_dictEntries d1 d3 ?_);split
  .rename_i he;have ex:xs=[]:=by simp_all
   subst ex;refine Â (Dy b1 b3 b4 b5 (hh rfl) ?_);split;.refine Â (wpAny_updateDictKeysTo d1 d3 (Ô (q _ ⟨_,_,Sd+1,Heap.get?_update_self _ d1 (Obj.isFreed_of_dict (Obj.data_mapDictKeys d3 _)),d2.mapDictKeys _,Obj.data_mapDictKeys d3 _,b4,λx hx=>(tupleKind knd).keeps (b5 x hx) d1 d3 (Heap.SameBut.update ..),b6⟩ (Heap.SameBut.update ..))) ?_);lia
   .rename_i gE;have:ys=[]:=by grind
    subst this;exact Ô (q _ hd (Heap.SameBut.refl _ _))
  .exact loop
 .exact loop
theorem Bj(d b:Addr)(db:d≠b)(bs:(b==sysModules)=false):MeetsIn prog w (Builtin.«dict.update» ⟨[.ref d,.ref b],[]⟩) (λA R s=>∃xs ys,A.units+1<cLine/\s.heap.DictOfH (tupleKind knd) d xs/\s.heap.DictOfH (tupleKind knd) b ys/\((xs++ys).map (·.1)).Nodup/\(xs=[]->(ys.map λy=>tupleKeyHash knd y.1).Nodup)/\xs.length+ys.length<=sizeLine/\∀h',h'.DictOfH (tupleKind knd) d (xs++ys)->Heap.SameBut d s.heap h'->R (.ok (.ret .none)) {s with heap:=h'}):=.of_wp λA R s hZ=>by obtain⟨xs,ys,hu,hd,hb,nd,hh,hz,q⟩:=hZ;refine Â ?_;refine Â (wpAny_notOrdered_dict hd.typeIs (Ô ?_));refine Â (wpAny_typeOf hb.typeIs ?_);refine Â (Â ?_);refine Â (wpAny_isInstance hb.typeIs isSubtype_dict_dict ?_);refine Â (wpAny_specialOf hb.typeIs F.slot_dict_iter.lookup (Ô ?_));refine Â (Ô (Dz (tupleKind_room_in1 (knd:=knd) hu) db bs hd hb nd hh hz λh' pE sb=>?_));exact Â (Ô (Ô ⟨.none,rfl,q h' pE sb⟩))
end
section
inductive Z0c(x:V)(vs:List V)(H:Hp)(Q:VK):Prop|mk:∀d b kvs more,(x=.ref d)->(vs=[.ref b])->(d≠b)->(H d=some (.dT kvs))->(H b=some (.dT more))->(kvs.length+more.length<=sizeLine)->(((kvs++more).map (·.1)).Nodup)->((kvs=[]->∀w,(more.map λp=>reduceHash (Builtin.Tuple.tupleHashOf (p.1.map (rP w)))).Nodup))->(Q .non (upd H d (.dT (kvs++more))))->Z0c  x vs H Q
def Nz:V->List V->Hp->VK->Prop:=λx vs H Q=>Z0c  x vs H Q
theorem KT.keys:∀{kvs:List (List Key×V)}{xs:List (List Key×Addr×Value)},KT H kvs xs->xs.map (·.1)=kvs.map (·.1)|_,_,.nil=>rfl|_,_,.cons r t=>by rw[ě,ě,KT.keys t,r.1]
theorem KT.app:∀{kvs more:List (List Key×V)}{xs ys:List (List Key×Addr×Value)},KT H kvs xs->KT H more ys->KT H (kvs++more) (xs++ys)|_,_,_,_,.nil,h=>h|_,_,_,_,.cons r t,h=>.cons r (KT.app t h)
theorem JQ(hu:X.A.units+1<cLine):MtR X "dict.update" Nz:=by
 intro Z7 s σ H x vs v us Q I rx rv h;obtain⟨d,b,kvs,more,rfl,rfl,db,ed,eb,hz,nd,hh,q⟩:=h;cases rx;obtain⟨u,rfl,ru⟩:=rv.one;cases ru;obtain⟨z1,hd,xs,k1,dd⟩:=Dg I.hok ed;obtain⟨z2,hb,ys,k2,bb⟩:=Dg I.hok eb;have l1:=k1.len;have l2:=k2.len;refine call_meetsIn PySem.F.slot_dict_update dd.typeIs PySem.F.entry_dict_update (PySem.F.args_dict_update_2 _ _) (Bj (knd:=bx X.prog X.w) d b db hb) ⟨xs,ys,hu,dd,bb,?_,λe=>?_,Z1,λh' ml sb=>?_⟩;.rw[ë,k1.keys,k2.keys,<-ë];exact nd
 .have:kvs=[]:=Zbj.mp (by rw[<-l1,e];rfl);have:=hh this X.w;have e2:(ys.map λy=>tupleKeyHash (bx X.prog X.w) y.1)=more.map λp=>reduceHash (Builtin.Tuple.tupleHashOf (p.1.map (rP X.w))):=by
   have a:∀l:List (List Key×Addr×Value),(l.map λy=>tupleKeyHash (bx X.prog X.w) y.1)=(l.map (·.1)).map λk=>reduceHash (Builtin.Tuple.tupleHashOf (k.map (rP X.w))):=λl=>by rw[ħ];rfl
   have c:∀l:List (List Key×V),(l.map λp=>reduceHash (Builtin.Tuple.tupleHashOf (p.1.map (rP X.w))))=(l.map (·.1)).map λk=>reduceHash (Builtin.Tuple.tupleHashOf (k.map (rP X.w))):=λl=>by rw[ħ];rfl
   rw[a,c,k2.keys]
  rw[e2];exact this
 .obtain⟨o,es,ep,hq,h2,h3,h4,_,h5⟩:=ml;refine⟨.non,_,nu I (by rw[ed];exact True.intro) sb ⟨o,hq⟩ (show Ñ X.prog X.w _ h' d (.dT (kvs++more))from⟨by rw[ì];exact hz,hd,_,(k1.app k2).keeps λc ys ec=>?_,o,es,ep,hq,h2,h3,h4,h5⟩),rfl,q⟩;rw[aq (Im ec ed (λz=>nomatch z))];exact ec
end
theorem qQ:∀{ns:PP}{us:gV},Ë (ns.map V.int) us->IntsAre us ns|[],_,.nil=>.nil|n::ns,_,.cons r t=>by obtain⟨k,e⟩:=r;rw[e];exact .cons n k (qQ t)
section
theorem tM:dF X (.builtin "sorted") (λxs H Q=>∃(p:Addr)(ns:PP),xs=[.ref p]/\É X.K H p (ns.map V.int)/\ns.length<64/\∀q(AL:PP),H q=none->AL.Perm ns->AL.Pairwise (·<=·)->Q (.ref q) (upd H q (.lst (AL.map V.int)))):=by intro Z7 s σ H xs us Q I r h;obtain⟨p,ns,rfl,hp,YE,q⟩:=h;obtain⟨u,rfl,ru⟩:=ò r;cases ru;obtain⟨Z8,rv,pl,hz⟩:=I.list hp;have hl:=rv.length;rw[Ð]at hl;refine sorted_ints pl.isList (qQ rv) Z1 λout AL hI pm so=>?_;obtain⟨e,at2⟩:=sortedAll_at s.heap Z8 out;refine⟨.ref (s.heap.objs.size+1),_,I.laid (t':=s.toks) (λb o z=>sortedAll_old z) (Nat.le_succ _) (show Ñ X.prog X.w _ _ _ (.lst (AL.map V.int))from⟨by rw[Ð,pm.length_eq,sizeLine_eq];lia,out.toList,e,lG hI,at2⟩),rfl,q _ AL (I.hok.fresh (Nat.le_succ _)) pm so⟩
theorem Iz:∀{kvs:List (Key×V)}{vs:List (Key×Value)},KV kvs vs->vs.map (·.1)=kvs.map (·.1)|_,_,.nil=>rfl|_,_,.cons r t=>by rw[ě,ě,Iz t,r.1]
theorem qR:∀{ks:List Key}{us:gV},us.length=ks.length->(∀(j:Nat)u,us[j]?=some u->∃k,ks[j]?=some k/\(bx P w).is k u=true)->Ë (ks.map kV) us
 |[],[],_,_=>.nil|k::ks,u::us,h,g=>by
  obtain⟨k',e,hk⟩:=g 0 u rfl;rw[List.getElem?_cons_zero]at e;cases e;refine .cons ?_ (qR (P:=P) (w:=w) (by simpa using h) λj u' hu=>?_)
  .rcases bY hk with⟨i,t,rfl,rfl⟩|⟨x,t,rfl,rfl⟩;.exact⟨t,rfl⟩
   .exact⟨t,rfl⟩
  .have:=g (j+1) u' (by rw[Za4];exact hu);rw[Za4]at this;exact this;|[],_::_,h,_=>by simp at h;|_::_,[],h,_=>by simp at h
theorem pG(hc:X.calm=true):dF X (.type "list") (λxs H Q=>∃d kvs,xs=[.ref d]/\H d=some (.dK kvs)/\((kvs.map (·.1)).Nodup->∀l,H l=none->Q (.ref l) (upd H l (.lst (kvs.map λp=>kV p.1))))):=by
 intro Z7 s σ H xs us Q I r h;obtain⟨d,kvs,rfl,hd,q⟩:=h;obtain⟨u,rfl,ru⟩:=ò r;cases ru;obtain⟨hz,lo,vs,kv,o,es,ep,g1,g2,g3,g4,g5,g6⟩:=I.hok _ _ hd;have ek:=Iz kv;have lv:vs.length=kvs.length:=by rw[<-Ð (f:=(·.1)),ek,Ð]
 refine PySem.W.kdl_call (PySem.W.kdl_dict (knd:=bx X.prog X.w) (kvs:=vs) (ep:=ep) lo) (I.ok.hd hc) ⟨o,es,g1,g2,g3,g4,g5,g6⟩ (by rw[lv];exact hz) λh' tk KG c' kp at' it=>?_;refine⟨.ref s.heap.objs.size,_,I.laid (t':=tk) kp (Ø _) (show Ñ X.prog X.w _ h' _ (.lst (kvs.map λp=>kV p.1))from⟨by rw[Ð];exact hz,KG.toList,c',?_,at'⟩),rfl,q (by rw[<-ek];exact g6) _ (I.hok.fresh (Ø _))⟩;have:(kvs.map λp=>kV p.1)=(vs.map (·.1)).map kV:=by rw[ek,ħ];rfl
 rw[this];refine qR (P:=X.prog) (w:=X.w) (by rw[ő,it.1,Ð]) λj u hu=>?_;obtain⟨k,x,e,hk⟩:=it.2 j u (by rw[<-Zaz];exact hu);exact⟨k,by rw[ý,e];rfl,hk⟩
end
section
inductive ϯ(o:V)(i:V)(v:V)(H:Hp)(Q:Hp->Prop):Prop|mk:∀a H',(o=.ref a)->(ĸ H a i v H')->(Q H')->ϯ  o i v H Q
def M7:Ai:=λo i v H Q=>ϯ  o i v H Q
theorem Ϣ(hu:X.A.units+1<cLine):Ge X M7:=by intro Z7 s σ H o i v ov iv u Q I ro ri rv h;obtain⟨a,H',rfl,g,q⟩:=h;cases ro;exact qN hu I g ri rv λs' I'=>⟨H',I',q⟩
end
structure Ϙ(h:Heap)(e:Addr)(C tb:Value):Prop where
 obj:∃oe vs,h.get? e=some oe/\oe.cls=C/\oe.data=.fields vs/\vs[1]?=some tb/\oe.dict=none
 tr:tb=.none\/∃T oT ts,tb=.ref T/\T≠e/\h.get? T=some oT/\oT.data=.fields ts/\ts[3]?=some .none
theorem Bl(f:Qa0->Qa0)(o:Obj):(Obj.mapFields f o).dict=o.dict:=by unfold Obj.mapFields;split<;>rfl
section
theorem v9(kX:A.frames=some (env::outer))(hl:s.heap.FunFrames base (env::outer))(hf:env.frame=some L)(he:s.heap.get? e=some oe)(hd:oe.data=.fields vs)(hz:1<vs.size)(mv:oe.dict=none)(h:∀h' T,s.heap.get? T=none->Ϙ h' e oe.cls (.ref T)->(∀b o,s.heap.get? b=some o->b≠e->b∉ĉ (env::outer)->h'.get? b=some o)->(∀b o,s.heap.get? b=some o->b≠e->∃sl,h'.get? b=some {o with slots:=sl})->Q () {s with heap:=h'}):wpAny M A (do let a<-frameOf env;let pl<-entryPlaceOf L qE;let b<-EntryCells.newEntry head a .none (rawInt L) .none pl;setField (.ref e) 1 b) (λ_ s'=>wpAny M A (setFlight (.ref e) none) Q E s') E s:=by
 have ne:e∉ĉ (env::outer):=λhm=>by obtain⟨_,o,ho,hn⟩:=hl.mem hm;rw[he]at ho;cases ho;exact hn vs hd
 refine Â (wpAny_frameOf_fun kX hl hf λh1 FC=>?_);have e1:h1.get? e=some oe:=(FC.2.1 e ne).trans he;refine Â (wpAny_entryPlaceOf λpl eR=>?_);unfold EntryCells.newEntry newFields;refine Â (ϖ ?_ (eR.sizeOk5 _ _ _ _ _));obtain⟨fs,Oz⟩:∃fs,fs=([head,.ref L,.none,rawInt L,.none]++(if pl.isEmpty then List.replicate 6 Value.none else pl)).toArray:=⟨_,rfl⟩;have fz:3<fs.size:=by rw[Oz,Ď,ì];show 3<5+_;lia
 rw[<-Oz];obtain⟨h2,FD⟩:∃h2,h2=h1.push {cls:=.type "traceback",dict:=none,data:=.fields fs}:=⟨_,rfl⟩;have nT:h1.objs.size≠e:=ϧ (ö e1);have t2:h2.get? h1.objs.size=some {cls:=.type "traceback",dict:=none,data:=.fields fs}:=by rw[FD];exact Ħ h1 rfl
 have k2:∀b o,h1.get? b=some o->h2.get? b=some o:=λb o z=>by rw[FD];exact ÿ _ z
 refine wpAny_setField (s:={s with heap:=h1.push {cls:=.type "traceback",dict:=none,data:=.fields fs}}) (by rw[<-FD];exact k2 _ _ e1) hd hz ?_;rw[<-FD];obtain⟨h3,OA⟩:∃h3,h3=h2.update e (Obj.mapFields (·.setIfInBounds 1 (Value.ref h1.objs.size))):=⟨_,rfl⟩;have d3:=Obj.data_mapFields hd (·.setIfInBounds 1 (Value.ref h1.objs.size));have g3:=Heap.get?_update_self (Obj.mapFields (·.setIfInBounds 1 (Value.ref h1.objs.size))) (k2 _ _ e1) (Obj.isFreed_of_fields d3);have o3:∀b,b≠e->h3.get? b=h2.get? b:=λb hb=>by rw[OA];exact Heap.get?_update_other _ _ (Ne.symm hb)
 rw[<-OA]at g3⊢;unfold setFlight;have v1:(vs.setIfInBounds 1 (Value.ref h1.objs.size))[1]?=some (.ref h1.objs.size):=by simp[hz]
 refine Â (wpAny_field (s:={s with heap:=h3}) g3 d3 v1 ?_);have t3:h3.get? h1.objs.size=some {cls:=.type "traceback",dict:=none,data:=.fields fs}:=(o3 _ nT).trans t2;refine wpAny_setField (s:={s with heap:=h3}) t3 rfl fz ?_;have kk:∀b o,b≠e->h1.get? b=some o->(h3.update h1.objs.size (Obj.mapFields (·.setIfInBounds 3 ((none:Option Addr).elim Value.none λf=>rawInt f)))).get? b=some o:=λb o hb z=>by rw[Heap.get?_update_other _ _ (ϧ (ö z)),o3 b hb];exact k2 b o z
 refine h _ h1.objs.size ?_ ⟨⟨_,_,?_,Obj.cls_mapFields _ _,d3,v1,(Bl _ _).trans mv⟩,.inr ⟨h1.objs.size,_,_,rfl,nT,Heap.get?_update_self _ t3 (Obj.isFreed_of_fields (Obj.data_mapFields rfl _)),Obj.data_mapFields rfl _,by simp[fz]⟩⟩ (λb o z hb hn=>?_) λb o z hb=>?_;.cases z:s.heap.get? h1.objs.size with|none=>rfl;|some o=>obtain⟨sl,q⟩:=FC.2.2 _ o z;exact absurd (ö q) (Θ _)
 .rw[Heap.get?_update_other _ _ nT];exact g3
 .exact kk b o hb ((FC.2.1 b hn).trans z)
 .obtain⟨sl,q⟩:=FC.2.2 b o z;exact⟨sl,kk b _ hb q⟩
theorem yO(kX:A.frames=some (env::outer))(hl:s.heap.FunFrames base (env::outer))(hf:env.frame=some L)(fl:Ϙ s.heap e C tb)(h:∀h' T,s.heap.get? T=none->Ϙ h' e C (.ref T)->(∀b o,s.heap.get? b=some o->b≠e->tb≠.ref b->b∉ĉ (env::outer)->h'.get? b=some o)->(∀b o,s.heap.get? b=some o->b≠e->tb≠.ref b->∃sl,h'.get? b=some {o with slots:=sl})->(∀b o,s.heap.get? b=some o->∃o',h'.get? b=some o')->Q () {s with heap:=h'}):wpAny M A (noteFrame (.ref e) env) (λ_ s'=>wpAny M A (setFlight (.ref e) none) Q E s') E s:=by
 obtain⟨⟨oe,vs,he,rfl,hd,h1,mv⟩,tr⟩:=fl;have hz:=(Array.getElem?_eq_some_iff.mp h1).1;unfold noteFrame;simp only[hf];refine Â (wpAny_field he hd h1 ?_);rcases tr with rfl|⟨T0,oT,ts,rfl,nT,hT,oI,h3⟩
 .rw[Æ Z3];refine v9 kX hl hf he hd hz mv λh' T nT iF k1 k2=>h h' T nT iF (λb o z hb _ hn=>k1 b o z hb hn) (λb o z hb _=>k2 b o z hb) λb o z=>?_;by_cases hb:b=e;.obtain⟨KI,_,q,_⟩:=iF.obj;exact⟨KI,hb▸q⟩
  .obtain⟨sl,q⟩:=k2 b o z hb;exact⟨_,q⟩
 .rw[È (show(Value.ref T0 !=Value.none)=true by simp)];refine Â (wpAny_field hT oI h3 ?_);refine Â (wpAny_setField hT oI (Array.getElem?_eq_some_iff.mp h3).1 ?_);obtain⟨g,eg⟩:∃g,g=s.heap.update T0 (Obj.mapFields (·.setIfInBounds 3 Value.none)):=⟨_,rfl⟩;have og:∀b,b≠T0->g.get? b=s.heap.get? b:=λb hb=>by rw[eg];exact Heap.get?_update_other _ _ (Ne.symm hb)
  have tg:∃o,g.get? T0=some o:=⟨_,by rw[eg];exact Heap.get?_update_self _ hT (Obj.isFreed_of_fields (Obj.data_mapFields oI _))⟩;have eC:g.FunFrames base (env::outer):=hl.of_keeps λb o z hn=>⟨o,(og b λq=>by rw[q,hT]at z;cases z;exact hn ts oI).trans z,rfl⟩;rw[<-eg];refine v9 (s:={s with heap:=g}) kX eC hf ((og e (Ne.symm nT)).trans he) hd hz mv λh' T DC iF k1 k2=>h h' T ?_ iF (λb o z hb ht hn=>k1 b o ((og b λq=>ht (by rw[q])).trans z) hb hn) (λb o z hb ht=>k2 b o ((og b λq=>ht (by rw[q])).trans z) hb) λb o z=>?_
  .have DC:g.get? T=none:=DC;by_cases q:T=T0;.obtain⟨o,e⟩:=tg;rw[q,e]at DC;cases DC
   .rw[<-og T q];exact DC
  .by_cases hb:b=e;.obtain⟨KI,_,q,_⟩:=iF.obj;exact⟨KI,hb▸q⟩
   .obtain⟨o2,e2⟩:∃o2,g.get? b=some o2:=by grind
    obtain⟨sl,q⟩:=k2 b o2 e2 hb;exact⟨_,q⟩
theorem vd(kX:A.frames=some (env::outer))(hl:s.heap.FunFrames base (env::outer))(hf:env.frame=some L)(fl:Ϙ s.heap e C tb)(h:∀h' T,s.heap.get? T=none->Ϙ h' e C (.ref T)->(∀b o,s.heap.get? b=some o->b≠e->tb≠.ref b->b∉ĉ (env::outer)->h'.get? b=some o)->(∀b o,s.heap.get? b=some o->b≠e->tb≠.ref b->∃sl,h'.get? b=some {o with slots:=sl})->(∀b o,s.heap.get? b=some o->∃o',h'.get? b=some o')->Q () {s with heap:=h'}):wpAny M A (leaving env (.ref e)) Q E s:=by exact Â (yO kX hl hf fl h)
end
theorem Ñ.there(x:Ñ P w H h a o):∃ob,h.get? a=some ob:=by cases o with|lst xs=>obtain⟨_,_,_,_,e⟩:=x;exact⟨_,e⟩;|tup xs=>obtain⟨_,_,_,ob,e,_⟩:=x;exact⟨_,e⟩;|dK kvs=>obtain⟨_,_,_,_,o,_,_,e,_⟩:=x;exact⟨_,e⟩;|dT kvs=>obtain⟨_,_,_,_,o,_,_,e,_⟩:=x;exact⟨_,e⟩;|set S n=>obtain⟨o,_,_,_,e,_⟩:=x;exact⟨_,e⟩;|ins C dx fs=>obtain⟨_,_,_,e,_⟩:=x;exact⟨_,e⟩;|own y=>exact x;|xd fs=>obtain⟨_,⟨_,_,_,e,_⟩,_⟩:=x;exact⟨_,e⟩;|rng lo hi=>obtain⟨_,_,_,e⟩:=x;exact⟨_,e⟩;|frz ob u=>obtain⟨e,_⟩:=x;exact⟨_,e⟩;|tbl ps=>exact⟨_,(x)⟩;|met f y=>exact⟨_,(x)⟩;|ext φ=>obtain⟨_,e,_⟩:=x;exact e
theorem û.no(x:û P w H h)(e:h.get? a=none):H a=none:=by cases q:H a with|none=>rfl;|some o=>obtain⟨ob,z⟩:=(x a o q).there;rw[e]at z;cases z
def vf(X:Cx)(EX:Addr->Addr->Hp->Prop):Prop:=∀Z7(σ:St)H s a C tb,Ä X Z7 σ H s->Ϙ s.heap a (.ref C) tb->X.s₀.heap.get? a=none->H a=none->(∀T,tb=.ref T->X.s₀.heap.get? T=none/\H T=none)->(∀p∈X.pn++Z7,p.1≠a/\tb≠.ref p.1)->EX a C H->X.xe (.ref a) s
def Ŧ(P:Program)(w:World):CXT:=λouter H s E e s'=>∃a C H' T,e=.ref a/\s'.os=s.os/\AllBare s'.gens/\Un (ĉ outer) [] H H' s.heap s'.heap/\û P w H' s'.heap/\s.heap.get? a=none/\s.heap.get? T=none/\H' a=none/\H' T=none/\Ϙ s'.heap a (.ref C) (.ref T)/\E (.ref a) (some C) H'
section
theorem Ä.was{σ:St}(I:Ä X Z7 σ H s)(hx:X.ex=[])(e:s.heap.get? a=none):X.s₀.heap.get? a=none:=by cases q:X.s₀.heap.get? a with|none=>rfl;|some o=>obtain⟨o',z⟩:=I.base.there a o q (by rw[hx];simp);rw[e]at z;cases z
theorem IK(W:vf X λa C H=>E (.ref a) (some C) H)(hx:X.ex=[]):rY (Ŧ X.prog X.w) X E:=by intro Z7 σ H s e s' I h;obtain⟨a,C,H',T,rfl,os,bare,un,hok,na,nT,fa,fT,fl,q⟩:=h;have J:Ä X Z7 σ H' s':=I.call' os un hok bare λb z=>absurd z Z2;refine W Z7 σ H' s' a C (.ref T) J fl (I.was hx na) fa (λT' eT=>by cases eT;exact⟨I.was hx nT,fT⟩) (λp hp=>?_) q;obtain⟨e,_⟩:=I.pin p hp;exact⟨λz=>(by rw[z,na]at e;cases e),λz=>(by cases z;rw[nT]at e;cases e)⟩
def JR(C:Addr)(EX:Addr->Addr->Hp->Prop)(t:TA):TS:=λ_ σ H=>t σ H λvs H1=>vs.length<=sizeLine/\∀a,H1 a=none->EX a C H1
theorem vg{np bp pos:Pos}(O:OwnCls x C bm newId X.mg X.base)(FB:ExcBaseFacts B newId xI bm)(hc:X.calm=true)(hx:X.ex=[])(hg:Gl X x)(ha:PA X (e::es) t)(W:vf X EX)(fe:ū x:=by decide)(he:Qa6 X e es:=by rfl)(eR:Qa7 X bp es:=by rfl):PS X (.Raise (some (.Call (.Name x np) (e::es) [] bp)) none pos) (JR C EX t):=by intro Z7 s σ H D I h;obtain⟨tl,N,nm,q,bs,hdct,sn,sub,ab,col,dd,k0,k1,k2,k3,k5,mN,hC,hN,FE,T⟩:=O.obj;refine wpAny_Raise_call_subT (C:=C) (nm:=nm) (q:=q) (N:=N) (bs:=bs) (bm:=tl) (hdct:=hdct) (sn:=sn) (sub:=sub) (ab:=ab) (col:=col) (dd:=dd) (k0:=k0) (k1:=k1) (k2:=k2) (k3:=k3) (k5:=k5) FB (mN:=mN) (T.hasType FB.hasBase) (I.ok.hd hc) (by rw[he];show(false||(backTo bp (starEach es X.env)).any (·.1))=false;rw[eR];rfl) FE ?_;refine jc I hg O.bound ⟨rfl,?_⟩ fe;have h2:=ha bp Z7 s σ H _ I h;rw[he]at h2⊢;refine Calls.evalArgs_plain (wpAny_mono h2 (λus s2 z=>?_) λ_ _ y=>y);obtain⟨vs,H1,I1,r1,hl,q1⟩:=z;have hlen:=r1.length;refine⟨rfl,by show us.length<=_;lia,I1.bk _ _ hC,hN.keeps I1.bk,T.keeps I1.bk,λh' a me=>?_⟩;obtain⟨tt,e1,e2,e3⟩:=me.there;have J:Ä X Z7 σ H1 {s2 with heap:=h'}:=I1.kept (t':=s2.toks) me.keeps;have fl:Ϙ h' a (.ref C) .none:=⟨⟨_,_,e1,rfl,rfl,rfl,rfl⟩,.inl rfl⟩;refine W Z7 σ H1 _ a C .none J fl (I1.was hx me.new) (I1.hok.no me.new) (λT z=>by cases z) (λp hp=>?_) (q1 a (I1.hok.no me.new));obtain⟨e,_⟩:=I1.pin p hp;exact⟨λz=>(by rw[z,me.new]at e;cases e),λz=>(by cases z)⟩
end
theorem nG{K:Frag}:vf (iJ (Ŧ P w) P w K mg base N qual scope f cd A outer s H E) λa C H'=>E (.ref a) (some C) H':=by
 intro Z7 σ H' s' a C tb I fl na fa ft _ q;have eW:s'.heap.FunFrames base (envOfC qual scope s.heap.objs.size f cd::outer):=I.stack;have kX:(A.deeper (envOfC qual scope s.heap.objs.size f cd)).frames=some (envOfC qual scope s.heap.objs.size f cd::outer):=I.ok.frames;have xS:(envOfC qual scope s.heap.objs.size f cd).frame=some s.heap.objs.size:=by rfl
 have ub:Un (ĉ outer) [] H H' s.heap s'.heap:=I.base;have na:s.heap.get? a=none:=na;have ft:∀T,tb=.ref T->s.heap.get? T=none/\H' T=none:=ft;refine vd kX eW xS fl λh' T nT iF k1 k2 k3=>?_;have apart:∀b o,s.heap.get? b=some o->b≠a/\tb≠.ref b:=λb o e=>⟨λz=>(by rw[z,na]at e;cases e),λz=>(by rw[(ft b z).1]at e;cases e)⟩;have KL:∀b o,s.heap.get? b=some o->b∉ĉ outer->b∉ĉ (envOfC qual scope s.heap.objs.size f cd::outer):=λb o e hn hm=>by
  unfold ĉ at hm;rw[Za3,xS]at hm;rcases Ġ.mp hm with z|z;.exact absurd (ö e) (by rw[z];exact Θ _)
  .exact hn z
 refine⟨a,C,H',T,rfl,I.os,I.bare,⟨λb o e n hb _=>?_,λb o e n hb _=>?_,ub.free,λb o e hx=>?_,ub.tups,ub.frzs,ub.tbls⟩,λc o e=>?_,na,?_,fa,I.hok.no nT,iF,q⟩;.exact k1 b o (ub.keep b o e n hb Z2) (apart b o e).1 (apart b o e).2 (KL b o e hb)
 .obtain⟨sl,e1⟩:=ub.slot b o e n hb Z2;obtain⟨kz,e2⟩:=k2 b _ e1 (apart b o e).1 (apart b o e).2;exact⟨kz,e2⟩
 .obtain⟨o',e1⟩:=ub.there b o e hx;exact k3 b o' e1
 .refine(I.hok c o e).stay (λd v hd z=>?_) (λ_ z=>z) λ_ _ z=>z;have DD:∃o',H' d=some o':=by grind
  obtain⟨o',eo⟩:=DD;refine k1 d v z (λy=>(by rw[y,fa]at eo;cases eo)) (λy=>(by rw[(ft d y).2]at eo;cases eo)) λhm=>?_;rw[I.stkFree d hm]at eo;cases eo
 .exact I.was rfl nT
theorem Û.okX{K:Frag}{st:Stmt}{f:Addr}{fd:FuncData}{N ps:ç}{k:Nat}{sp:Sp}(F:Û K x qual st f fd)(S:Á N ps (aD st))(len:∀vs H Q E,sp vs H Q E->vs.length=ps.length)(aI:∀ai A outer s H vs Q E,ä k (A.deeper (envOfC qual (aD st) s.heap.objs.size f ai))->sp vs H Q E->∃t,Ĵ (iJ (Ŧ P w) P w K mg base N qual (aD st) f ai A outer s H E) (cJ st) t/\t {nx:=λ_ H'=>Q .non H',rt:=Q} (start N vs) H):Í P w K mg base (Ŧ P w) (k+1) f fd ps sp:=by obtain⟨oc,od,kV,doc,pm,an,ai,ct,kS,rfl,lk,eB⟩:=F.ex;exact CT lk eB S len λA outer s H vs Q E hr gS=>aI ai A outer s H vs Q E hr gS
theorem Û.oqX{K:Frag}{st:Stmt}{f:Addr}{fd:FuncData}{N ps:ç}{k:Nat}{sp:Sp}(F:Û K x qual st f fd)(S:Á N ps (aD st))(aI:∀ai A outer s H vs Q E,ä k (A.deeper (envOfC qual (aD st) s.heap.objs.size f ai))->sp vs H Q E->∃t,Ĵ (iJ (Ŧ P w) P w K mg base N qual (aD st) f ai A outer s H E) (cJ st) t/\t {nx:=λ_ H'=>Q .non H',rt:=Q} (start N vs) H)(len:ψ sp ps:=by exact{}):Í P w K mg base (Ŧ P w) (k+1) f fd ps sp:=F.okX S len.h aI
theorem DG{K:Frag}(X:K.In h)(hm:mg x=some (.ref C))(q:PySem.W.excIn K C OB newId=true):OwnCls x C OB newId mg h:=by
 refine⟨hm,?_⟩;unfold PySem.W.excIn at q;split at q
 .rename_i dd cd sl ho;split at q;.rename_i C' bm k0 k1 k2 k3 n k5 AH hs;simp only[Bool.and_eq_true,beq_iff_eq,Bool.not_eq_true']at q;obtain⟨⟨⟨⟨⟨rfl,rfl⟩,DE⟩,ht⟩,hok⟩,FE⟩:=q;obtain⟨nm,bs,mro,ns,qn,hd,sn,sub,ab,col,del⟩:=cd;dsimp only at AH DE hok FE;subst AH DE;obtain⟨l⟩:=sl;subst hs;exact⟨bm,ns,nm,qn,bs,hd,sn,sub,ab,col,dd,k0,k1,k2,k3,k5,_,X _ _ ho,.of_isNs (PySem.W.isNs_of_in X hok),PySem.W.nsMap_none_of_in X hok FE,PySem.W.tail_of_in X ht⟩
  .cases q
 .cases q
section
variable{σ:St}
theorem Ϙ.ne(fl:Ϙ h a C tb)(e:h.get? b=some o)(hd:∀vs,o.data≠.fields vs):b≠a/\tb≠.ref b:=by
 obtain⟨⟨oe,vs,he,_,hv,_,_⟩,tr⟩:=fl;refine⟨λz=>?_,λz=>?_⟩;.rw[z,he]at e;cases e;exact hd vs hv
 .rcases tr with q|⟨T,oT,ts,q,_,hT,oI,_⟩;.rw[q]at z;cases z
  .rw[q]at z;cases z;rw[hT]at e;cases e;exact hd ts oI
theorem Ä.left(I:Ä X Z7 σ H s)(hx:X.ex=[])(fl:Ϙ s.heap a C tb)(na:X.s₀.heap.get? a=none)(fa:H a=none)(ft:∀T,tb=.ref T->X.s₀.heap.get? T=none/\H T=none)(hp:∀p∈X.pn++Z7,p.1≠a/\tb≠.ref p.1)(k1:∀b o,s.heap.get? b=some o->b≠a->tb≠.ref b->b∉ĉ X.stack->h'.get? b=some o)(k2:∀b o,s.heap.get? b=some o->b≠a->tb≠.ref b->∃sl,h'.get? b=some {o with slots:=sl})(k3:∀b o,s.heap.get? b=some o->∃o',h'.get? b=some o'):Ä X Z7 σ H {s with heap:=h',toks:=t'}:=by
 have tr:∀b u,H b=some u->b≠a/\tb≠.ref b/\b∉ĉ X.stack:=λb u e=>⟨λz=>(by rw[z,fa]at e;cases e),λz=>(by rw[(ft b z).2]at e;cases e),λz=>(by rw[I.stkFree b z]at e;cases e)⟩;have old:∀b o,X.s₀.heap.get? b=some o->b≠a/\tb≠.ref b:=λb o e=>⟨λz=>(by rw[z,na]at e;cases e),λz=>(by rw[(ft b z).1]at e;cases e)⟩;have EZ:∀b o,X.s₀.heap.get? b=some o->b≠X.env.locals:=λb o e=>ę (ĵ (ö e) I.ok.above);have OC:∀b,b≠X.env.locals->b∉X.fs->b∉ĉ X.stack:=λb h1 h2 z=>(Ġ.mp (I.stkSub b z)).elim h1 h2;have cellK:∀x c,X.env.cells.lookup x=some c->∀v,s.heap.IsCell c v->h'.IsCell c v:=λx c e v hZ=>by
  obtain⟨o,ho,hd⟩:=hZ;obtain⟨n1,n2⟩:=fl.ne ho λvs q=>by rw[hd]at q;cases q
  obtain⟨sl,q⟩:=k2 c o ho n1 n2;exact⟨_,q,hd⟩
 refine⟨I.ok,I.os,I.bare,⟨λb o e n hb cm=>?_,λb o e n hb cm=>?_,I.base.free,λb o e cm=>?_,I.base.tups,I.base.frzs,I.base.tbls⟩,?_,λx c e=>?_,I.free,I.freeC,λp iL=>?_,λc o e=>?_,I.len⟩;.exact k1 b o (I.base.keep b o e n hb cm) (old b o e).1 (old b o e).2 (OC b (EZ b o e) hb)
 .obtain⟨sl,e1⟩:=I.base.slot b o e n hb cm;obtain⟨kz,e2⟩:=k2 b _ e1 (old b o e).1 (old b o e).2;exact⟨kz,e2⟩
 .obtain⟨o',e1⟩:=I.base.there b o e cm;exact k3 b o' e1
 .obtain⟨m,⟨o,es,ep,ho,hd,r⟩,hl⟩:=I.loc;obtain⟨n1,n2⟩:=fl.ne ho λvs q=>by rw[hd]at q;cases q
  obtain⟨sl,q⟩:=k2 _ o ho n1 n2;refine⟨m,⟨_,es,ep,q,hd,r⟩,λi x v e1 e2 e3=>?_⟩;obtain⟨u,rr,l⟩:=hl i x v e1 e2 e3;refine⟨u,rr,?_⟩;rcases l with l|⟨k,c,e,z⟩;.exact .inl l
  .exact .inr ⟨k,c,e,cellK x c e _ z⟩
 .obtain⟨v,z⟩:=I.cell x c e;exact⟨v,cellK x c e v z⟩
 .obtain⟨e,n,ne,nf,d⟩:=I.pin p iL;exact⟨k1 p.1 p.2 e (hp p iL).1 (hp p iL).2 (OC p.1 ne nf),n,ne,nf,d⟩
 .refine(I.hok c o e).stay (λd v hd z=>?_) (λ_ z=>z) λ_ _ z=>z;have DD:∃o',H d=some o':=by grind
  obtain⟨o',eo⟩:=DD;obtain⟨t1,t2,t3⟩:=tr d o' eo;exact k1 d v z t1 t2 t3
end
structure ā(k:Nat)(A:Around):Prop where
 dp:A.depth+3*k+5<recursionLimit
 un:A.units+16*k+200<cLine
 gd:A.guards=some []
theorem ä.toU(r:ä k A):ā k A:=⟨r.dp,r.un,r.gd⟩
theorem ā.mono(r:ā k A)(h:j<=k):ā j A:=⟨by have:=r.dp;lia,by have:=r.un;lia,r.gd⟩
structure ş(P:Program)(w:World)(K:Frag)(mg:RG)(base:Heap)(CX:CXT)(k:Nat)(f:Addr)(fd:FuncData)(ps:ç)(sp:Sp):Prop where
 len:∀vs H Q E,sp vs H Q E->vs.length=ps.length
 run:∀A outer s H args us vs Q E,ā k A->ķ P w K mg base A outer s H->BindsTo s fd args (ps.zip us)->Ë vs us->sp vs H Q E->codeAny (model P w) A (.call (.ref f) args) (CR CX outer P w H s Q E) s
abbrev Cx.un(X:Cx)(A:Around):Cx:={X with A:=A,calm:=false}
theorem Ä.un'{σ:St}(I:Ä X Z7 σ H s)(A:Around)(hA:A.frames=X.A.frames):Ä (X.un A) Z7 σ H s:=⟨⟨I.ok.mod,I.ok.kind,I.ok.glob,I.ok.blt,I.ok.above,I.ok.inj,I.ok.has,I.ok.cab,λz=>(by cases z),hA.trans I.ok.frames,I.ok.stk,I.ok.exf,I.ok.bs,I.ok.bsz,I.ok.noex,I.ok.exfs,I.ok.funs,I.ok.frf⟩,I.os,I.bare,I.base,I.loc,I.cell,I.free,I.freeC,I.pin,I.hok,I.len⟩
def qt(A:Around):Around:={A with handled:=none}
theorem ķ.qt{K:Frag}(e:ķ P w K mg base A outer s H):ķ P w K mg base (qt A) outer s H:=⟨e.frames,e.mod,e.bs,e.bsz,e.funs,e.frf,e.hok,e.bare⟩
theorem ā.mark(r:ā k A)(v:Option Value):ā k (A.mark v):=⟨r.dp,r.un,r.gd⟩
theorem ā.deeper(r:ā (k+1) A)(env:Env):ā k (A.deeper env):=⟨by have:=r.dp;show A.depth+1+3*k+5<_;lia,by have:=r.un;show A.units+3+16*k+200<_;lia,r.gd⟩
theorem Û.okU{K:Frag}{st:Stmt}{f:Addr}{fd:FuncData}{N ps:ç}{k:Nat}{sp:Sp}(F:Û K x qual st f fd)(S:Á N ps (aD st))(len:∀vs H Q E,sp vs H Q E->vs.length=ps.length)(aI:∀ai A outer s H vs Q E,ā k (A.deeper (envOfC qual (aD st) s.heap.objs.size f ai))->sp vs H Q E->∃t,Ĵ (((iJ Ý P w K mg base N qual (aD st) f ai (qt A) outer s H E).un (A.deeper (envOfC qual (aD st) s.heap.objs.size f ai))).nox) (cJ st) t/\t {nx:=λ_ H'=>Q .non H',rt:=Q} (start N vs) H):ş P w K mg base Ý (k+1) f fd ps sp:=by
 obtain⟨oc,od,kV,doc,pm,an,ai,ct,kS,rfl,lk,eB⟩:=F.ex;refine⟨len,λA outer s H args us vs Q E hr e0 hb r gS=>?_⟩;have hl:=len _ _ _ _ gS;have KX:K.In s.heap:=e0.mod.kin.keeps λb o e=>(e0.bs b o e).1;have lim:s.heap.NoLimit:=e0.mod.nolimit.keeps λb o e=>(e0.bs b o e).1;have l9:∀y∈ps.zip us,(aD st).names.lookup y.1=some .local\/((aD st).names.lookup y.1=some .cell/\((cellsFrom (s.heap.objs.size+1) (aD st).names []).lookup y.1).isSome=true):=λ⟨n,v⟩hy=>by
  rcases S.par n (ϟ hy).1 with q|q;.exact .inl q
  .exact .inr ⟨q,PySem.W.cellsFrom_some _ _ _ (.inl q)⟩
 refine codeAny_call_function (by have:=hr.dp;lia) (KX _ _ lk) rfl S.co S.gen rfl (PySem.W.codeRec_of KX eB) (hb _ _ _ _ ?_);refine wpAny_newFunctionEnv_cells S.kind l9 λenv he s1 x=>?_;subst he;refine⟨lim.keeps x.toInCall.keep,codeAny_func ?_⟩;obtain⟨t,ht,hq⟩:=aI ai A outer s H vs Q E (hr.deeper _) gS;have I:Ä (iJ Ý P w K mg base N qual (aD st) f ai (qt A) outer s H E) [] (start N vs) H s1:=qI S rfl e0.qt hl r x;have J:=(I.un' (A.deeper (envOfC qual (aD st) s.heap.objs.size f ai)) rfl).wish λ_ _=>False;refine wpAny_mono (ht [] s1 (start N vs) H _ J hq) (λfl s' hs=>?_) λe s' hs=>hs.elim;have fin:∀{af:St}{H':Hp}{v:V}{u:Value},Ä (((iJ Ý P w K mg base N qual (aD st) f ai (qt A) outer s H E).un (A.deeper (envOfC qual (aD st) s.heap.objs.size f ai))).nox) [] af H' s'->Ì v u->Q v H'->CE outer P w H s Q u s':=λ{af H' v u}J rv q=>⟨v,H',J.os,J.bare,J.base,J.hok,rv,q⟩;cases fl with|ret u=>obtain⟨v,af,H',J,rv,q⟩:=hs;exact fin J rv q;|next=>obtain⟨af,H',J,q⟩:=hs;exact fin (v:=V.non) (u:=Value.none) J rfl q;|brk=>obtain⟨_,_,_,q⟩:=hs;exact False.elim q;|cont=>obtain⟨_,_,_,q⟩:=hs;exact False.elim q
theorem Û.oqU{K:Frag}{st:Stmt}{f:Addr}{fd:FuncData}{N ps:ç}{k:Nat}{sp:Sp}(F:Û K x qual st f fd)(S:Á N ps (aD st))(aI:∀ai A outer s H vs Q E,ā k (A.deeper (envOfC qual (aD st) s.heap.objs.size f ai))->sp vs H Q E->∃t,Ĵ (((iJ Ý P w K mg base N qual (aD st) f ai (qt A) outer s H E).un (A.deeper (envOfC qual (aD st) s.heap.objs.size f ai))).nox) (cJ st) t/\t {nx:=λ_ H'=>Q .non H',rt:=Q} (start N vs) H)(len:ψ sp ps:=by exact{}):ş P w K mg base Ý (k+1) f fd ps sp:=F.okU S len.h aI
section
variable{p pos:Pos}
theorem DK(F:ş X.prog X.w X.K X.mg X.base Ý k f fd ps sp)(hr:ā k X.A)(hg:Gl X x)(hm:X.mg x=some (.ref f))(hk:PySem.W.keepIn X.K (.ref f)=true)(hb:ï X.K fd ps [])(ha:PA X (e::es) t)(fe:ū x:=by decide)(he:Qa6 X e es:=by rfl)(eR:Qa7 X pos es:=by rfl):PE X (.Call (.Name x p) (e::es) [] pos) (uD sp [] E0 t):=by
 intro Z7 s σ H Q I h;refine wpAny_Call_Name_kw (jc I hg hm ?_ fe);refine PySem.W.callWith_K (h₀:=X.base) I.ok.mod.kin hk (Õ (ha pos Z7 s σ H _ I h) λus s1⟨vs,H1,I1,r,q⟩=>⟨I1.kIn,?_⟩) he eR;have q:sp (vs++[]) H1 Q E0:=q;rw[Į]at q;have hl:(us++[]).length=ps.length:=by rw[Į,<-r.length];exact F.len _ _ _ _ q
 have DF:=hb s1 us I1.kIn hl;rw[Į]at DF;refine wpAny_call (codeAny_mono (F.run X.A X.stack s1 H1 ⟨us,[]⟩ us vs Q E0 hr I1.env0 DF r q) λrr s' hq=>?_);cases rr with|error e=>exact(hq).elim;|ok fl=>cases fl with|ret u=>exact I1.after hq;|next=>exact False.elim hq;|brk=>exact False.elim hq;|cont=>exact False.elim hq
end
def ô(a C:Addr)(h:Heap):Prop:=∃o vs,h.get? a=some o/\o.cls=.ref C/\o.data=.fields vs/\o.dict=none
theorem ô.ok(x:ô a C h):Ñ P w H h a (.ext (ô a C)):=⟨x,(let⟨o,_,e,_⟩:=x;⟨o,e⟩),λh1 h2 z k=>(let⟨o,vs,e,r⟩:=z;⟨o,vs,k o e,r⟩)⟩
theorem û.tracked(x:û P w H h)(n:H a=none)(new:Ñ P w (upd H a o) h a o):û P w (upd H a o) h:=λb u e=>by
 by_cases z:b=a;.subst z;rw[aj]at e;cases e;exact new
 .rw[aq z]at e;exact(x b u e).stay (λ_ _ _ q=>q) (λc q=>by rw[aq (az q n)];exact q) λc xs q=>by rw[aq (az q n)];exact q
theorem Ä.track{σ:St}(I:Ä X Z7 σ H s)(hx:X.ex=[])(n:H a=none)(na:X.s₀.heap.get? a=none)(hL:a≠X.env.locals)(hc:∀x c,X.env.cells.lookup x=some c->c≠a)(hp:∀p∈X.pn++Z7,p.1≠a)(new:Ñ X.prog X.w (upd H a o) s.heap a o):Ä X Z7 σ (upd H a o) s:=⟨I.ok,I.os,I.bare,⟨I.base.keep,I.base.slot,λb ob e h1 h2=>(by rw[aq (λz=>(by rw[z,na]at e;cases e))];exact I.base.free b ob e h1 h2),I.base.there,λb xs e=>(have q:=I.base.tups b xs e;by rw[aq (az q n)];exact q),λb ob u e=>(have q:=I.base.frzs b ob u e;by rw[aq (az q n)];exact q),λb ps e=>(let⟨m,q⟩:=I.base.tbls b ps e;⟨m,by rw[aq (az q n)];exact q⟩)⟩,I.loc,I.cell,(by rw[aq (Ne.symm hL)];exact I.free),λx c e=>(by rw[aq (hc x c e)];exact I.freeC x c e),λp iL=>(let⟨e,n1,r⟩:=I.pin p iL;⟨e,by rw[aq (hp p iL)];exact n1,r⟩),I.hok.tracked n new,I.len⟩
open PySem PySem.Spec PyProof.Rows PySem.Calls PySem.W
theorem Bm:entryFor table "BaseException.__getattribute__"=some Builtin.«object.__getattribute__»:=entryFor_alias (id':="object.__getattribute__") (by kernel_rfl) (by first|rfl|decide+kernel) Z5 (by kernel_rfl)
section
variable{K:Frag}
theorem DN(hc:(clsIn K C).isSome=true)(ha:findIn K (.ref C) name=some (some a))(hg:specialIn K a "__get__"=some (some g))(ht:takesIn K a=some true):findObj K C none name=some (.bind g a):=by obtain⟨cd,hc⟩:=Zau.mp hc;unfold findObj;rw[hc,Option.bind_some,ha,Option.bind_some];simp[hg,ht]
theorem JS(X:K.In s.heap)(I:InstAt s.heap x ox C none)(hf:findObj K C none "__class__"=some (.bind (.builtin "getset_descriptor.__get__") (.builtin "object.__class__")))(hm:mroIn K C (.type "object")=some true)(h:Q (.done (.ret (.ref C))) s):wpAny (model prog w) A (Builtin.«object.__getattribute__» ⟨[.ref x,.str "__class__" tk],[]⟩) Q E s:=by
 obtain⟨hh,g,d,t,os⟩:=s;have L0:=I.type (M:=model prog w);have L1:=looks_find (M:=model prog w) X I hf;unfold Builtin.«object.__getattribute__»;repeat lk
 refine wpAny_run (class_get X I hm ?_);repeat lk
 exact h
theorem Ų:Slot "BaseException" "__getattribute__" "BaseException.__getattribute__":=.of (owner:="BaseException") (n:="__getattribute__") (by rw[typeLookup_type,builtinLookup_eq_fast];kernel_rfl) Z5 Z5 Z5 (by first|exact .inl Z5|exact .inr Z5) (by rw[isSubtype_type];kernel_rfl)
theorem DP:builtinKind "BaseException.__getattribute__"=some .slot:=by decide+kernel
theorem Bo:splitId "BaseException.__getattribute__"=some ("BaseException","__getattribute__"):=by decide+kernel
theorem GZ:∃sig,Manifest.signature? "BaseException.__getattribute__"=sig/\∀a b:Value,(match sig with|none=>(pure ():Sem Unit)|some g=>Bind.checkArgs "BaseException.__getattribute__" g ⟨[a,b],[]⟩)=pure ():=⟨_,rfl,λa b=>by kernel_rfl⟩
theorem Bp(L:Looks (model prog w) s.heap (isInstance (.ref x) (.type "BaseException")) true)(h:Q () s):wpAny (model prog w) A (checkBuiltinCall "BaseException.__getattribute__" ⟨[.ref x,b],[]⟩) Q E s:=by simp only[checkBuiltinCall,DP,Bo];refine Â (L.at ?_);simp only[Bool.not_true,Bool.false_eq_true,if_false];obtain⟨sig,e,r⟩:=GZ;have r:=r (.ref x) b;rw[e];cases sig with|none=>exact Ô h;|some g=>show wpAny _ _ (Bind.checkArgs "BaseException.__getattribute__" g ⟨[.ref x,b],[]⟩) Q E s;have r:Bind.checkArgs "BaseException.__getattribute__" g ⟨[.ref x,b],[]⟩=pure ():=r;rw[r];exact Ô h
theorem Bq(X:K.In s.heap)(I:InstAt s.heap x ox C none)(Se:findIn K (.ref C) "__getattribute__"=some (some (.builtin "BaseException.__getattribute__")))(Sf:findIn K (.ref C) "__getattr__"=some none)(hf:findObj K C none "__class__"=some (.bind (.builtin "getset_descriptor.__get__") (.builtin "object.__class__")))(hm:mroIn K C (.type "object")=some true)(hb:mroIn K C (.type "BaseException")=some true)(h:Q (some (.ref C)) {s with toks:=s.toks+1}):wpAny (model prog w) A (getAttr? (.ref x) "__class__") Q E s:=by
 obtain⟨hh,g,d,t,os⟩:=s;have L0:=I.type (M:=model prog w);have L1:=looks_findIn (M:=model prog w) X Se;have L2:=looks_findIn (M:=model prog w) X Sf;have L3:=looks_mroIn (M:=model prog w) X hb;unfold getAttr? getAttrBy? getAttrBy;refine Â (wpAny_mkText (Â (wpAny_attempt (wpAny_holding (Â (L0.at (Â (L1.at ?_))))))));show wpAny _ _ (getAttrByItsOwn _ _ _ _ _ _) _ _ _;unfold getAttrByItsOwn hookBefore;refine Â ?_;rw[È (show onTheHeap (.ref C)=true from rfl)];refine L2.at ?_;refine Â (wpAny_attempt (wpAny_holding ?_));show wpAny _ _ (boundAndCalled (.builtin "BaseException.__getattribute__") (.ref x) (.str "__class__" t)) _ _ _;unfold boundAndCalled;refine Â (wpAny_of_eq (Ų.bind _) ?_);refine wpAny_call (codeAny_call_builtin Ų.plain Bm (Bp (s:=⟨hh,g,d,t+1,os⟩) (L0.andThen L3) ?_));refine JS (s:=⟨hh,g,d,t+1,os⟩) X I hf hm ?_;show wpAny _ _ (handedOut (.ref C)) _ _ _;repeat lk
 exact h
end
structure ϴ(K:Frag)(C:Addr):Prop where
 cl:(clsIn K C).isSome=true
 ga:findIn K (.ref C) "__getattribute__"=some (some (.builtin "BaseException.__getattribute__"))gb:findIn K (.ref C) "__getattr__"=some none
 fc:findIn K (.ref C) "__class__"=some (some (.builtin "object.__class__"))sg:specialIn K (.builtin "object.__class__") "__get__"=some (some (.builtin "getset_descriptor.__get__"))tk:takesIn K (.builtin "object.__class__")=some true
 ob:mroIn K C (.type "object")=some true
 be:mroIn K C (.type "BaseException")=some true
theorem ô.inst(x:ô a C h):∃ox,InstAt h a ox C none:=by obtain⟨o,vs,e,c,d,dd⟩:=x;refine⟨o,e,c,?_,by rw[dd];trivial⟩;unfold notCls;rw[d]
theorem vm{K:Frag}(Z:ϴ K C):KitX K (.ref a) (.ref C) (ô a C)where
 ty:=λM h _ p=>(let⟨_,I⟩:=p.inst;I.type);it:=λM h X _=>by
  have z:=Z.cl;unfold clsIn at z;split at z;.rename_i c' d' cd' E2 ho;intro A' Q' E' s' k q;unfold isType loadHead;exact Â (wpAny_loadPart (k _ _ (X _ _ ho)) (Ô q))
  .cases z
 ne:=λh tp dd Z8 n sl X e=>by
  refine Bool.eq_false_iff.mpr λq=>?_;have q:C=tp:=by have:=beq_iff_eq.mp q;injection this
  subst q;have z:=Z.cl;unfold clsIn at z;split at z;.rename_i c' d' cd' E2 ho;have:=X _ _ ho;rw[e]at this;cases this
  .cases z
 ca:=λ{prog w A E Q s}X p h=>by obtain⟨ox,I⟩:=p.inst;exact Bq X I Z.ga Z.gb (DN Z.cl Z.fc Z.sg Z.tk) Z.ob Z.be h
theorem jZ:dF X (.builtin "isinstance") (λxs H Q=>∃a C c b,xs=[.ref a,c]/\H a=some (.ext (ô a C))/\ϴ X.K C/\((∃D,c=.ref D/\kitOne X.K (.ref C) (.ref D)=some b)\/∃n,c=.ty n/\kitOne X.K (.ref C) (.type n)=some b)/\Q (.bl b) H):=by
 intro Z7 s σ H xs us Q I r h;obtain⟨a,C,c,b,rfl,e,Z,hk,q⟩:=h;obtain⟨u,v,rfl,ru,rv⟩:=Œ r;cases(show u=Value.ref a from ru);obtain⟨p,_⟩:=(show Ñ X.prog X.w H s.heap a (.ext (ô a C))from I.hok a _ e);rcases hk with⟨D,rfl,hk⟩|⟨n,rfl,hk⟩;.cases(show v=Value.ref D from rv);exact kia_one (vm Z) I.kIn p hk (λz=>nomatch z) λtk=>⟨.bl b,H,I.tok _,rfl,q⟩
 .cases(show v=Value.type n from rv);exact kia_one (vm Z) I.kIn p hk (λz=>nomatch z) λtk=>⟨.bl b,H,I.tok _,rfl,q⟩
section
variable{K:Frag}{s:Shared}
structure ť(K:Frag)(C D:Addr):Prop where
 nt:typeIn K (.ref D)=some (.type "type")ty:(clsIn K D).isSome=true
 be:subIn K (.ref D) (.type "BaseException")=some true
 su:subIn K (.ref C) (.ref D)=some true
theorem Br(X:K.In s.heap)(h:(clsIn K D).isSome=true):Looks (model prog w) s.heap (isType (.ref D)) true:=by
 unfold clsIn at h;split at h;.rename_i c' d' cd' E2 ho;intro A' Q' E' s' k q;exact Â (wpAny_loadPart (k _ _ (X _ _ ho)) (Ô q))
 .cases h
theorem vo(X:K.In s.heap)(I:InstAt s.heap a ox C none)(Z:ť K C D)(h:Q true s):wpAny (model prog w) A (excMatches (.ref a) (.ref D)) Q E s:=by
 have L0:=I.type (M:=model prog w);have L1:=looks_typeIn (M:=model prog w) X Z.nt;have L2:=Br (prog:=prog) (w:=w) X Z.ty;have L3:=looks_subIn (M:=model prog w) X Z.be;have L4:=looks_subIn (M:=model prog w) X Z.su;have f:=tc_notTuple;repeat(first|with_reducible refine L1.at ?_|with_reducible refine L0.at ?_|with_reducible refine L2.at ?_|with_reducible refine L3.at ?_|with_reducible refine L4.at ?_|wp_step)
 exact h
end
theorem Bs(fl:Ϙ s.heap a C tb)(h:∀h',Ϙ h' a C tb->(∀b o,s.heap.get? b=some o->tb≠.ref b->h'.get? b=some o)->(∀b o,s.heap.get? b=some o->∃o',h'.get? b=some o')->Q () {s with heap:=h'}):wpAny M A (setFlight (.ref a) none) Q E s:=by
 obtain⟨⟨oe,vs,he,hc,hd,h1,mv⟩,tr⟩:=id fl;refine Â (wpAny_field he hd h1 ?_);rcases tr with rfl|⟨T,oT,ts,rfl,nT,hT,oI,h3⟩;.rw[Æ Z3];exact Ô (h s.heap fl (λb o e _=>e) λb o e=>⟨o,e⟩)
 .rw[È (show(Value.ref T !=Value.none)=true by simp)];have z3:=(Array.getElem?_eq_some_iff.mp h3).1;refine wpAny_setField hT oI z3 ?_;have g3:=Heap.get?_update_self (Obj.mapFields (·.setIfInBounds 3 ((none:Option Addr).elim Value.none λf=>rawInt f))) hT (Obj.isFreed_of_fields (Obj.data_mapFields oI _));have o3:∀b,b≠T->(s.heap.update T (Obj.mapFields (·.setIfInBounds 3 ((none:Option Addr).elim Value.none λf=>rawInt f)))).get? b=s.heap.get? b:=λb hb=>Heap.get?_update_other _ _ (Ne.symm hb);refine h _ ⟨⟨oe,vs,(o3 a (Ne.symm nT)).trans he,hc,hd,h1,mv⟩,.inr ⟨T,_,_,rfl,nT,g3,Obj.data_mapFields oI _,by simp[z3]⟩⟩ (λb o e hb=>(o3 b λz=>hb (by rw[z])).trans e) λb o e=>?_;by_cases z:b=T;.rw[z];exact⟨_,g3⟩
  .exact⟨o,(o3 b z).trans e⟩
abbrev Cx.tr(X:Cx)(Z7:Yq)(xe:RC):Cx:={X with pn:=X.pn++Z7,xe:=xe}
theorem Ä.tr{σ:St}(I:Ä X Z7 σ H s)(xe:RC):Ä (X.tr Z7 xe) [] σ H s:=⟨⟨I.ok.mod,I.ok.kind,I.ok.glob,I.ok.blt,I.ok.above,I.ok.inj,I.ok.has,I.ok.cab,I.ok.hd,I.ok.frames,I.ok.stk,I.ok.exf,I.ok.bs,I.ok.bsz,I.ok.noex,I.ok.exfs,I.ok.funs,I.ok.frf⟩,I.os,I.bare,I.base,I.loc,I.cell,I.free,I.freeC,λp hp=>I.pin p (by simpa using hp),I.hok,I.len⟩
theorem Ä.untr{σ:St}(I:Ä (X.tr Z7 xe) gN σ H s):Ä X Z7 σ H s:=⟨⟨I.ok.mod,I.ok.kind,I.ok.glob,I.ok.blt,I.ok.above,I.ok.inj,I.ok.has,I.ok.cab,I.ok.hd,I.ok.frames,I.ok.stk,I.ok.exf,I.ok.bs,I.ok.bsz,I.ok.noex,I.ok.exfs,I.ok.funs,I.ok.frf⟩,I.os,I.bare,I.base,I.loc,I.cell,I.free,I.freeC,λp hp=>I.pin p (Zav _ hp),I.hok,I.len⟩
theorem Ä.drop{σ:St}(I:Ä X Z7 σ H s)(hN:X.N.Nodup)(hi:X.N[i]?=some x)(hl:∀(i:Nat)x v,X.N[i]?=some x->σ[i]?=some (some v)->Vis X.env.scope x->∃u,Ì v u/\Look X.env s.heap m x u)(hn:h'.Ns X.env.locals λy=>if y=x then u else m y)(sb:Heap.SameBut X.env.locals s.heap h'):Ä X Z7 (σ.set i none) H {s with heap:=h'}:=by
 have nL:∀b o,X.s₀.heap.get? b=some o->b≠X.env.locals:=λb o e=>ę (ĵ (ö e) I.ok.above);have cK:∀y c,X.env.cells.lookup y=some c->∀v,s.heap.IsCell c v->h'.IsCell c v:=λy c e v=>by rintro⟨o,ho,hd⟩;exact⟨o,(sb.2 c (I.cne y c e)).trans ho,hd⟩
 refine⟨I.ok,I.os,I.bare,⟨λb o e n hb hx=>(sb.2 b (nL b o e)).trans (I.base.keep b o e n hb hx),λb o e n hb hx=>?_,I.base.free,λb o e hx=>?_,I.base.tups,I.base.frzs,I.base.tbls⟩,⟨_,hn,λj y v e1 e2 e3=>?_⟩,λy c e=>?_,I.free,I.freeC,λp hp=>?_,λc o e=>?_,by rw[Za1];exact I.len⟩;.obtain⟨sl,e1⟩:=I.base.slot b o e n hb hx;exact⟨sl,(sb.2 b (nL b o e)).trans e1⟩
 .obtain⟨o',e1⟩:=I.base.there b o e hx;exact⟨o',(sb.2 b (nL b o e)).trans e1⟩
 .by_cases z:i=j
  .subst z;by_cases aE:i<σ.length;.rw[Zaw aE]at e2;cases e2
   .rw[Zan (by rw[Za1];lia)]at e2;cases e2
  .rw[List.getElem?_set_ne z]at e2;obtain⟨u',r,l⟩:=hl j y v e1 e2 e3;refine⟨u',r,?_⟩;rcases l with⟨k,l⟩|⟨k,c,e,w'⟩
   .refine .inl ⟨k,?_⟩;show(if y=x then u else m y)=some u';rw[Æ λq=>z ?_];.exact l
    .rw[q]at e1;obtain⟨h1,g1⟩:=ĩ.mp hi;obtain⟨h2,g2⟩:=ĩ.mp e1;exact(List.getElem_inj hN).mp (g1.trans g2.symm)
   .exact .inr ⟨k,c,e,cK y c e _ w'⟩
 .obtain⟨v,w'⟩:=I.cell y c e;exact⟨v,cK y c e v w'⟩
 .obtain⟨e,n,ne,r⟩:=I.pin p hp;exact⟨(sb.2 p.1 ne).trans e,n,ne,r⟩
 .refine(I.hok c o e).stay (λd v hd z=>(sb.2 d λq=>?_).trans z) (λ_ z=>z) λ_ _ z=>z;rcases hd with y|y;.rw[y]at q;rw[q,I.free]at e;cases e
  .rw[q,I.free]at y;cases y
theorem ji{σ:St}(I:Ä X Z7 σ H s)(hN:X.N.Nodup)(hi:X.N[i]?=some x)(hx:X.env.scope.names.lookup x=some .local)(h:∀s',Ä X Z7 (σ.set i none) H s'->Q () s'):wpAny (model X.prog X.w) A (do bindName X.env x .none;unbindBehindTheSuite X.env x pos) Q E s:=by
 have DH:i<X.N.length:=(ĩ.mp hi).1;refine Â (wpAny_bindName (jb (v:=.non) I hN hi (.inl hx) rfl (λs1 I1 _=>?_) (.inr hx)));obtain⟨m,hn,hl⟩:=id I1.loc;obtain⟨u,_,lk⟩:=hl i x .non hi (by rw[Zaw (by rw[I.len];exact DH)]) (.inl hx);have hv:m x=some u:=by
  rcases lk with⟨_,z⟩|⟨k,_⟩;.exact z
  .have cm:X.env.kindOf x=some .local:=hx;rw[cm]at k;rcases k with k|k<;>cases k
 refine wpAny_onRaise (wpAny_unbindName_local hx hn hv (by rw[I.ok.kind];rfl) λh' u' AE sb=>?_);have J:=I1.drop hN hi hl AE sb;rw[List.set_set]at J;exact h _ J
theorem Ä.back{σ:St}(I:Ä ((X.un A).wish xe) Z7 σ H s)(ok:X.Ok):Ä X Z7 σ H s:=⟨ok,I.os,I.bare,I.base,I.loc,I.cell,I.free,I.freeC,I.pin,I.hok,I.len⟩
def DQ(D:Ň)(i:Nat):Ň:={nx:=λσ H=>D.nx (σ.set i none) H,rt:=D.rt,ct:=λσ H=>D.ct (σ.set i none) H,bk:=λσ H=>D.bk (σ.set i none) H}
def NB(n i:Nat)(ok:Addr->Prop)(tb:(Addr->Addr->Hp->Prop)->TS)(th:TS):TS:=λD σ H=>tb (λa C H'=>ok C/\∀af:St,af.length=n->H' a=none->th (DQ D i) (af.set i (some (.ref a))) (upd H' a (.ext (ô a C)))) D σ H
theorem JT(hm:X.mg y=some (.ref Dc))(hg:Gl X y)(hN:X.N.Nodup)(hi:X.N[i]?=some n)(hl:X.env.scope.names.lookup n=some .local)(hx:X.ex=[])(hs:X.stack=X.env::X.outer)(aI:∀Z7 xe EX,vf (X.tr Z7 xe) EX->Ĵ (X.tr Z7 xe) body (tb EX))(yb:∀v,Ĵ ((X.un (X.A.mark v)).nox) (qS::jS) th)(fe:(y==("__debug__":Str))=false:=by decide):PS X (.Try body [.ExceptHandler (some (.Name y np)) (some n) (qS::jS) aS] [] [] pos) (NB X.N.length i (λC=>ť X.K C Dc) tb th):=by
 intro Z7 s σ H D I h;refine wpAny_Try_except ?_;have W:vf (X.tr Z7 λe s₁=>wpAny (model X.prog X.w) X.A (noteFrame e X.env) (λ_ s₂=>wpAny (model X.prog X.w) X.A (setFlight e none) (λ_ s₃=>wpAny (model X.prog X.w) X.A (handleBy e X.env [.ExceptHandler (some (.Name y np)) (some n) (qS::jS) aS]) (SP X Z7 D) X.xe s₃) X.xe s₂) X.xe s₁) (λa C H'=>ť X.K C Dc/\∀af:St,af.length=X.N.length->H' a=none->th (DQ D i) (af.set i (some (.ref a))) (upd H' a (.ext (ô a C)))):=by
  intro gN oC H1 s1 a C Sg I1 fl na fa ft hp q;obtain⟨Z,q⟩:=q;have J:=I1.untr;have kX:X.A.frames=some (X.env::X.outer):=by rw[<-hs];exact J.ok.frames
  have eW:s1.heap.FunFrames X.base (X.env::X.outer):=by rw[<-hs];exact J.stack
  have xS:X.env.frame=some X.env.locals:=by
   rcases J.ok.stk with z|z;.exact absurd (congrArg List.length (hs.symm.trans z)) Z2
   .exact z.2
  have iA:∀p∈X.pn++Z7,p.1≠a/\Sg≠.ref p.1:=λp iL=>hp p (Zav _ iL);show wpAny (model X.prog X.w) X.A (noteFrame (.ref a) X.env) _ X.xe s1;refine yO kX eW xS fl λh' T nT iF k1 k2 k3=>?_;have J2:Ä X Z7 oC H1 {s1 with heap:=h'}:=J.left (t':=s1.toks) hx fl na fa ft iA (by rw[hs];exact k1) k2 k3;have tf:∀T',Value.ref T=.ref T'->X.s₀.heap.get? T'=none/\H1 T'=none:=λT' z=>by cases z;exact⟨J.was hx nT,J.hok.no nT⟩
  have fq:∀p∈X.pn++Z7,p.1≠a/\Value.ref T≠.ref p.1:=λp iL=>⟨(iA p iL).1,λz=>by cases z;obtain⟨e,_⟩:=J.pin p iL;rw[nT]at e;cases e⟩;obtain⟨oe,vs,he,hc,hd,_,mv⟩:=iF.obj;have inst:ô a C h':=⟨oe,vs,he,hc,hd,mv⟩;refine wpAny_handleBy_cons (codeAny_handlers_test ?_) (by intro q;cases q);have J4:=J2.un' (X.A.mark (some (.ref a))) rfl;refine jc (X:=X.un (X.A.mark (some (.ref a)))) J4 hg hm ?_ fe;obtain⟨ox,ix⟩:=inst.inst;refine vo (s:={s1 with heap:=h'}) J2.kIn ix Z ?_;show codeAny _ _ (.handlers (.ref a) [.ExceptHandler none (some n) (qS::jS) aS] X.env) _ _;refine codeAny_handlers_suite_as ?_;refine Bs (s:={s1 with heap:=h'}) iF λh2 KO j1 j2=>?_;have J5:Ä X Z7 oC H1 {s1 with heap:=h2}:=J2.left (t':=s1.toks) hx iF na fa tf fq (λb o e _ hb _=>j1 b o e hb) (λb o e _ hb=>⟨o.slots,j1 b o e hb⟩) j2;obtain⟨Sh,KP,Si,wt,hd2,_,KS⟩:=KO.obj;have DJ:ô a C h2:=⟨Sh,KP,Si,wt,hd2,KS⟩;have Sj:a≠X.env.locals:=by obtain⟨m,⟨o,es,ep,ho,mw,_⟩,_⟩:=J5.loc;exact Ne.symm (KO.ne ho λvs q=>by rw[mw]at q;cases q).1
  have Sk:∀x c,X.env.cells.lookup x=some c->c≠a:=λx c e=>by obtain⟨v,o,ho,mw⟩:=J5.cell x c e;exact(KO.ne ho λvs q=>by rw[mw]at q;cases q).1
  have J6:=J5.track (o:=.ext (ô a C)) hx fa na Sj Sk (λp iL=>(iA p iL).1) (ô.ok DJ);refine jb (v:=.ref a) J6 hN hi (.inl hl) rfl (λs6 I6 _=>?_) (.inr hl);have hw:=q oC J.len fa;refine wpAny_mono (yb (some (.ref a)) Z7 s6 _ _ (DQ D i) ((I6.un' (X.A.mark (some (.ref a))) rfl).wish _) hw) (λf s7 sp=>?_) λe s' z=>z.elim;show wpAny (model X.prog X.w) X.A (do bindName X.env n .none;unbindBehindTheSuite X.env n aS) (λ_ s₃=>SP X Z7 D f s₃) X.xe s7;cases f with|ret u=>obtain⟨v,af,H',K',rv,qq⟩:=sp;exact ji (K'.back J.ok) hN hi hl λs' K2=>⟨v,_,H',K2,rv,qq⟩;|next=>obtain⟨af,H',K',qq⟩:=sp;exact ji (K'.back J.ok) hN hi hl λs' K2=>⟨_,H',K2,qq⟩;|brk=>obtain⟨af,H',K',qq⟩:=sp;exact ji (K'.back J.ok) hN hi hl λs' K2=>⟨_,H',K2,qq⟩;|cont=>obtain⟨af,H',K',qq⟩:=sp;exact ji (K'.back J.ok) hN hi hl λs' K2=>⟨_,H',K2,qq⟩
 have hb:=aI Z7 _ _ W [] s σ H D (I.tr _) h;refine wpAny_mono hb (λf s1 sp=>?_) λe s1 z=>z;cases f with|ret u=>obtain⟨v,af,H',K',rv,qq⟩:=sp;exact⟨v,af,H',K'.untr,rv,qq⟩;|next=>obtain⟨af,H',K',qq⟩:=sp;exact wpAny_execs_nil ⟨af,H',K'.untr,qq⟩;|brk=>obtain⟨af,H',K',qq⟩:=sp;exact⟨af,H',K'.untr,qq⟩;|cont=>obtain⟨af,H',K',qq⟩:=sp;exact⟨af,H',K'.untr,qq⟩
theorem vq(a b:Bool):MeetsSeq.EqGives (.bool a) (.bool b) (a==b):=λprog w A E s Q h=>PySem.SeqAt.EqAt.bool_bool (A:=A) (s:=s) a b prog w E Q h
def isB(k:Bool):Value->Bool|.bool n=>n==k|_=>false
theorem vz(bs:List Bool)(k:Bool):((bs.map Value.bool).toArray.toList.countP (isB k))=bs.count k:=by rw[List.toList_toArray,List.countP_map];rfl
inductive Β(x:V)(vs:List V)(H:Hp)(Q:VK):Prop|mk:∀l(bs:List Bool)k,(x=.ref l)->(vs=[.bl k])->(H l=some (.lst (bs.map V.bl)))->(Q (.int (bs.count k:Nat)) H)->Β  x vs H Q
def yP:V->List V->Hp->VK->Prop:=λx vs H Q=>Β  x vs H Q
section
theorem Bt:MtM X "list.count" yP:=by
 intro Z7 s σ H x vs v us Q I rx rv h;obtain⟨l,bs,k,rfl,rfl,hH,q⟩:=h;cases rx;obtain⟨u,rfl,ru⟩:=ò rv;cases(show u=Value.bool k from ru);obtain⟨z,Z8,n,r,hl,e⟩:=I.lstM hH;have ei:Z8=bs.map Value.bool:=il r;subst ei;refine call_meets F.slot_list_count ⟨_,e,rfl⟩ F.entry_list_count (F.args_list_count_2 _ _) (MeetsSeq.list_count l (bs.map Value.bool).toArray n (.bool k) (isB k) (λy hy=>?_)) ⟨e,?_⟩;.obtain⟨b,_,rfl⟩:=è.mp (show y∈bs.map Value.bool by simpa using hy);exact vq b k
 .refine⟨.int (bs.count k:Nat),H,I.tok _,⟨s.toks,?_⟩,q⟩;rw[vz]
inductive ſ(x:V)(vs:List V)(H:Hp)(Q:VK):Prop|mk:∀l(bs:List Bool)k(j:Nat),(x=.ref l)->(vs=[.bl k])->(H l=some (.lst (bs.map V.bl)))->(bs[j]?=some k)->((∀i,i<j->bs[i]?≠some k))->(Q (.int j) H)->ſ  x vs H Q
def yQ:V->List V->Hp->VK->Prop:=λx vs H Q=>ſ  x vs H Q
theorem Bu:MtM X "list.index" yQ:=by
 intro Z7 s σ H x vs v us Q I rx rv h;obtain⟨l,bs,k,j,rfl,rfl,hH,hj,ID,q⟩:=h;cases rx;obtain⟨u,rfl,ru⟩:=ò rv;cases(show u=Value.bool k from ru);obtain⟨z,Z8,n,r,hl,e⟩:=I.lstM hH;have ei:Z8=bs.map Value.bool:=il r;subst ei;rw[Ð]at z;rw[sizeLine_eq]at z;have Sl:=(ĩ.mp hj).1;have gt:∀m(hm:m<(bs.map Value.bool).toArray.size),(bs.map Value.bool).toArray[m]=Value.bool (bs[m]'(by simpa using hm)):=λm hm=>by simp
 refine call_meets F.slot_list_index ⟨_,e,rfl⟩ F.entry_list_index (F.args_list_index_2 _ _) (MeetsSeq.list_index l (bs.map Value.bool).toArray n (.bool k) (isB k) (λy hy=>?_) j (by simpa using Sl) Z1 ?_ λm hm aE=>?_) ⟨e,⟨.int j,H,I.tok _,⟨_,rfl⟩,q⟩⟩;.obtain⟨b,_,rfl⟩:=è.mp (show y∈bs.map Value.bool by simpa using hy);exact vq b k
 .rw[gt,(ĩ.mp hj).2];exact beq_self_eq_true k
 .rw[gt];refine beq_false_of_ne λc=>ID m aE ?_;rw[Ö (by simpa using hm),c]
end
def er(H:Hp)(cs:Yq):Hp:=λb=>if(cs.lookup b).isSome=true then none else H b
def fz(H:Hp)(cs:Yq):Hp:=λb=>match cs.lookup b with|some o=>some (.frz o (.ext λ_=>True))|none=>H b
section
theorem qT(e:cs.lookup b=some o):fz H cs b=some (.frz o (.ext λ_=>True)):=by unfold fz;rw[e]
theorem dM(e:cs.lookup b=none):fz H cs b=H b:=by unfold fz;rw[e]
theorem km(e:cs.lookup b=some o):er H cs b=none:=by unfold er;rw[e];rfl
theorem fU(e:cs.lookup b=none):er H cs b=H b:=by unfold er;rw[e];rfl
def Ζ(H:Hp)(h:Heap)(fs:þ)(cs:Yq):Prop:=∀b o,cs.lookup b=some o->h.get? b=some o/\H b=none/\b∉fs
theorem Ζ.no(L:Ζ H h fs cs)(e:H b=some u):cs.lookup b=none:=by cases q:cs.lookup b with|none=>rfl;|some o=>rw[(L b o q).2.1]at e;cases e
theorem û.fz(x:û P w H h)(L:Ζ H h fs cs):û P w (L2.fz H cs) h:=λb u e=>by cases q:cs.lookup b with|some o=>rw[qT q]at e;cases e;have g:=(L b o q).1;exact⟨g,trivial,⟨o,g⟩,λ_ _ _ _=>trivial⟩;|none=>rw[dM q]at e;exact(x b u e).stay (λ_ _ _ z=>z) (λc z=>by rw[dM (L.no z)];exact z) λc xs z=>by rw[dM (L.no z)];exact z
theorem û.er(x:û P w H' h')(fr:∀b o,cs.lookup b=some o->H' b=some (.frz o (.ext λ_=>True))):û P w (L2.er H' cs) h':=λb u e=>by cases q:cs.lookup b with|some o=>rw[km q]at e;cases e;|none=>
  rw[fU q]at e;have no:∀c u,(∀o,u≠HO.frz o (.ext λ_=>True))->H' c=some u->cs.lookup c=none:=λc u hu z=>by cases q:cs.lookup c with|none=>rfl;|some o=>rw[fr c o q]at z;cases z;exact absurd rfl (hu o)
  exact(x b u e).stay (λ_ _ _ z=>z) (λc z=>by rw[fU (no c _ (λo y=>by cases y) z)];exact z) λc xs z=>by rw[fU (no c _ (λo y=>by cases y) z)];exact z
theorem Un.held(u:Un fs [] (fz H cs) H' h h')(ok:û P w H' h')(L:Ζ H h fs cs):Un fs [] H (er H' cs) h h'/\û P w (er H' cs) h'/\∀b o,cs.lookup b=some o->h'.get? b=some o:=by
 have fr:∀b o,cs.lookup b=some o->H' b=some (.frz o (.ext λ_=>True)):=λb o q=>u.frzs b o _ (qT q);have kp:∀b o,cs.lookup b=some o->h'.get? b=some o:=λb o q=>(ok b _ (fr b o q)).1;have no:∀c v,(∀o,v≠HO.frz o (.ext λ_=>True))->H' c=some v->cs.lookup c=none:=λc v hv z=>by cases q:cs.lookup c with|none=>rfl;|some o=>rw[fr c o q]at z;cases z;exact absurd rfl (hv o)
 refine⟨⟨λb o e n hb hx=>?_,λb o e n hb hx=>?_,λb o e n hx=>?_,u.there,λb xs e=>?_,λb o v e=>?_,λb ps e=>?_⟩,ok.er fr,kp⟩;.cases q:cs.lookup b with|some o'=>have:=(L b o' q).1;rw[e]at this;cases this;exact kp b o q;|none=>exact u.keep b o e (by rw[dM q];exact n) hb hx
 .cases q:cs.lookup b with|some o'=>exact absurd hb (L b o' q).2.2;|none=>exact u.slot b o e (by rw[dM q];exact n) hb hx
 .cases q:cs.lookup b with|some o'=>exact km q;|none=>rw[fU q];exact u.free b o e (by rw[dM q];exact n) hx
 .have z:=u.tups b xs (by rw[dM (L.no e)];exact e);rw[fU (no b _ (λo y=>by cases y) z)];exact z
 .have z:=u.frzs b o v (by rw[dM (L.no e)];exact e);rw[fU (L.no e)];exact z
 .obtain⟨m,z⟩:=u.tbls b ps (by rw[dM (L.no e)];exact e);exact⟨m,by rw[fU (L.no e)];exact z⟩
theorem Un.loose(u:Un fs [] (er H cs) H1 h h')(ok:û P w H1 h')(DL:û P w H h)(fr:∀b o,cs.lookup b=some o->H b=some (.frz o (.ext λ_=>True))/\b∉fs):Un fs [] H (fz H1 cs) h h'/\û P w (fz H1 cs) h':=by
 have AM:∀b o,cs.lookup b=some o->h.get? b=some o:=λb o q=>(DL b _ (fr b o q).1).1;have kp:∀b o,cs.lookup b=some o->h'.get? b=some o:=λb o q=>u.keep b o (AM b o q) (km q) (fr b o q).2 Z2;have nn:∀b o,cs.lookup b=some o->H1 b=none:=λb o q=>u.free b o (AM b o q) (km q) Z2;have no:∀c v,(∀o,v≠HO.frz o (.ext λ_=>True))->H c=some v->cs.lookup c=none:=λc v hv z=>by cases q:cs.lookup c with|none=>rfl;|some o=>rw[(fr c o q).1]at z;cases z;exact absurd rfl (hv o)
 refine⟨⟨λb o e n hb hx=>?_,λb o e n hb hx=>?_,λb o e n hx=>?_,u.there,λb xs e=>?_,λb o v e=>?_,λb ps e=>?_⟩,ok.fz (fs:=fs) λb o q=>⟨kp b o q,nn b o q,(fr b o q).2⟩⟩;.cases q:cs.lookup b with|some o'=>rw[(fr b o' q).1]at n;cases n;|none=>exact u.keep b o e (by rw[fU q];exact n) hb hx
 .cases q:cs.lookup b with|some o'=>exact absurd hb (fr b o' q).2;|none=>exact u.slot b o e (by rw[fU q];exact n) hb hx
 .cases q:cs.lookup b with|some o'=>rw[(fr b o' q).1]at n;cases n;|none=>rw[dM q];exact u.free b o e (by rw[fU q];exact n) hx
 .have q:=no b _ (λo y=>by cases y) e;rw[dM q];exact u.tups b xs (by rw[fU q];exact e)
 .cases q:cs.lookup b with|some o'=>have z:=(fr b o' q).1;rw[e]at z;cases z;exact qT q;|none=>rw[dM q];exact u.frzs b o v (by rw[fU q];exact e)
 .have q:=no b _ (λo y=>by cases y) e;obtain⟨m,z⟩:=u.tbls b ps (by rw[fU q];exact e);exact⟨m,by rw[dM q];exact z⟩
end
def qu(fd:FuncData)(fl L:Addr):Env:=newEnv fd.scope L fd.globals fd.closure (fd.qualname++".<locals>.") (some fl) fd.code none fd.builtins
def cxL(P:Program)(w:World)(K:Frag)(mg:RG)(base:Heap)(N:ç)(fd:FuncData)(fl:Addr)(A:Around)(outer:List Env)(s:Shared)(H:Hp)(E:XK):Cx where prog:=P;w:=w;K:=K;mg:=mg;base:=base;A:=A.deeper (qu fd fl s.heap.objs.size);N:=N;s₀:=s;H₀:=H;env:=qu fd fl s.heap.objs.size;outer:=outer;stack:=qu fd fl s.heap.objs.size::outer;ex:=[];calm:=true;fn:=λ_=>false;pn:=[];xe:=λe s'=>wpAny (model P w) (A.deeper (qu fd fl s.heap.objs.size)) (leaving (qu fd fl s.heap.objs.size) e) (λ_ kR=>Ŧ P w outer H s E e kR) (λe' kR=>Ŧ P w outer H s E e' kR) s'
structure ń(fd:FuncData)(body:Expr)(N:ç):Prop where
 bd:fd.body=.expr body
 gl:fd.globals=mainGlobals
 bl:fd.builtins=builtinsNs
 kd:fd.scope.kind=.function
 co:fd.scope.isCoroutine=false
 ge:fd.scope.isGenerator=false
 fr:∀p∈fd.scope.names,p.2≠.cell
 fl:∀x,fd.scope.names.lookup x=some .free->∃c,fd.closure.lookup x=some c
 nd:∀x y c,fd.closure.lookup x=some c->fd.closure.lookup y=some c->x=y
 ba:bindArgs fd ⟨[],[]⟩=pure []nm:∀x∈N,fd.scope.names.lookup x=some .free
theorem Ha{K:Frag}{E:XK}{body:Expr}{vs:List V}{h1:Heap}{tk:Nat}(Z:ń fd body N)(hd:A.handled=none)(e0:ķ P w K mg base A outer s H)(hn:h1.Ns s.heap.objs.size λx=>([]:List (Str×Value)).reverse.lookup x)(hk:∀b o,s.heap.get? b=some o->h1.get? b=some o)(cell:∀x c,fd.closure.lookup x=some c->H c=none/\∃v,s.heap.IsCell c v)(val:∀(i:Nat)x v,N[i]?=some x->vs[i]?=some v->∃c u,fd.closure.lookup x=some c/\Ì v u/\s.heap.IsCell c (some u))(hl:vs.length=N.length):Ä (cxL P w K mg base N fd fl A outer s H E) [] (vs.map some) H {s with heap:=h1,toks:=tk}:=by
 have ck:∀c v,s.heap.IsCell c v->h1.IsCell c v:=λc v=>by rintro⟨o,ho,z⟩;exact⟨o,hk c o ho,z⟩
 refine⟨⟨e0.mod,Z.kd,Z.gl,Z.bl,Ø _,Z.nd,λx hx=>?_,λx c z=>(by cases z),λ_=>hd,Around.frames_deeper e0.frames,.inr ⟨rfl,rfl⟩,λb z=>absurd (show b∈([]:þ)from z) Z2,e0.bs,e0.bsz,λb _ _ z=>absurd (show b∈([]:þ)from z) Z2,λb z=>absurd (show b∈([]:þ)from z) Z2,e0.funs,e0.frf⟩,rfl,e0.bare,Un.kept hk,⟨_,hn,λi x v e1 e2 e3=>?_⟩,λx c e=>?_,e0.hok.fresh (Ø _),λx c e=>(cell x c e).1,λp hp=>absurd (show p∈([]:Yq)from hp) Z2,e0.hok.kept hk,by rw[Ð];exact hl⟩
 .rcases hx with hx|hx;.exact absurd rfl (Z.fr _ (PySem.mem_of_lookup (hx)))
  .exact Z.fl x hx
 .rw[ý]at e2;cases q:vs[i]? with|none=>rw[q]at e2;cases e2;|some v'=>
   rw[q]at e2;have e2:v'=v:=by simpa using e2
   subst e2;obtain⟨c,u,ec,r,z⟩:=val i x v' e1 q;exact⟨u,r,.inr ⟨.inr (Z.nm x (Κ e1)),c,ec,ck c _ z⟩⟩
 .obtain⟨_,v,z⟩:=cell x c e;exact⟨v,ck c v z⟩
theorem vA{K:Frag}:vf (cxL P w K mg base N fd fl A outer s H E) λa C H'=>E (.ref a) (some C) H':=by
 intro Z7 σ H' s' a C tb I KU na fa ft _ q;have eW:s'.heap.FunFrames base (qu fd fl s.heap.objs.size::outer):=I.stack;have kX:(A.deeper (qu fd fl s.heap.objs.size)).frames=some (qu fd fl s.heap.objs.size::outer):=I.ok.frames;have xS:(qu fd fl s.heap.objs.size).frame=some s.heap.objs.size:=rfl;have ub:Un (ĉ outer) [] H H' s.heap s'.heap:=I.base;have na:s.heap.get? a=none:=na;have ft:∀T,tb=.ref T->s.heap.get? T=none/\H' T=none:=ft;refine vd kX eW xS KU λh' T nT iF k1 k2 k3=>?_;have apart:∀b o,s.heap.get? b=some o->b≠a/\tb≠.ref b:=λb o e=>⟨λz=>(by rw[z,na]at e;cases e),λz=>(by rw[(ft b z).1]at e;cases e)⟩;have KL:∀b o,s.heap.get? b=some o->b∉ĉ outer->b∉ĉ (qu fd fl s.heap.objs.size::outer):=λb o e hn hm=>by
  unfold ĉ at hm;rw[Za3,xS]at hm;rcases Ġ.mp hm with z|z;.exact absurd (ö e) (by rw[z];exact Θ _)
  .exact hn z
 refine⟨a,C,H',T,rfl,I.os,I.bare,⟨λb o e n hb _=>?_,λb o e n hb _=>?_,ub.free,λb o e hx=>?_,ub.tups,ub.frzs,ub.tbls⟩,λc o e=>?_,na,?_,fa,I.hok.no nT,iF,q⟩;.exact k1 b o (ub.keep b o e n hb Z2) (apart b o e).1 (apart b o e).2 (KL b o e hb)
 .obtain⟨sl,e1⟩:=ub.slot b o e n hb Z2;obtain⟨kz,e2⟩:=k2 b _ e1 (apart b o e).1 (apart b o e).2;exact⟨kz,e2⟩
 .obtain⟨o',e1⟩:=ub.there b o e hx;exact k3 b o' e1
 .refine(I.hok c o e).stay (λd v hd z=>?_) (λ_ z=>z) λ_ _ z=>z;have DD:∃o',H' d=some o':=by grind
  obtain⟨o',eo⟩:=DD;refine k1 d v z (λy=>(by rw[y,fa]at eo;cases eo)) (λy=>(by rw[(ft d y).2]at eo;cases eo)) λhm=>?_;rw[I.stkFree d hm]at eo;cases eo
 .exact I.was rfl nT
abbrev ϳ(cs:Yq)(H:Hp):Prop:=∀b o,cs.lookup b=some o->H b=none
theorem Ŧ.loose(DL:û P w H s.heap)(fr:∀b o,cs.lookup b=some o->H b=some (.frz o (.ext λ_=>True))/\b∉ĉ outer)(x:Ŧ P w outer (er H cs) s (λe C H1=>ϳ cs H1->E e C (fz H1 cs)) e s'):Ŧ P w outer H s E e s':=by
 obtain⟨a,C,H1,T,rfl,os,bare,un,ok,na,nT,fa,fT,KU,q⟩:=x;obtain⟨u,k⟩:=un.loose ok DL fr;have no:∀b,s.heap.get? b=none->cs.lookup b=none:=λb z=>by cases y:cs.lookup b with|none=>rfl;|some o=>have:=(DL b _ (fr b o y).1).1;rw[z]at this;cases this
 exact⟨a,C,_,T,rfl,os,bare,u,k,na,nT,by rw[dM (no a na)];exact fa,by rw[dM (no T nT)];exact fT,KU,q λb o z=>un.free b o (DL b _ (fr b o z).1).1 (km z) Z2⟩
theorem Hb{K:Frag}{body:Expr}{vs:List V}{cs:Yq}{te:TE}{k:Nat}(Z:ń fd body N)(hr:ä k A)(e0:ķ P w K mg base A outer s H)(DM:s.heap.get? fl=some ob)(mw:ob.data=.func fd)(eB:s.heap.CodeRec fd.code fd.qualname)(fr:∀b o,cs.lookup b=some o->H b=some (.frz o (.ext λ_=>True))/\b∉ĉ outer)(cell:∀x c,fd.closure.lookup x=some c->∃o v,cs.lookup c=some o/\o.data=.cell v)(val:∀(i:Nat)x v,N[i]?=some x->vs[i]?=some v->∃c u o,fd.closure.lookup x=some c/\Ì v u/\cs.lookup c=some o/\o.data=.cell (some u))(hl:vs.length=N.length)(kC:PE (cxL P w K mg base N fd fl A outer s (er H cs) (λe C H1=>ϳ cs H1->E e C (fz H1 cs))) body te)(h:te (vs.map some) (er H cs) λv H1=>ϳ cs H1->Q v (fz H1 cs)):codeAny (model P w) A (.call (.ref fl) ⟨[],[]⟩) (CR (Ŧ P w) outer P w H s Q E) s:=by
 have AM:∀b o,cs.lookup b=some o->s.heap.get? b=some o:=λb o q=>(e0.hok b _ (fr b o q).1).1;have OD:∀b,H b=none->er H cs b=none:=λb z=>by cases q:cs.lookup b with|some o=>exact km q;|none=>rw[fU q];exact z
 have e1:ķ P w K mg base A outer s (er H cs):=⟨e0.frames,e0.mod,λb o e=>⟨(e0.bs b o e).1,OD b (e0.bs b o e).2⟩,e0.bsz,e0.funs,λb hb=>OD b (e0.frf b hb),e0.hok.er λb o q=>(fr b o q).1,e0.bare⟩;refine kla_callFunE (by have:=hr.dp;lia) DM mw Z.co Z.ge Z.bd eB ?_;rw[Z.ba];refine Ô (wpAny_newFunctionEnv Z.fr (λx hx=>absurd hx Z2) (λh1 hn sb=>?_) Z.kd);have hk:∀b o,s.heap.get? b=some o->h1.get? b=some o:=λb o e=>(sb.2 b (ę (ö e))).trans (ÿ _ e);refine⟨(e0.mod.nolimit.keeps λb o e=>(e0.bs b o e).1).keeps hk,?_⟩;have I:=Ha (fl:=fl) (E:=λe C H1=>ϳ cs H1->E e C (fz H1 cs)) (tk:=s.toks+0) Z hr.hd e1 hn hk (λx c e=>(let⟨o,v,q,d⟩:=cell x c e;⟨km q,v,o,AM c o q,d⟩)) (λi x v e1 e2=>(let⟨c,u,o,a1,a2,a3,a4⟩:=val i x v e1 e2;⟨c,u,a1,a2,o,AM c o a3,a4⟩)) hl;refine kla_codeExpr (wpAny_mono (kC [] _ _ _ _ I h) (λu s' hv=>?_) λe s' hx=>?_);.obtain⟨v,H1,J,r,q⟩:=hv;obtain⟨un,k⟩:=Un.loose (fs:=ĉ outer) J.base J.hok e0.hok fr;exact⟨v,fz H1 cs,J.os,J.bare,un,k,r,q λb o z=>Un.free (fs:=ĉ outer) (ex:=[]) J.base b o (AM b o z) (km z) Z2⟩
 .exact wpAny_mono hx (λ_ kR z=>Ŧ.loose e0.hok fr z) λe' kR z=>Ŧ.loose e0.hok fr z
abbrev held(o:Obj):HO:=.frz o (.ext λ_=>True)
structure Ť(H:Hp)(fl:Addr)(fd:FuncData):Prop where
 ob:∃o,H fl=some (held o)/\o.data=.func fd
 cd:∃c oc vs t,fd.code=.ref c/\H c=some (held oc)/\oc.data=.fields vs/\vs[1]?=some (.str fd.qualname t)
def JV(X:Cx)(i:Nat)(E:XK):TE:=λσ H Q=>∃(fl:Addr)(fd:FuncData)(body:Expr)(N:ç)(vs:List V)(cs:Yq)(te:TE),σ[i]?=some (some (.ref fl))/\Ť H fl fd/\ń fd body N/\(∀b o,cs.lookup b=some o->H b=some (held o))/\(∀x c,fd.closure.lookup x=some c->∃o v,cs.lookup c=some o/\o.data=.cell v)/\(∀(i:Nat)(x:Str)(v:V),N[i]?=some x->vs[i]?=some v->∃c u o,fd.closure.lookup x=some c/\Ì v u/\cs.lookup c=some o/\o.data=.cell (some u))/\vs.length=N.length/\(∀s,PE (cxL X.prog X.w X.K X.mg X.base N fd fl X.A X.stack s (er H cs) (λe C H1=>ϳ cs H1->E e C (fz H1 cs))) body te)/\te (vs.map some) (er H cs) λv H1=>ϳ cs H1->Q v (fz H1 cs)
theorem JW{p pos:Pos}(hr:ä k X.A)(hN:X.N[i]?=some x)(hv:Vis X.env.scope x)(W:vf X λa C H=>E (.ref a) (some C) H)(hx:X.ex=[])(hd:ū x:=by decide)(eB:(x==("__classdict__":Str))=false:=by decide):PE X (.Call (.Name x p) [] [] pos) (JV X i E):=by
 intro Z7 s σ H Q I h;obtain⟨fl,fd,body,N,vs,cs,te,KW,L,Z,fr,cell,val,hl,kC,q⟩:=h;obtain⟨o,ho,mw⟩:=L.ob;have DM:s.heap.get? fl=some o:=(I.hok fl _ ho).1;refine wpAny_Call_Name_kw (Õ (wA (pos:=p) hN hv hd eB Z7 s σ H (λv H'=>v=.ref fl/\H'=H) I ⟨_,KW,rfl,rfl⟩) λf s1=>?_);rintro⟨v,H1,I1,r1,z1,z2⟩;subst z1 z2;cases(show f=Value.ref fl from r1);have DM:s1.heap.get? fl=some o:=(I1.hok fl _ ho).1;refine callWith_F0 (by obtain⟨oc,od,dt,sl⟩:=o;exact⟨oc,od,fd,sl,by rw[DM];exact congrArg some (by rw[show dt=Data.func fd from mw])⟩) ?_;obtain⟨c,oc,ws,t,ec,hc,K0,hw⟩:=L.cd;have Sn:s1.heap.CodeRec fd.code fd.qualname:=⟨c,oc,ws,t,ec,(I1.hok c _ hc).1,K0,hw⟩;refine wpAny_call (codeAny_mono (Hb (k:=k) Z hr I1.env0 DM mw Sn (λb ob e=>⟨fr b ob e,λhm=>?_⟩) cell val hl (kC s1) q) λr s' hq=>?_);.have:=I1.stkFree b hm;rw[fr b ob e]at this;cases this
 .cases r with|error e=>exact IK W hx Z7 σ _ s1 e s' I1 hq;|ok iF=>cases iF with|ret u=>exact I1.after hq;|next=>exact False.elim hq;|brk=>exact False.elim hq;|cont=>exact False.elim hq
def DR(H:Hp)(c:Addr)(q:Str):Prop:=∃oc vs t,H c=some (held oc)/\oc.data=.fields vs/\vs[1]?=some (.str q t)
def õ(H:Hp)(P:Addr)(q:Str):Prop:=∃ps,H P=some (.tbl ps)/\TriplesOk ps.toList/\∀l,codeAmong l ps.toList=none\/∃c,codeAmong l ps.toList=some (.ref c)/\DR H c q
theorem õ.keep(x:õ H P q)(kp:∀ps,H P=some (.tbl ps)->H' P=some (.tbl ps))(kh:∀b o,H b=some (held o)->H' b=some (held o)):õ H' P q:=by
 obtain⟨ps,e,t,h⟩:=x;refine⟨ps,kp ps e,t,λl=>?_⟩;rcases h l with z|⟨c,z,oc,vs,t',y,r⟩;.exact .inl z
 .exact .inr ⟨c,z,oc,vs,t',kh _ _ y,r⟩
theorem õ.same(x:õ H P q)(s:À H H'):õ H' P q:=x.keep (λ_=>s _ _) λ_ _=>s _ _
theorem Bv:∀a,TriplesOk a->codeAmong l (a++r)=(codeAmong l a).orElse λ_=>codeAmong l r:=λa h=>by fun_induction TriplesOk a with
 |case1=>simp[codeAmong];|case2 x t y u z rest ih=>
  simp only[List.cons_append,codeAmong];split;.rfl
  .exact ih h;|case3 a h1 h2=>exact h.elim
section
variable{T c fl:Addr}
theorem kE(e:h.get? b=some o):Ñ P w H h b (held o):=⟨e,trivial,⟨o,e⟩,λ_ _ _ _=>trivial⟩
theorem M8(hT:H T=some (.tbl ps))(ok:û P w H h)(k:∀b o,b≠T->h.get? b=some o->h'.get? b=some o)(hp:h'.get? T=some (tabObj (ps++more)))(hc:h.objs.size<=c)(hf:h.objs.size<=fl)(YF:c≠fl)(ec:h'.get? c=some oc)(ef:h'.get? fl=some ob):Un fs [] H (upd (upd (upd H T (.tbl (ps++more))) c (held oc)) fl (held ob)) h h'/\û P w (upd (upd (upd H T (.tbl (ps++more))) c (held oc)) fl (held ob)) h':=by
 have nc:=ok.fresh hc;have nf:=ok.fresh hf;have lt:∀b u,H b=some u->b≠c/\b≠fl:=λb u e=>⟨az e nc,az e nf⟩;have kG:∀b u,b≠T->H b=some u->upd (upd (upd H T (.tbl (ps++more))) c (held oc)) fl (held ob) b=some u:=λb u n e=>by rw[aq (lt b u e).2,aq (lt b u e).1,aq n];exact e
 have atT:upd (upd (upd H T (.tbl (ps++more))) c (held oc)) fl (held ob) T=some (.tbl (ps++more)):=by rw[aq (lt T _ hT).2,aq (lt T _ hT).1,aj]
 have old:∀b o,h.get? b=some o->b≠c/\b≠fl:=λb o e=>⟨ę (ĵ (ö e) hc),ę (ĵ (ö e) hf)⟩;refine⟨⟨λb o e n _ _=>k b o (λz=>(by rw[z,hT]at n;cases n)) e,λb o e n _ _=>⟨o.slots,k b o (λz=>(by rw[z,hT]at n;cases n)) e⟩,λb o e n _=>?_,λb o e _=>?_,λb xs e=>kG b _ (λz=>(by rw[z,hT]at e;cases e)) e,λb o u e=>kG b _ (λz=>(by rw[z,hT]at e;cases e)) e,λb qs e=>?_⟩,λb u e=>?_⟩;.rw[aq (old b o e).2,aq (old b o e).1,aq λz=>(by rw[z,hT]at n;cases n)];exact n
 .by_cases z:b=T;.rw[z];exact⟨_,hp⟩
  .exact⟨o,k b o z e⟩
 .by_cases z:b=T;.subst z;rw[hT]at e;cases e;exact⟨more,atT⟩
  .exact⟨#[],by rw[Array.append_empty];exact kG b _ z e⟩
 .by_cases z1:b=fl;.subst z1;rw[aj]at e;cases e;exact kE ef
  .rw[aq z1]at e;by_cases z2:b=c;.subst z2;rw[aj]at e;cases e;exact kE ec
   .rw[aq z2]at e;by_cases z3:b=T;.subst z3;rw[aj]at e;cases e;exact hp
    .rw[aq z3]at e;refine(ok b u e).stay (λd v hd q=>k d v (λy=>?_) q) (λd q=>kG d _ (λy=>(by rw[y,hT]at q;cases q)) q) λd xs q=>kG d _ (λy=>(by rw[y,hT]at q;cases q)) q;subst y;rcases hd with y|y;.exact z3 y.symm
     .rw[hT]at y;cases y
end
def tMk(T:Addr)(q:Str)(params:Arguments)(body:Expr)(scope:Scope)(cl:List (Str×Addr))(N:ç):TE:=λ_ H Q=>õ H T q/\∀fl pm cv ct H1,(∀b o,b≠T->H b=some o->H1 b=some o)->õ H1 T q->H fl=none->Ť H1 fl (kla_fn "<lambda>" q params body scope cl pm cv ct)->ń (kla_fn "<lambda>" q params body scope cl pm cv ct) body N->Q (.ref fl) H1
structure Z0r(X:Cx)(params:Arguments)(body:Expr)(scope:Scope)(N:ç):Prop where
 df:defaultsOf params X.env=([],[])kd:scope.kind=.function
 co:scope.isCoroutine=false
 ge:scope.isGenerator=false
 fr:∀p∈scope.names,p.2≠.cell
 fl:∀p∈scope.names,p.2=NameKind.free->X.env.kindOf p.1=some .cell\/X.env.kindOf p.1=some .free
 ba:∀qual cl pm cv ct,bindArgs (kla_fn "<lambda>" qual params body scope cl pm cv ct) ⟨[],[]⟩=pure []nm:∀x∈N,scope.names.lookup x=some .free
theorem DW(Z:Z0r X params body scope N)(fw:X.env.code=.ref cc)(hC:CodeHd X.base cc T)(hB:X.base.BuiltinsAt X.mg T):PE X (.Lambda params body scope bP) (tMk T (X.env.qual++"<lambda>") params body scope (cQ X.env.cells scope.names []) N):=by
 intro Z7 s σ H Q I h;obtain⟨⟨ps,hT,tr,am⟩,q⟩:=h;have hs:∀p∈scope.names,p.2=NameKind.free->(X.env.cells.lookup p.1).isSome=true:=λp hp e=>by obtain⟨c,z⟩:=I.ok.has p.1 (Z.fl p hp e);rw[z];rfl
 have lam:∀qual pm cv ct,ń (kla_fn "<lambda>" qual params body scope (cQ X.env.cells scope.names []) pm cv ct) body N:=λqual pm cv ct=>⟨rfl,rfl,rfl,Z.kd,Z.co,Z.ge,Z.fr,λx hx=>jM _ _ (.inl ⟨_,PySem.mem_of_lookup hx,rfl⟩),λx y c h1 h2=>by
   rcases iQ _ _ hs h1 with z|z;.cases z
   .rcases iQ _ _ hs h2 with z2|z2;.cases z2
    .exact I.ok.inj x y c z z2,Z.ba _ _ _ _ _,Z.nm⟩;have hg:=I.mod.glob.keeps I.bk;have hP:s.heap.get? T=some (tabObj ps):=I.hok T _ hT;have Sr:mainGlobals≠T:=λz=>by obtain⟨o,es,ep,e,_⟩:=I.mod.glob;have:=(I.bs _ _ e).2;rw[z,hT]at this;cases this
 have hb:s.heap.BuiltinsAt X.mg T:=by obtain⟨bm,o,b1,b2,b3,b4,b5,r⟩:=hB;exact⟨bm,o,b1,b2,b3,b4,I.bk _ _ b5,r⟩
 refine kla_eval Z.df ?_;rcases am bP with hn|⟨c,hf,oc,vs,t,hc,hd,hv⟩
 .refine kla_makeFunction (mg:=X.mg) (nj hs) I.ok.glob hg fw (hC.keeps I.bk) hP tr hn Sr hb λc' qV h' tk hx kF aE Lc DO=>?_;obtain⟨c₂,oc,vs,t,e2,E3,hd,hv⟩:=Lc;cases e2;obtain⟨un,ok⟩:=M8 (P:=X.prog) (w:=X.w) (fs:=ĉ X.stack) (h':=h'.push (kla_obj "<lambda>" (X.env.qual++"<lambda>") params body scope (cQ X.env.cells scope.names []) ((X.mg "__name__").getD .none) c' qV)) (fl:=h'.objs.size) hT I.hok (λb o n e=>ÿ _ (hx b o n e)) (ÿ _ DO) kF (ĺ kF (Za9 aE)) (ę aE) (ÿ _ E3) (Ħ _ rfl);have J:=I.call (ch:=[]) (g':=s.gens) (t':=tk) (d':=s.drawn) un ok I.bare λb z=>absurd z Z2;have nc:H c'=none:=I.hok.fresh kF;have nf:H h'.objs.size=none:=I.hok.fresh (ĺ kF (Za9 aE));have kp:∀b o,b≠T->H b=some o->upd (upd (upd H T (.tbl (ps++#[rawInt bP.line,rawInt bP.col,.ref c']))) c' (held oc)) h'.objs.size (held (kla_obj "<lambda>" (X.env.qual++"<lambda>") params body scope (cQ X.env.cells scope.names []) ((X.mg "__name__").getD .none) c' qV)) b=some o:=λb o n e=>by rw[aq (az e nf),aq (az e nc),aq n];exact e
  have cd:DR (upd (upd (upd H T (.tbl (ps++#[rawInt bP.line,rawInt bP.col,.ref c']))) c' (held oc)) h'.objs.size (held (kla_obj "<lambda>" (X.env.qual++"<lambda>") params body scope (cQ X.env.cells scope.names []) ((X.mg "__name__").getD .none) c' qV))) c' (X.env.qual++"<lambda>"):=⟨oc,vs,t,by rw[aq (ę aE),aj],hd,hv⟩;refine⟨.ref h'.objs.size,_,J,rfl,q _ ((X.mg "__name__").getD .none) (.ref c') qV _ kp ⟨ps++#[rawInt bP.line,rawInt bP.col,.ref c'],?_,?_,λl=>?_⟩ nf ⟨⟨_,aj,rfl⟩,?_⟩ (lam _ _ _ _)⟩;.rw[aq (az hT nf),aq (az hT nc),aj]
  .rw[Ϡ];exact TriplesOk_snoc _ _ _ _ tr
  .rw[Ϡ,Bv _ tr];rcases am l with z|⟨c,z,Ss,KP,t2,y,r⟩
   .rw[z];show codeAmong l [rawInt bP.line,rawInt bP.col,.ref c']=none\/_;simp only[codeAmong,rawInt];by_cases e:((bP.line:Int)==(l.line:Int)&&(bP.col:Int)==(l.col:Int))=true;.refine .inr ⟨c',?_,cd⟩;show codeAmong l [rawInt bP.line,rawInt bP.col,.ref c']=some (.ref c');simp only[codeAmong,rawInt];rw[È e]
    .refine .inl ?_;rw[Æ e]
   .rw[z];exact .inr ⟨c,rfl,Ss,KP,t2,kp _ _ (λw'=>by rw[w',hT]at y;cases y) y,r⟩
  .obtain⟨Su,Sv,t3,a1,a2,a3⟩:=cd;exact⟨c',Su,Sv,t3,rfl,a1,a2,a3⟩
 .refine kla_makeFunctionHit (mg:=X.mg) (nj hs) I.ok.glob hg fw (hC.keeps I.bk) hP tr hf hb λqV h' tk hk hsz=>?_;have J:=I.laid (a:=h'.objs.size) (o:=held (kla_obj "<lambda>" (X.env.qual++"<lambda>") params body scope (cQ X.env.cells scope.names []) ((X.mg "__name__").getD .none) c qV)) (h':=h'.push (kla_obj "<lambda>" (X.env.qual++"<lambda>") params body scope (cQ X.env.cells scope.names []) ((X.mg "__name__").getD .none) c qV)) (t':=tk) (λb u e=>ÿ _ (hk b u e)) hsz (kE (Ħ _ rfl));have nf:H h'.objs.size=none:=I.hok.fresh hsz;have kp:À H (upd H h'.objs.size (held (kla_obj "<lambda>" (X.env.qual++"<lambda>") params body scope (cQ X.env.cells scope.names []) ((X.mg "__name__").getD .none) c qV))):=λb o e=>by rw[aq (az e nf)];exact e
  exact⟨.ref h'.objs.size,_,J,rfl,q _ ((X.mg "__name__").getD .none) (.ref c) qV _ (λb o _ e=>kp b o e) (õ.same ⟨ps,hT,tr,am⟩ kp) nf ⟨⟨_,aj,rfl⟩,c,oc,vs,t,rfl,kp _ _ hc,hd,hv⟩ (lam _ _ _ _)⟩
structure Ļ(cl:List (Str×Addr))(N:ç)(vs:List V)(H:Hp)(cs:Yq):Prop where
 no:∀b o,cs.lookup b=some o->H b=none
 cell:∀x c,cl.lookup x=some c->∃o v,cs.lookup c=some o/\o.data=.cell v
 val:∀(i:Nat)x v,N[i]?=some x->vs[i]?=some v->∃c u o,cl.lookup x=some c/\Ì v u/\cs.lookup c=some o/\o.data=.cell (some u)
theorem M9:∀{l:Yq},l.lookup b=some o->(b,o)∈l|[],e=>by cases e;|(a,x)::r,e=>by rw[Zbe]at e;cases z:b==a with|true=>rw[z]at e;cases e;rw[eq_of_beq z];exact .head _;|false=>rw[z]at e;exact .tail _ (M9 e)
theorem qU:∀{fp:þ},(dI fp h).lookup b=some o->b∈fp/\h.get? b=some o:=λ{fp}e=>lD (p:=(b,o)) (M9 e)
theorem jC(e:h.get? b=some o):∀{fp:þ},b∈fp->(dI fp h).lookup b=some o
 |[],z=>absurd z Z2|a::r,z=>by
  have un:dI (a::r) h=match(h.get? a).map (λo=>(a,o))with|some p=>p::dI r h|none=>dI r h:=by unfold dI;rw[Za3];cases(h.get? a).map (λo=>(a,o))<;>rfl
  rw[un];by_cases y:b=a;.subst y;rw[e];show List.lookup b ((b,o)::dI r h)=_;rw[Zbe,beq_self_eq_true]
  .have ih:=jC e (fp:=r) ((Ġ.mp z).resolve_left y);cases q:h.get? a with|none=>exact ih;|some o'=>show List.lookup b ((a,o')::dI r h)=_;rw[Zbe,show(b==a)=false by simpa using y];exact ih
theorem vB:∀l acc,q∈cQ cells l acc->q∈acc\/∃k,(q.1,k)∈l/\k=NameKind.free/\q.2=(cells.lookup q.1).getD 0
 |[],_,h=>.inl h|(n,k)::r,acc,h=>by
  have h':q∈cQ cells r (if k=.free then(n,(cells.lookup n).getD 0)::acc else acc):=h;rcases vB r _ h' with e|⟨k',e1,e2⟩
  .by_cases hk:k=.free
   .rw[È hk]at e;rcases Ġ.mp e with z|z;.cases z;exact .inr ⟨k,Zap,hk,rfl⟩
    .exact .inl z
   .rw[Æ hk]at e;exact .inl e
  .exact .inr ⟨k',Zaj _ e1,e2⟩
def IV(sp:Sp)(N:ç)(ix:List Nat)(cl:List (Str×Addr))(te:TE):TE:=λσ H Q=>te σ H λv H1=>∃vs:List V,vs.length=N.length/\(∀(j i:Nat)u,ix[j]?=some i->vs[j]?=some u->σ[i]?=some (some u))/\∀cs,Ļ cl N vs H1 cs->sp [v] (fz H1 cs) (λv H2=>Q v (er H2 cs)) E0
theorem Hf{p pos:Pos}{scope:Scope}(F:Í X.prog X.w X.K X.mg X.base Ý k f fd [y] sp)(hr:ä k X.A)(hg:Gl X x)(hm:X.mg x=some (.ref f))(hk:PySem.W.keepIn X.K (.ref f)=true)(hb:ï X.K fd [y] [])(hx:X.ex=[])(hp:∀p∈scope.names,p.2=NameKind.free->X.env.kindOf p.1=some .cell/\X.fn p.1=true)(hN:∀(j:Nat)x,N[j]?=some x->∃i,ix[j]?=some i/\X.N[i]?=some x/\scope.names.lookup x=some .free)(ha:PE X arg te)(fe:ū x:=by decide)(he:starEach [arg] X.env=(false,eval arg X.env)::starEach [] X.env:=by rfl)(eR:(backTo pos (starEach [] X.env)).any (·.1)=false:=by rfl):PE X (.Call (.Name x p) [arg] [] pos) (IV sp N ix (cQ X.env.cells scope.names []) te):=by
 intro Z7 s σ H Q I h;refine wpAny_Call_Name_kw (jc I hg hm ?_ fe);refine PySem.W.callWith_K (h₀:=X.base) I.ok.mod.kin hk (Õ (aK ha ao he pos Z7 s σ H (λvs H1=>∃ws:List V,ws.length=N.length/\(∀(j i:Nat)(u:V),ix[j]?=some i->ws[j]?=some u->σ[i]?=some (some u))/\∀cs,Ļ (cQ X.env.cells scope.names []) N ws H1 cs->sp vs (fz H1 cs) (λv H2=>Q v (er H2 cs)) E0) I h) λus s1 z=>?_) he eR;obtain⟨vs,H1,I1,r,ws,hw,gI,q⟩:=z;refine⟨I1.kIn,?_⟩;have hs:∀p∈scope.names,p.2=NameKind.free->(X.env.cells.lookup p.1).isSome=true:=λp iL e=>by obtain⟨c,z⟩:=I1.ok.has p.1 (.inl (hp p iL e).1);rw[z];rfl
 have sub:∀x c,(cQ X.env.cells scope.names []).lookup x=some c->X.env.cells.lookup x=some c:=λx c e=>by
  rcases iQ _ _ hs e with z|z;.cases z
  .exact z
 have at':∀b∈(cQ X.env.cells scope.names []).map (·.2),∃x,X.env.cells.lookup x=some b/\X.fn x=true:=λb c9=>by
  obtain⟨q',Ll,rfl⟩:=è.mp c9;rcases vB _ _ Ll with z|⟨k',dS,rfl,e⟩;.cases z
  .obtain⟨c,hc⟩:=Zau.mp (hs _ dS rfl);refine⟨q'.1,?_,(hp _ dS rfl).2⟩;rw[e,show X.env.cells.lookup q'.1=some c from hc];rfl
 obtain⟨cs,FF⟩:∃cs,cs=dI ((cQ X.env.cells scope.names []).map (·.2)) s1.heap:=⟨_,rfl⟩;have OE:∀x c,(cQ X.env.cells scope.names []).lookup x=some c->c∈(cQ X.env.cells scope.names []).map (·.2):=λx c e=>è.mpr ⟨(x,c),PySem.mem_of_lookup e,rfl⟩;have L:Ζ H1 s1.heap (ĉ X.stack) cs:=λb o e=>by
  rw[FF]at e;obtain⟨c9,e'⟩:=qU e;obtain⟨x',cm,pT⟩:=at' b c9;refine⟨e',I1.freeC x' b cm,λz=>?_⟩;rcases Ġ.mp (I1.stkSub b z)with y'|y';.exact I1.cne x' b cm y'
  .obtain⟨_,o',ku,_⟩:=I1.ok.funs.mem y';exact absurd (ĵ (ö ku) (I1.ok.cab x' b pT cm)) (Θ _)
 have C:Ļ (cQ X.env.cells scope.names []) N ws H1 cs:=by
  refine⟨λb o e=>(L b o e).2.1,λx' c e=>?_,λi x' v e1 e2=>?_⟩;.obtain⟨v,o,ho,hd⟩:=I1.cell x' c (sub x' c e);exact⟨o,v,by rw[FF];exact jC ho (OE x' c e),hd⟩
  .obtain⟨j,e3,e4,e5⟩:=hN i x' e1;obtain⟨m,hn,hl⟩:=I1.loc;have OF:=(hp (x',.free) (PySem.mem_of_lookup e5) rfl).1;obtain⟨u,ru,lk⟩:=hl j x' v e4 (gI i j v e3 e2) (.inr (.inl OF));rcases lk with⟨kl,_⟩|⟨_,c,ec,o,ho,hd⟩;.rw[OF]at kl;cases kl
   .obtain⟨c',bg⟩:=jM (cells:=X.env.cells) (x:=x') scope.names [] (.inl ⟨_,PySem.mem_of_lookup e5,rfl⟩);have:=sub x' c' bg;rw[ec]at this;cases this;exact⟨c,u,o,bg,ru,by rw[FF];exact jC ho (OE x' c bg),hd⟩
 have q:=q cs C;have hok:=I1.hok.fz L;have e0:ķ X.prog X.w X.K X.mg X.base X.A X.stack s1 (fz H1 cs):=by
  have e1:=I1.env0;refine⟨e1.frames,e1.mod,λb o e=>⟨(e1.bs b o e).1,?_⟩,e1.bsz,e1.funs,λb c9=>?_,hok,e1.bare⟩;.cases z:cs.lookup b with|none=>rw[dM z];exact(e1.bs b o e).2;|some o'=>have z':=z;rw[FF]at z';obtain⟨x',cm,pT⟩:=at' b (qU z').1;exact absurd (ĵ (ö (I1.ok.bs b o e).1) (I1.ok.cab x' b pT cm)) (Θ _)
  .cases z:cs.lookup b with|none=>rw[dM z];exact e1.frf b c9;|some o'=>exact absurd c9 (L b o' z).2.2
 have hl:(us++[]).length=[y].length:=by rw[Į,<-r.length];exact F.len _ _ _ _ q
 have DF:=hb s1 us I1.kIn hl;rw[Į]at DF;refine wpAny_call (codeAny_mono (F.run X.A X.stack s1 (fz H1 cs) ⟨us,[]⟩ us vs _ E0 hr e0 DF r q) λrr s' hq=>?_);cases rr with|error e=>exact(show False from hq).elim;|ok fl=>cases fl with|ret u=>obtain⟨v,H2,os,bare,un,mm,rv,qq⟩:=hq;obtain⟨un',xt,_⟩:=un.held mm L;exact I1.after (Q:=Q) ⟨v,er H2 cs,os,bare,un',xt,rv,qq⟩;|next=>exact False.elim hq;|brk=>exact False.elim hq;|cont=>exact False.elim hq
def IW(scope sc:Scope)(NX N:ç)(ix:List Nat):Bool:=decide (scope.kind=.function)&&!scope.isCoroutine&&!scope.isGenerator&&scope.names.all (λp=>decide (p.2≠NameKind.cell)&&(decide (p.2≠NameKind.free)||decide (sc.names.lookup p.1=some NameKind.cell)))&&(N.zip ix).all (λq=>decide (NX[q.2]?=some q.1)&&decide (scope.names.lookup q.1=some NameKind.free))&&decide (N.length=ix.length)
theorem vC{p pos bP:Pos}(F:Í X.prog X.w X.K X.mg X.base Ý k f fd [y] sp)(hr:ä k X.A)(hg:Gl X x)(hm:X.mg x=some (.ref f))(hk:PySem.W.keepIn X.K (.ref f)=true)(hb:ï X.K fd [y] [])(hx:X.ex=[])(pT:∀x,X.fn x=true)(fw:X.env.code=.ref cc)(hC:CodeHd X.base cc T)(hB:X.base.BuiltinsAt X.mg T)(Sw:X.env.scope=sc)(Sx:X.N=NX)(xb:defaultsOf params X.env=([],[]))(Sy:∀qual cl pm cv ct,bindArgs (kla_fn "<lambda>" qual params body scope cl pm cv ct) ⟨[],[]⟩=pure [])(ok:IW scope sc NX N ix=true)(fe:ū x:=by decide)(he:starEach [.Lambda params body scope bP] X.env=(false,eval (.Lambda params body scope bP) X.env)::starEach [] X.env:=by rfl)(eR:(backTo pos (starEach [] X.env)).any (·.1)=false:=by rfl):PE X (.Call (.Name x p) [.Lambda params body scope bP] [] pos) (IV sp N ix (cQ X.env.cells scope.names []) (tMk T (X.env.qual++"<lambda>") params body scope (cQ X.env.cells scope.names []) N)):=by
 subst Sw Sx;unfold IW at ok;simp only[Bool.and_eq_true,ă,Bool.not_eq_true',List.all_eq_true,Bool.or_eq_true]at ok;obtain⟨⟨⟨⟨⟨kd,co⟩,ge⟩,OG⟩,zs⟩,hl⟩:=ok;have kc:∀p∈scope.names,p.2=NameKind.free->X.env.kindOf p.1=some .cell:=λp hp e=>by
  rcases(OG p hp).2 with z|z;.exact absurd e z
  .exact z
 have hz:∀(j:Nat)(x:Str),N[j]?=some x->∃i,ix[j]?=some i/\X.N[i]?=some x/\scope.names.lookup x=some .free:=λj x e=>by have hj:=(ĩ.mp e).1;have e2:ix[j]?=some (ix[j]'Z1):=Ö Z1;have:=zs (x,ix[j]'Z1) (Κ (i:=j) (by rw[List.getElem?_zip_eq_some];exact⟨e,e2⟩));exact⟨_,e2,this.1,this.2⟩
 refine Hf F hr hg hm hk hb hx (λp hp e=>⟨kc p hp e,pT _⟩) hz (DW ⟨xb,kd,co,ge,λp hp=>(OG p hp).1,λp hp e=>.inl (kc p hp e),Sy,λx hx=>?_⟩ fw hC hB) fe he eR;obtain⟨j,e⟩:=List.mem_iff_getElem?.mp hx;obtain⟨_,_,_,z⟩:=hz j x e;exact z
theorem Û.okC{K:Frag}{st:Stmt}{f cc:Addr}{fd:FuncData}{N ps:ç}{k:Nat}{sp:Sp}(F:Û K x qual st f fd)(hc:fd.code=.ref cc)(S:Á N ps (aD st))(len:∀vs H Q E,sp vs H Q E->vs.length=ps.length)(aI:∀A outer s H vs Q E,ä k (A.deeper (envOfC qual (aD st) s.heap.objs.size f (.ref cc)))->sp vs H Q E->∃t,Ĵ (iJ Ý P w K mg base N qual (aD st) f (.ref cc) A outer s H E).nox (cJ st) t/\t {nx:=λ_ H'=>Q .non H',rt:=Q} (start N vs) H):Í P w K mg base Ý (k+1) f fd ps sp:=by obtain⟨oc,od,kV,doc,pm,an,ai,ct,kS,rfl,lk,eB⟩:=F.ex;subst hc;refine CT lk eB S len λA outer s H vs Q E hr gS=>?_;obtain⟨t,h,q⟩:=aI A outer s H vs Q E hr gS;exact⟨t,h.nox,q⟩
theorem Û.oqC{K:Frag}{st:Stmt}{f cc:Addr}{fd:FuncData}{N ps:ç}{k:Nat}{sp:Sp}(F:Û K x qual st f fd)(hc:fd.code=.ref cc)(S:Á N ps (aD st))(aI:∀A outer s H vs Q E,ä k (A.deeper (envOfC qual (aD st) s.heap.objs.size f (.ref cc)))->sp vs H Q E->∃t,Ĵ (iJ Ý P w K mg base N qual (aD st) f (.ref cc) A outer s H E).nox (cJ st) t/\t {nx:=λ_ H'=>Q .non H',rt:=Q} (start N vs) H)(len:ψ sp ps:=by exact{}):Í P w K mg base Ý (k+1) f fd ps sp:=F.okC hc S len.h aI
section
theorem Ma(no:ϳ cs H):er (fz H cs) cs=H:=by funext b;cases q:cs.lookup b with|some o=>rw[km q,no b o q];|none=>rw[fU q,dM q]
theorem À.fz(s:À H H'):À (L2.fz H cs) (L2.fz H' cs):=λb o e=>by cases q:cs.lookup b with|some u=>rw[qT q]at e⊢;exact e;|none=>rw[dM q]at e⊢;exact s b o e
theorem yR(s:À (fz H cs) H1)(n:∀ob u,o≠HO.frz ob u)(e:H1 b=some o):er H1 cs b=some o:=by cases q:cs.lookup b with|some u=>rw[s b _ (qT q)]at e;cases e;exact absurd rfl (n _ _);|none=>rw[fU q];exact e
theorem À.er(s:À (L2.fz H cs) H1)(no:ϳ cs H):À H (L2.er H1 cs):=λb o e=>by cases q:cs.lookup b with|some u=>rw[no b u q]at e;cases e;|none=>rw[fU q];exact s b o (by rw[dM q];exact e)
end
theorem Bw{K:Frag}{sp:Sp}{s₁:Shared}{vs:gV}{ns:PP}(KX:K.In s₁.heap)(Lm:s₁.heap.Ns mainGlobals mg)(hb:s₁.heap.Ns builtinsNs mb)(Sz:∀x:Str,x≠"__name__"->mb x=bootBuiltins x)(Lo:s₁.heap.NoLimit)(hg:s₁.gens=#[])(hC:CodeHd s₁.heap c T)(hT:s₁.heap.get? T=some (tabObj #[]))(hK:noTabs K=true)(bmain:∃bm ob,mg "__builtins__"=some (.ref bm)/\bm≠builtinsNs/\s₁.heap.get? bm=some ob/\ob.cls=.type "module"/\ob.dict=some builtinsNs/\ob.data=.plain)(ha:s₁.heap.get? a=some {cls:=.type "list",data:=.seq vs.toArray})(hi:IntsAre vs ns)(hl:ns.length<=sizeLine)(hr:ä k callerA)(F:∀base,K.In base->base.Ns mainGlobals mg->CodeHd base c T->base.BuiltinsAt mg T->Í P w K mg base CX k fa fd [x] sp)(DS:∀s u,BindsTo s fd ⟨[u],[]⟩ [(x,u)])(gS:∀H,É K H a (ns.map V.int)->õ H T qn->sp [.ref a] H (λv _=>v=.bl true) λ_ _ _=>False)(Lu:∀H e s',CX [] H s₁ (λ_ _ _=>False) e s'->False):codeAny (model P w) callerA (.call (.ref fa) ⟨[.ref a],[]⟩) (λr s'=>r=.ok (.ret (.bool true))/\OldK s₁.heap s'.heap/\s'.os=s₁.os/\AllBare s'.gens) s₁:=by
 have rv:=lG hi;have Lv:=hi.length;have neT:a≠T:=λz=>by rw[z,hT]at ha;cases ha
 have SA:K.lookup T=none:=by cases e:K.lookup T with|none=>rfl;|some o=>have h1:=KX _ _ e;rw[hT]at h1;cases h1;have h2:=Ő.mp hK _ (mem_of_lookupK e);exact absurd (show false=true from h2) Ō
 have core:∀H:Hp,H T=some (.tbl #[])->(∀b,b≠T->H b=none\/∃o xs,H b=some (.frz o (.lst xs)))->É K H a (ns.map V.int)->û P w H s₁.heap->(∀b,H b≠none->b=a\/b=T)->(H a≠none->K.lookup a=none)->codeAny (model P w) callerA (.call (.ref fa) ⟨[.ref a],[]⟩) (λr s'=>r=.ok (.ret (.bool true))/\OldK s₁.heap s'.heap/\s'.os=s₁.os/\AllBare s'.gens) s₁:=by
  intro H eT hO hS hok hA SD;have ej:∀{b:Addr}{o:Obj},s₁.heap.get? b=some o->H b=none->(nY s₁.heap H).get? b=some o:=λe n=>Cv e n;have apart:∀{b:Addr}{o:Obj},s₁.heap.get? b=some o->(∀Z8 n,o.data≠.seq Z8 n)->o.cls≠.none->H b=none:=λ{b o}e h1 h2=>by grind
  have BQ:∀{b:Addr}{o:Obj}{es:Array DictEntry}{ep:Nat},s₁.heap.get? b=some o->o.data=.dict es ep->H b=none:=λ{b o es ep}e d=>by cases q:H b with|none=>rfl;|some u=>
    rcases hA b (by rw[q];simp)with z|z;.rw[z,ha]at e;cases e;cases d
    .rw[z,hT]at e;cases e;cases d
  have FG:∀{b:Addr}{m:RG},s₁.heap.Ns b m->(nY s₁.heap H).Ns b m:=λ{b m}⟨o,es,ep,e,d,r⟩=>⟨o,es,ep,ej e (BQ e d),d,r⟩;have OH:K.In (nY s₁.heap H):=λb o e=>ej (KX b o e) (by cases q:H b with|none=>rfl;|some u=>
    rcases hA b (by rw[q];simp)with z|z;.subst z;rw[SD (by rw[q];simp)]at e;cases e
    .rw[z,SA]at e;cases e);have hM:Mod K mg (nY s₁.heap H):=⟨OH,FG Lm,⟨mb,FG hb,Sz⟩,let⟨mc,h1,h2⟩:=Lo;⟨mc,FG h1,h2⟩⟩;have e0:ķ P w K mg (nY s₁.heap H) callerA [] s₁ H:=⟨rfl,hM,λb o e=>Gb e,Nat.le_of_eq (Ah _ _),trivial,λb hb=>absurd (show b∈([]:þ)from hb) Z2,hok,.of_eq hg⟩;have SE:CodeHd (nY s₁.heap H) c T:=by obtain⟨o,SF,file,tf,flags,tg,CI,text,tt,e,h1,h2,r⟩:=hC;exact⟨o,SF,file,tf,flags,tg,CI,text,tt,ej e (apart e (λZ8 n z=>by rw[h2]at z;cases z) λz=>by rw[h1]at z;cases z),h1,h2,r⟩
  have SI:(nY s₁.heap H).BuiltinsAt mg T:=by
   obtain⟨bm,ob,b1,b2,b3,b4,b5,b6⟩:=bmain;refine⟨bm,ob,b1,b2,λz=>?_,λz=>?_,ej b3 (apart b3 (λZ8 n z=>by rw[b6]at z;cases z) λz=>by rw[b4]at z;cases z),b4,b5,b6⟩;.obtain⟨o,es,ep,e,d,_⟩:=Lm;rw[z,e]at b3;cases b3;rw[d]at b6;cases b6
   .rw[z,hT]at b3;cases b3;cases b4
  refine codeAny_mono ((F _ OH (FG Lm) SE SI).run callerA [] s₁ H ⟨[.ref a],[]⟩ [.ref a] [.ref a] _ _ hr e0 (DS s₁ (.ref a)) (.cons rfl .nil) (gS H hS ⟨#[],eT,trivial,λl=>.inl rfl⟩)) λr s' h=>?_;cases r with|error e=>exact(Lu H e s' h).elim;|ok fl=>cases fl with|next=>exact False.elim h;|brk=>exact False.elim h;|cont=>exact False.elim h;|ret u=>
    obtain⟨v,H',os,bare,un,DT,r',q⟩:=h;have q':v=.bl true:=q;subst q';obtain rfl:u=Value.bool true:=r';have kept:∀b o,b≠T->s₁.heap.get? b=some o->s'.heap.get? b=some o:=λb o nb e=>by
     rcases hO b nb with z|⟨ob,xs,z⟩;.exact un.keep b o e z (by intro z;exact absurd (show b∈([]:þ)from z) Z2) Z2
     .have z2:=un.frzs b ob _ z;obtain⟨e1,_⟩:=hok b _ z;obtain⟨e2,_⟩:=DT b _ z2;rw[e]at e1;cases e1;exact e2
    obtain⟨more,SJ⟩:=un.tbls T #[] eT;have OI:s'.heap.get? T=some (tabObj (#[]++more)):=DT T _ SJ;refine⟨rfl,⟨λb o e=>?_,λb o e=>?_⟩,os,bare⟩
    .by_cases z:b=T;.subst z;rw[hT]at e;cases e;exact .inr (.inl ⟨(hC.tab hT).isCodeTable,rfl,#[],more,rfl,OI⟩)
     .exact .inl (kept b o z e)
    .by_cases z:b=T;.rw[z];exact⟨_,OI⟩
     .exact⟨o,kept b o z e⟩
 cases hk:K.lookup a with|some o=>
  have e:=KX a o hk;rw[ha]at e;cases e;refine core (λb=>if b=T then some (.tbl #[])else none) (È rfl) (λb nb=>.inl (Æ nb)) (.inr ⟨_,vs.toArray,_,hk,rfl,rfl,rfl,by rw[Ď,Lv];exact hl,by simpa using rv⟩) (λb u z=>?_) (λb z=>?_) λz=>absurd (Æ neT) z
  .by_cases c9:b=T;.have z':=(È c9).symm.trans z;cases z';subst c9;exact hT
   .have z':=(Æ c9).symm.trans z;cases z'
  .by_cases c9:b=T;.exact .inr c9
   .exact absurd (Æ c9) z;|none=>
  refine core (λb=>if b=T then some (.tbl #[])else if b=a then some (.frz {cls:=.type "list",data:=.seq vs.toArray} (.lst (ns.map V.int)))else none) (È rfl) (λb nb=>?_) (.inl (.inr ⟨{cls:=.type "list",data:=.seq vs.toArray},(Æ neT).trans (È rfl)⟩)) (λb u z=>?_) (λb z=>?_) λ_=>hk
  .by_cases c9:b=a;.exact .inr ⟨_,_,(Æ nb).trans (È c9)⟩
   .exact .inl ((Æ nb).trans (Æ c9))
  .by_cases kf:b=T;.have z':=(È kf).symm.trans z;cases z';subst kf;exact hT
   .by_cases c9:b=a;.have z':=((Æ kf).trans (È c9)).symm.trans z;cases z';subst c9;exact⟨ha,by rw[Ð];exact hl,vs,_,rv,ha⟩
    .have z':=((Æ kf).trans (Æ c9)).symm.trans z;cases z'
  .by_cases kf:b=T;.exact .inr kf
   .by_cases c9:b=a;.exact .inl c9
    .exact absurd ((Æ kf).trans (Æ c9)) z
theorem walk_ofT{l:PySem.W.OpenLaw}{K:Params->Frag}{CX:World->CXT}{sp:World->Sp}{x nm qn:Str}{c T:Addr}(hn:l.most=some n)(CC:n<=sizeLine)(xb:d.params.defaults=[])(hr:ä k callerA)(hY:∀w h,YP w h->(K w.params).In h)(LA:(recsOf q).find? (λe=>e.name==nm)=some dr)(DO:∀p,tabIn (K p) nm=some (c,T))(LB:∀p,noTabs (K p)=true)(F:∀w mg fa h,(K w.params).In h->h.Ns mainGlobals mg->mg d.name=some (.ref fa)->∃fd,(∀s u,BindsTo s fd ⟨[u],[]⟩ [(x,u)])/\∀base,(K w.params).In base->base.Ns mainGlobals mg->CodeHd base c T->base.BuiltinsAt mg T->Í l.prog w (K w.params) mg base (CX w) k fa fd [x] (sp w))(gS:∀w H a(ns:PP),ns.length<=n->É (K w.params) H a (ns.map V.int)->õ H T qn->sp w [.ref a] H (λv _=>v=.bl true) λ_ _ _=>False)(Lu:∀w H s e s',CX w [] H s (λ_ _ _=>False) e s'->False):PySem.W.WalkO q loose XP YP l.row.toRowW d [] (λf vs=>PySem.call f vs):=by refine Att.attach_call hn xb λw s₀ s₁ mg mb fa o pm cd doc a vs ns G Y ho hd eB hmg xh hints hlen hg=>?_;have KX:=hY w _ Y;obtain⟨fd,hb,hF⟩:=F w mg fa _ KX G.T.g hmg;obtain⟨hC,hT⟩:=tab_of G.T KX LA (DO w.params);exact Bw KX G.T.g G.T.b G.T.builtins G.T.nolimit hg hC hT (LB w.params) G.T.bmain xh hints (ĺ hlen CC) hr hF hb (λH hS SK=>gS w H a ns hlen hS SK) λH e s'=>Lu w H s₁ e s'
open PySem PySem.Spec PyProof.Rows PySem.SeqAt
theorem DX(hu:X.A.units+64<cLine):Ē X (compareOp .NotEq) (λx y H Q=>∃d,Ò S H x d/\Ò S H y d/\shaped d=true/\noMix d d=true/\Q (.bl false) H):=by intro Z7 s σ H x y v u Q I rx ry h;obtain⟨d,t1,t2,sh,nm,q⟩:=h;obtain⟨as,r1,_⟩:=t1.reads I rx;obtain⟨bs,r2,_⟩:=t2.reads I ry;refine ne_dataH_same r1 r2 sh sh hu nm ⟨.bl false,H,I,?_,q⟩;rw[Spec.same_self];rfl
end L2
namespace L2.DI
open PySem PySem.Spec PyProof.Rows PySem.Calls PySem.W
section
theorem Bx:typeLookup (.type "list") "keys"=pure none:=by rw[typeLookup_type,builtinLookup_eq_fast];kernel_rfl
theorem Hg(hx:s.heap.get? a=some {cls:=.type "list",dict:=none,data:=.seq xs k,slots:=#[]})(hA:A.handled=none)(q:∀h' tk,(∀b o,s.heap.get? b=some o->h'.get? b=some o)->Q none {s with heap:=h',toks:=tk}):wpAny (model prog w) A (getAttr? (.ref a) "keys") Q E s:=by
 obtain⟨hp,g,d,tk,os⟩:=s;have hT:∀FH,(⟨hp,g,d,FH,os⟩:Shared).TypeIs (.ref a) "list":=λ_=>⟨_,hx,rfl⟩;have f3:=F.slot_list_getattribute.lookup;have f4:=F.slot_list_getattribute.bind (.ref a);have f5:=am_list_getattr_none;have f1:=sub_AttributeError;unfold getAttr? getAttrBy? getAttrBy;repeat(any_goals(first|assumption|exact hT _|((with_reducible show wpAny _ _ (call (Value.builtin "list.__getattribute__") _ _) _ _ _);refine call_meets F.slot_list_getattribute (hT _) am_entry_list_getattribute (F.args_list_getattribute_2 _ _) (meets_getattribute_miss_list a xs k #[] "keys" _ Bx Z5 (by size_fits)) ⟨hx,hA,λh' FH e cm=>?_⟩)|wp_step))
 obtain⟨t',u',he⟩:=cm.there;show wpAny _ _ (getattributeRaised _ _ _ _ _ _ _) _ _ _;unfold getattributeRaised;repeat(any_goals(first|assumption|wp_step))
 exact q _ _ cm.of.keeps
end
theorem qW:entryFor table "dict.update.loop"=some Builtin.«dict.update.loop»:=entryFor_of_tree (by kernel_rfl)
theorem jj:plainId "dict.update.loop"=true:=by decide+kernel
theorem Hh{KK:Type}[DecidableEq KK]{xs:List (KK×Addr×Value)}{k:KK}(h:∀x∈xs,x.1≠k):atKey xs k=none:=by unfold atKey;rw[List.find?_eq_none.mpr λx hx=>by simpa using h x hx];rfl
section
variable{KK:Type}[DecidableEq KK]{knd:HeapKind prog w KK}{s:Shared}{R:Result->Shared->Prop}{n I l:Addr}{xs:List (KK×Addr×Value)}{as:þ}{h₀:Heap}
theorem Z0q(hh:A.handled=none)(hu:knd.room A.in1)(hz:xs.length<=sizeLine)(nd:(xs.map (·.1)).Nodup)(mono:∀x∈xs,∀h,(∀c o,h₀.get? c=some o->h.get? c=some o)->knd.is h x.1 x.2.1)(eL:h₀.IsList l (as.map Value.ref).toArray)(la:as.length=xs.length)(eP:∀(j:Nat)a x,as[j]?=some a->xs[j]?=some x->∃o n,h₀.get? a=some o/\o.cls=.type "tuple"/\o.data=.seq #[.ref x.2.1,x.2.2] n)(nn:h₀.get? n=none)(nI:h₀.get? I=none)(LD:n≠I)(hR:∀h' tk,(∀c o,h₀.get? c=some o->h'.get? c=some o)->h'.DictOfH knd n xs->R (.ok (.ret .none)) {s with heap:=h',toks:=tk}):∀m i h tk,xs.length-i=m->i<=xs.length->h.IsListIter I l i->(∀c o,h₀.get? c=some o->h.get? c=some o)->h.DictOfH knd n (xs.take i)->codeAny (model prog w) A (.builtin "dict.update.loop" ⟨[.ref n,.ref I,rawInt i,.none],[]⟩) R {s with heap:=h,toks:=tk}:=by
 have sI:∀{h h':Heap},Heap.ExtBut I h h'->(∀c o,h₀.get? c=some o->h.get? c=some o)->∀c o,h₀.get? c=some o->h'.get? c=some o:=λx k c o e=>x c o (λz=>by rw[z,nI]at e;cases e) (k c o e);intro m
 induction m with|zero=>
  intro i h tk hm hi it kp dd;refine codeAny_builtin qW ?_;rw[Around.under_plainId jj _];show wpAny (model prog w) A.in1 (pyNext (.ref I)>>=_) _ _ _;refine Â (wpAny_pyNext_list_end (s:={s with heap:=h,toks:=tk}) (A:=A.in1) hh it (eL.at λo e=>kp _ o e) (by rw[List.getElem?_toArray,Zan (by rw[Ð];lia)]) λh' x=>?_);have ml:h'.DictOfH knd n xs:=by rw[ϩ Z1]at dd;obtain⟨o,es,ep,g1,g2,g3,g4,g5,g6⟩:=dd;exact⟨o,es,ep,x _ _ LD g1,g2,g3,g4,λy hy=>mono y hy h' (sI x kp),g6⟩
  exact Â (Ô (Ô (hR h' tk (sI x kp) ml)));|succ m ih=>
  intro i h tk hm hi it kp dd;have aE:i<xs.length:=Z1;have yk:i<as.length:=Z1;refine codeAny_builtin qW ?_;rw[Around.under_plainId jj _];show wpAny (model prog w) A.in1 (pyNext (.ref I)>>=_) _ _ _;refine Â (wpAny_pyNext_list_item (s:={s with heap:=h,toks:=tk}) (A:=A.in1) (x:=.ref as[i]) it (eL.at λo e=>kp _ o e) (by rw[List.getElem?_toArray,ý,Ö yk];rfl) λh₁ it₁ sb=>?_);have ki:=sI sb.extBut kp;obtain⟨oT,_,eT,cT,dT⟩:=eP i as[i] xs[i] (Ö yk) (Ö aE);have eT:=ki _ _ eT;have ty:Shared.TypeIs {s with heap:=h₁,toks:=tk} (.ref as[i]) "tuple":=⟨_,eT,cT⟩;have DU:h₁.DictOfH knd n (xs.take i):=by obtain⟨o,es,ep,g1,g2,g3,g4,g5,g6⟩:=dd;exact⟨o,es,ep,sb.extBut _ _ LD g1,g2,g3,g4,λy hy=>mono y (Zaq hy) h₁ ki,g6⟩
  refine Â (wpAny_holding (Â (wpAny_tryCatch ?_)));unfold Builtin.Dict.pairItems;refine Â (wpAny_typeOf ty ?_);rw[È Z3];refine Â (wpAny_seqItems eT dT (Ô ?_));show wpAny (model prog w) A.in1 (holding [Value.ref xs[i].2.1,xs[i].2.2] (dictSet n (.ref xs[i].2.1) xs[i].2.2)) _ _ _;refine wpAny_holding (wpAny_dictSet_heap (hsz:=by rw[Ė];lia) hu (mono _ (Č aE) h₁ ki) DU λiq tF tI=>?_);have e2:storedH (xs.take i) xs[i].1 xs[i].2.1 xs[i].2.2=xs.take (i+1):=by
   rw[storedH_new (Hh λx hx z=>?_),Ĝ,Ö aE];.rfl
   .obtain⟨j,hj,e⟩:=Zar hx;rw[Ė]at hj;rw[List.getElem_take]at e;have l1:j<(xs.map (·.1)).length:=by rw[Ð];lia
    have l2:i<(xs.map (·.1)).length:=by rw[Ð];exact aE
    have:j=i:=(List.getElem_inj (h₀:=l1) (h₁:=l2) nd).mp (by simp only[List.getElem_map];rw[e];exact z);lia
  rw[e2]at tF;refine Ô ⟨plainId_quiet jj _,?_⟩;have:=ih (i+1) iq (tk+knd.draws xs[i].1) Z1 aE (it₁.at λo e=>tI.extBut _ _ (Ne.symm LD) e) (λc o e=>tI.extBut c o (λz=>by rw[z,nn]at e;cases e) (ki c o e)) tF;rw[show rawInt ((i+1:Nat):Int)=rawInt ((i:Int)+1)from rfl]at this;exact this
end
section
variable{KK:Type}[DecidableEq KK]{knd:HeapKind prog w KK}{l:Addr}{xs:List (KK×Addr×Value)}{as:þ}
theorem Mf(hh:A.handled=none)(hu:knd.room A.in1.in1)(hz:xs.length<=sizeLine)(nd:(xs.map (·.1)).Nodup)(mono:∀x∈xs,∀h,(∀c o,s.heap.get? c=some o->h.get? c=some o)->knd.is h x.1 x.2.1)(eL:s.heap.get? l=some {cls:=.type "list",dict:=none,data:=.seq (as.map Value.ref).toArray c,slots:=#[]})(la:as.length=xs.length)(eP:∀(j:Nat)a x,as[j]?=some a->xs[j]?=some x->∃o n,s.heap.get? a=some o/\o.cls=.type "tuple"/\o.data=.seq #[.ref x.2.1,x.2.2] n)(hQ:∀h' tk,(∀c o,s.heap.get? c=some o->h'.get? c=some o)->h'.DictOfH knd s.heap.objs.size xs->Q (.ref s.heap.objs.size) {s with heap:=h',toks:=tk}):wpAny (model prog w) A (call (.type "dict") [.ref l]) Q E s:=by refine callType_codes (Q₁:=λobj s₁=>obj=.ref s.heap.objs.size/\s₁={s with heap:=s.heap.push {cls:=.type "dict",data:=.dict #[]}}) F.kt_called_dict (F.kt_typeCall_dict_1 _) F.entry_dict_init (kt_code_dict_new _ ⟨rfl,rfl⟩) ?_;rintro obj s₁⟨rfl,rfl⟩;have dn:(s.heap.push {cls:=.type "dict",data:=.dict #[]}).DictOfH knd s.heap.objs.size []:=Heap.DictOfH.new s.heap;have nn:s.heap.get? s.heap.objs.size=none:=Heap.get?_none_of_le (Ø _);refine⟨dn.typeIs,F.args_dict_init_2 _ _,?_⟩;have up:∀b o,s.heap.get? b=some o->(s.heap.push {cls:=.type "dict",data:=.dict #[]}).get? b=some o:=λb o e=>ÿ _ e;have zz:(s.heap.push {cls:=.type "dict",data:=.dict #[]}).objs.size=s.heap.objs.size+1:=Heap.size_push ..;generalize s.heap.push {cls:=.type "dict",data:=.dict #[]}=g at dn up zz⊢;unfold Builtin.«dict.__init__»;refine Â ?_;unfold Builtin.Dict.selfAndRest;refine Â (wpAny_notOrdered_dict dn.typeIs ?_);show wpAny (model prog w) A.in1.in1 (pure (s.heap.objs.size,[Value.ref l])) _ _ _;refine Ô ?_;show wpAny (model prog w) A.in1.in1 (Builtin.Dict.updateFrom "dict.__init__" s.heap.objs.size (.ref l) [] .none) _ _ _;unfold Builtin.Dict.updateFrom;refine Â (wpAny_typeOf (s:={s with heap:=g}) (T:="list") ⟨_,up _ _ eL,rfl⟩ ?_);rw[È Z3];refine Â (Hg (s:={s with heap:=g}) (A:=A.in1.in1) (up _ _ eL) hh λh₁ tk kp=>?_);simp only[Option.isNone_none,if_true];obtain⟨o,es,ep,d1,d2,d3,d4,d5,d6⟩:=dn;have OJ:=kp _ _ d1;have ln:s.heap.objs.size<h₁.objs.size:=ö OJ;have hl:h₁.IsList l (as.map Value.ref).toArray:=⟨_,kp _ _ (up _ _ eL),rfl,_,rfl⟩;refine Â (wpAny_rule (Â (wpAny_pyIter_list (s:={s with heap:=h₁,toks:=tk}) hl (Ô ⟨plainId_quiet jj _,?_⟩))));exact Z0q (A:=A.in1) (s:=s) (h₀:=s.heap) hh hu hz nd mono ⟨_,eL,rfl,_,rfl⟩ la eP nn (Heap.get?_none_of_le (Za9 ln)) (ę ln) (λh' FH k' dd=>⟨rfl,hQ h' FH k' dd⟩) xs.length 0 _ tk (Nat.sub_zero _) (Ě _) ⟨_,Ħ _ rfl,rfl,rfl⟩ (λc o e=>ÿ _ (kp _ _ (up _ _ e))) ⟨o,es,ep,ÿ _ OJ,d2,d3,d4,(λ_ hx=>nomatch hx),d6⟩
end
section
theorem Hl(r:KT H kvs xs):kvs.map (·.1)=xs.map (·.1):=by induction r with|nil=>rfl;|cons h _ ih=>rw[ě,ě,h.1,ih]
theorem JX(r:KT H kvs xs):∀x∈xs,H x.2.1=some (.tup (x.1.map kV)):=by induction r with|nil=>intro x hx;cases hx;|cons h _ ih=>
  intro x hx;rcases Ġ.mp hx with z|z;.rw[z];rw[<-h.1];exact h.2.1
  .exact ih x z
theorem vD{σ:L2.St}(I:Ä X Z7 σ H s):∀kvs(l:þ),(∀(j:Nat)kv,kvs[j]?=some kv->∃a b,l[j]?=some a/\H a=some (.tup [.ref b,kv.2])/\H b=some (.tup (kv.1.map kV)))->∃xs,KT H kvs xs/\∀(j:Nat)(a:Addr)(x:List Key×Addr×Value),l[j]?=some a->xs[j]?=some x->∃o n,s.heap.get? a=some o/\o.cls=.type "tuple"/\o.data=.seq #[.ref x.2.1,x.2.2] n
 |[],l,_=>⟨[],.nil,λj a x _ h=>by simp at h⟩|(k,v)::kvs,l,h=>by
  obtain⟨a,b,h1,h2,h3⟩:=h 0 (k,v) rfl;obtain⟨_,Z8,rv,o,ho,hc,c,hd⟩:=(I.hok a _ h2);obtain⟨u1,u2,rfl,r1,r2⟩:=Œ rv;cases r1;obtain⟨a',l,rfl⟩:∃b l',l=b::l':=by cases l with|nil=>simp at h1;|cons b l=>exact⟨b,l,rfl⟩
  have e:a'=a:=by simpa using h1
  subst e;obtain⟨xs,kt,hr⟩:=vD I kvs l λj kv hj=>h (j+1) kv (by simpa using hj);refine⟨(k,b,u2)::xs,.cons ⟨rfl,h3,r2⟩ kt,λj a x ha hx=>?_⟩;cases j with|zero=>cases(show a'=a by simpa using ha);cases(show(k,b,u2)=x by simpa using hx);exact⟨o,c,ho,hc,hd⟩;|succ j=>exact hr j a x (by simpa using ha) (by simpa using hx)
theorem call_dictT(hc:X.calm=true)(hu:X.A.units+64<cLine):dF X (.type "dict") (λxs H Q=>∃(p:Addr)(l:þ)(kvs:List (List Key×V)),xs=[.ref p]/\H p=some (.lst (l.map V.ref))/\l.length=kvs.length/\(kvs.map (·.1)).Nodup/\(∀(j:Nat)kv,kvs[j]?=some kv->∃a b,l[j]?=some a/\H a=some (.tup [.ref b,kv.2])/\H b=some (.tup (kv.1.map kV)))/\∀q,H q=none->q≠sysModules->Q (.ref q) (upd H q (.dT kvs))):=by
 intro Z7 s σ H xs us Q I r h;obtain⟨p,l,kvs,rfl,hp,hl,nd,rows,q⟩:=h;obtain⟨u,rfl,ru⟩:=ò r;cases ru;obtain⟨z,Z8,n,rv,hlen,e⟩:=I.lstM hp;rw[Ð]at z;have ei:=lN rv;subst ei;obtain⟨xs,kt,hx⟩:=vD I kvs l rows;have zk:=kt.len;have nd2:(xs.map (·.1)).Nodup:=by have:xs.map (·.1)=kvs.map (·.1):=(Hl kt).symm;rw[this];exact nd
 refine Mf (knd:=tupleKind (bx X.prog X.w)) (xs:=xs) (as:=l) (I.ok.hd hc) (show X.A.units+1+1<cLine by lia) Z1 nd2 (λx JO g kg=>?_) e Z1 hx λh' tk kp dd=>?_;.obtain⟨o,Z8,n,a1,a2,a3,a4⟩:=oO I.hok (JX kt x JO);exact⟨o,Z8,n,kg _ _ a1,a2,a3,a4⟩
 .have hn:H s.heap.objs.size=none:=I.hok.fresh (Ø _);have ns:s.heap.objs.size≠sysModules:=Ne.symm (ę I.big);obtain⟨o2,KA,SM,b1,b2,b3,b4,_,b6⟩:=dd;refine⟨.ref s.heap.objs.size,_,I.laid (a:=s.heap.objs.size) (o:=.dT kvs) (t':=tk) kp (Ø _) ⟨Z1,beq_eq_false_iff_ne.mpr ns,xs,kt.keeps λb ys e=>?_,o2,KA,SM,b1,b2,b3,b4,b6⟩,rfl,q _ hn ns⟩;rw[aq (az e hn)];exact e
end
end L2.DI
namespace K52
open PySem L2
def top(i:Nat):Stmt:=PySem.Challenge.pw_woolyears_k52_the_promise_that_is_too_ma.main.body.getD i (.Pass ⟨0,0,0,0⟩)
def dJ(d:PyData):Bool:=sV d&&!sW d
def items:PyData->Ys|.tuple ds=>ds|_=>[]
def î:PyData->Int|.int i=>i|_=>0
def bG(d:PyData)(f m:Int):Bool:=sX d&&(decide (f<=(items d).length)&&decide (((items d).length:Int)<=m))
def bK(d:PyData)(n:Int):Bool:=bG d n n&&(items d).all dJ
def qX(d:PyData):Bool:=bK d 3&&(items d).all λx=>decide (0<=î x)&&decide (î x<=999)
def iZ(d:PyData):Bool:=bG d 1 20&&(items d).all qX
def at_(d:PyData)(i:Nat):Int:=î ((items d).getD i .none)
def tO(a b c d e f:Int):Bool:=(decide (0<=a)&&decide (a<8))&&((decide (0<=b)&&decide (b<3))&&((decide (0<=c)&&(decide (c<=d)&&decide (d<=19)))&&((decide (1<=e)&&decide (e<=99))&&(decide (0<=f)&&decide (f<=1000000)))))
def kI(d:PyData):Bool:=bK d 6&&tO (at_ d 0) (at_ d 1) (at_ d 2) (at_ d 3) (at_ d 4) (at_ d 5)
def gh(d:PyData):Bool:=bG d 0 10&&(items d).all kI
theorem nd1(x:Str):([x]:ç).Nodup:=by simp
theorem DY(d:PyData):1<=sz d:=by cases d<;>simp[sz]
theorem tQ:∀ds,ds.length<=Ģ ds|[]=>Ě _|d::ds=>by have:=tQ ds;have:=DY d;simp only[List.length_cons,Ģ];lia
theorem tR:∀{ds:Ys}{d:PyData},d∈ds->sz d<=Ģ ds
 |x::ds,d,h=>by
  simp only[Ģ];rcases Ġ.mp h with e|e;.rw[e];lia
  .have:=tR e;lia
theorem kJ(h:d∈ds)(hz:sz (.tuple ds)<=4000):sz d<=4000:=by have:=tR h;simp only[sz]at hz;lia
theorem gD(r:Å S H xs ds)(hz:sz (.tuple ds)<=4000):xs.length<sizeLine:=by have:=tQ ds;have:=r.length;simp only[sz]at hz;rw[sizeLine_eq];lia
def ō(f:PyData->Bool):Sp:=λvs H Q _=>∃S v d,vs=[v]/\Ò S H v d/\sz d<=4000/\∀H',À H H'->Q (.bl (f d)) H'
inductive Z0b(f:PyData->Int->Bool)(vs:List V)(H:Hp)(Q:VK):Prop|mk:∀S v d n,(vs=[v,.int n])->(Ò S H v d)->(sz d<=4000)->(∀H',À H H'->Q (.bl (f d n)) H')->Z0b f vs H Q
def Hm(f:PyData->Int->Bool):Sp:=λvs H Q _=>Z0b f vs H Q
def lO(f:PyData->Int->Int->Bool):Sp:=λvs H Q _=>∃S v d n m,vs=[v,.int n,.int m]/\Ò S H v d/\sz d<=4000/\∀H',À H H'->Q (.bl (f d n m)) H'
structure Mg(mg:RG):Prop where
 isinstance:mg "isinstance"=none
 int:mg "int"=none
 bool:mg "bool"=none
 tuple:mg "tuple"=none
 len:mg "len"=none
 all:mg "all"=none
theorem ų:bootBuiltins "int"=some (.type "int"):=by decide+kernel
theorem ϓ:bootBuiltins "bool"=some (.type "bool"):=by decide+kernel
theorem Ó:bootBuiltins "tuple"=some (.type "tuple"):=by decide+kernel
theorem á:bootBuiltins "isinstance"=some (.builtin "isinstance"):=by decide+kernel
theorem ú:bootBuiltins "all"=some (.builtin "all"):=by decide+kernel
theorem dY(f:PyData->Bool)(gI:σ[i]?=some (some (.ref a)))(ea:H a=some (.tup xs))(r:Å S H xs ds)(hl:xs.length<sizeLine)(kC:∀v d H1 Q1,d∈ds->À H H1->Ò S H1 v d->(∀H',À H1 H'->Q1 (.bl (f d)) H')->te ((Ĳ σ src).set j (some v)) H1 Q1)(q:∀H',À H H'->Q (.bl (ds.all f)) H'):tCB (λxs H Q=>∃(p:Addr)(bs:List Bool),xs=[.ref p]/\É K H p (bs.map V.bl)/\Q (.bl (bs.all id)) H) (iH (Dd (KJ K (uw i)) src (bQ j) uF te) wK) σ H Q:=by
 refine⟨_,gI,a,rfl,⟨xs,Ê.of ea⟩,uR (j:=j) f ea r hl kC λH2 s2 D hD=>⟨D,ds.map f,rfl,?_,?_⟩⟩;.rw[<-Dl];exact É.of aj
 .rw[JG];exact q _ (s2.updR hD)
structure Nums(mg:RG):Prop where sorts:∃t,mg "SORTS"=some (.int 3 t)holders:∃t,mg "HOLDERS"=some (.int 8 t)year:∃t,mg "LAST_YEAR"=some (.int 19 t)clips:∃t,mg "MOST_CLIPS"=some (.int 20 t)proms:∃t,mg "MOST_PROMISES"=some (.int 10 t)wool:∃t,mg "MOST_WOOL"=some (.int 999 t)sacks:∃t,mg "MOST_SACKS"=some (.int 99 t)price:∃t,mg "MOST_PRICE"=some (.int 1000000 t)
theorem lQ(h:bK d n=true):bG d n n=true/\∀x∈items d,dJ x=true:=by unfold bK at h;rw[ġ]at h;exact⟨h.1,Ő.mp h.2⟩
theorem lR(h:Ò S H v d)(e:dJ d=true):∃i,v=.int i/\d=.int i:=by cases h with|int i=>exact⟨i,rfl,rfl⟩;|_=>cases e
theorem kO{α:Type}{l:List α}(h:l.length=n+1):∃a t,l=a::t/\t.length=n:=by cases l with|nil=>cases h;|cons a t=>exact⟨a,t,rfl,Nat.succ.inj h⟩
theorem Mj{α:Type}{l:List α}(h:l.length=5):∃a b c d e,l=[a,b,c,d,e]:=by obtain⟨a,l1,e1,h1⟩:=kO h;obtain⟨b,l2,e2,h2⟩:=kO h1;obtain⟨c,l3,e3,h3⟩:=kO h2;obtain⟨d,l4,e4,h4⟩:=kO h3;obtain⟨e,l5,e5,h5⟩:=kO h4;exact⟨a,b,c,d,e,by rw[e1,e2,e3,e4,e5,Zbj.mp h5]⟩
theorem Ml{α:Type}{l:List α}(h:l.length=6):∃a b c d e f,l=[a,b,c,d,e,f]:=by obtain⟨a,l1,e1,h1⟩:=kO h;obtain⟨b,c,d,e,f,e2⟩:=Mj h1;exact⟨a,b,c,d,e,f,by rw[e1,e2]⟩
theorem gZ(r:Å S H xs (d::ds))(e:dJ d=true):∃i t,xs=.int i::t/\d=.int i/\Å S H t ds:=by cases r with|cons h1 r=>obtain⟨i,rfl,rfl⟩:=lR h1 e;exact⟨i,_,rfl,rfl,r⟩
theorem pH(r:Å S H xs (d::ds)):∃v t,xs=v::t/\Ò S H v d/\Å S H t ds:=by cases r with|cons h1 r=>exact⟨_,_,rfl,h1,r⟩
theorem By(r:Å S H xs ds)(hl:ds.length=3):∃v0 v1 v2 d0 d1 d2,xs=[v0,v1,v2]/\ds=[d0,d1,d2]/\Ò S H v0 d0/\Ò S H v1 d1/\Ò S H v2 d2:=by
 obtain⟨d0,l1,e1,h1⟩:=kO hl;obtain⟨d1,l2,e2,h2⟩:=kO h1;obtain⟨d2,l3,e3,h3⟩:=kO h2;have e:ds=[d0,d1,d2]:=by rw[e1,e2,e3,Zbj.mp h3]
 subst e;obtain⟨v0,t0,f0,i0,r0⟩:=pH r;obtain⟨v1,t1,f1,i1,r1⟩:=pH r0;obtain⟨v2,t2,f2,i2,r2⟩:=pH r1;cases r2;exact⟨v0,v1,v2,d0,d1,d2,by rw[f0,f1,f2],rfl,i0,i1,i2⟩
theorem Ea(r:Å S H xs ds)(hl:ds.length=6)(hw:∀x∈ds,dJ x=true):∃i1 i2 i3 i4 i5 i6,xs=[.int i1,.int i2,.int i3,.int i4,.int i5,.int i6]/\ds=[.int i1,.int i2,.int i3,.int i4,.int i5,.int i6]:=by obtain⟨d1,d2,d3,d4,d5,d6,rfl⟩:=Ml hl;obtain⟨i1,t1,e1,rfl,r1⟩:=gZ r (hw _ Z2);obtain⟨i2,t2,e2,rfl,r2⟩:=gZ r1 (hw _ Z2);obtain⟨i3,t3,e3,rfl,r3⟩:=gZ r2 (hw _ Z2);obtain⟨i4,t4,e4,rfl,r4⟩:=gZ r3 (hw _ Z2);obtain⟨i5,t5,e5,rfl,r5⟩:=gZ r4 (hw _ Z2);obtain⟨i6,t6,e6,rfl,r6⟩:=gZ r5 (hw _ Z2);cases r6;exact⟨i1,i2,i3,i4,i5,i6,by rw[e1,e2,e3,e4,e5,e6],rfl⟩
theorem BJ(h:bG (.tuple ds) n m=true):n<=(ds.length:Int)/\(ds.length:Int)<=m:=by have h:(true&&(decide (n<=(ds.length:Int))&&decide ((ds.length:Int)<=m)))=true:=h;rw[Bool.true_and,ġ]at h;exact⟨ŋ h.1,ŋ h.2⟩
def ã(P:Program)(w:World)(K:Frag)(mg:RG)(base:Heap)(k:Nat)(x:Str)(ps:ç)(sp:Sp):Prop:=∃f fd,Í P w K mg base Ý k f fd ps sp/\mg x=some (.ref f)/\PySem.W.keepIn K (.ref f)=true/\ï K fd ps []
theorem aJ{p pos:Pos}(c:ã X.prog X.w X.K X.mg X.base j x ps sp)(hr:ä k X.A)(ha:PA X (e::es) t)(hjk:j<=k:=by decide)(hg:Gl X x:=by exact rfl)(fe:ū x:=by decide)(he:Qa6 X e es:=by rfl)(eR:Qa7 X pos es:=by rfl):PE X (.Call (.Name x p) (e::es) [] pos) (uD sp [] E0 t):=by obtain⟨f,fd,F,hm,hk,hb⟩:=c;exact yq F (hr.mono hjk) hg hm hk hb .nil Lh ha fe he eR
theorem sc1:Á ["thing"] ["thing"] (aD (top 20)):=ù
theorem vG(F:Û K "is_whole" "is_whole" (top 20) f fd)(T:Mg mg):Í P w K mg base Ý 1 f fd ["thing"] (ō dJ):=by refine F.oq sc1 λai A outer s H vs Q E hr h=>?_;obtain⟨S,v,d,rfl,th,hz,q⟩:=h;refine⟨_,aF (aR (cR (aM iR rfl T.isinstance á (aK (pv 0) (aK (ni rfl T.int ų (v:=.ty "int") rfl) ao))) (fX (Jl (aM iR rfl T.isinstance á (aK (pv 0) (aK (ni rfl T.bool ϓ (v:=.ty "bool") rfl) ao))))))),?_⟩;refine⟨_,rfl,v,_,"int",sV d,rfl,th.ty,Gw d,_,rfl,?_⟩;have fin:=q H (À.refl H);unfold dJ at fin;cases e:sV d with|false=>rw[e]at fin;exact bH fin;|true=>rw[e]at fin;exact cg ⟨_,rfl,v,_,"bool",sW d,rfl,th.ty,Dk d,_,rfl,fin⟩
theorem sc2:Á ["thing","fewest","most"] ["thing","fewest","most"] (aD (top 22)):=ù
theorem pI(F:Û K "is_tuple_of" "is_tuple_of" (top 22) f fd)(T:Mg mg):Í P w K mg base Ý 1 f fd ["thing","fewest","most"] (lO bG):=by refine F.oq sc2 λai A outer s H vs Q E hr h=>?_;obtain⟨S,v,d,n,m,rfl,th,hz,q⟩:=h;refine⟨_,aF (aR (cR (aM iR rfl T.isinstance á (aK (pv 0) (aK (ni rfl T.tuple Ó (v:=.ty "tuple") rfl) ao))) (fX (dw bT bT (pv 1) (aM bu rfl T.len PySem.boot_len (aK (pv 0) ao)) (pv 2))))),?_⟩;refine⟨_,rfl,v,_,"tuple",sX d,rfl,th.ty,Gx d,_,rfl,?_⟩;have fin:=q H (À.refl H);unfold bG at fin;cases e:sX d with|false=>rw[e]at fin;exact bH fin;|true=>rw[e]at fin;refine cg ?_;cases th with
 |@tup a xs ds ea r=>have hl:=r.length;refine⟨_,rfl,_,rfl,a,xs,rfl,.inr (Ê.of ea),_,_,rfl,rfl,_,rfl,?_⟩;rw[hl];have fin:Q (.bl (true&&(decide (n<=(ds.length:Int))&&decide ((ds.length:Int)<=m)))) H:=fin;cases e1:decide (n<=(ds.length:Int))with|false=>rw[e1]at fin;exact bH fin;|true=>rw[e1]at fin;exact cg ⟨_,rfl,_,_,rfl,rfl,fin⟩
  |_=>cases e
theorem sc3:Á ["thing","many"] ["thing","many"] (aD (top 23)):=ù
theorem qw(F:Û K "are_wholes" "are_wholes" (top 23) f fd)(T:Mg mg)(c1:ã P w K mg base 1 "is_whole" ["thing"] (ō dJ))(c2:ã P w K mg base 1 "is_tuple_of" ["thing","fewest","most"] (lO bG)):Í P w K mg base Ý 2 f fd ["thing","many"] (Hm bK):=by
 refine F.oq sc3 λai A outer s H vs Q E hr h=>?_;obtain⟨S,v,d,n,rfl,th,hz,q⟩:=h;refine⟨_,aF (aR (cR (aJ c2 hr (aK (pv 0) (aK (pv 1) (aK (pv 1) ao)))) (fX (aM (gA rfl) rfl T.all ú (aK (bI ["part"] [none] rfl (dX (pv 0)) (λC fp Z7 s₂ Ï=>⟨bN (i:=0) (nd1 _) rfl (Or.inl rfl),bR,aJ c1 hr (aK (pv 0) ao)⟩) (λC=>trivial) ⟨rfl,rfl,rfl,rfl⟩) ao))))),?_⟩;refine⟨_,rfl,_,rfl,_,rfl,S,v,d,n,n,rfl,th,hz,λH1 s1=>⟨_,rfl,?_⟩⟩;have gu:=th.same s1
 cases e:bG d n n with|false=>refine bH ?_;have fin:=q H1 s1;unfold bK at fin;rw[e]at fin;exact fin;|true=>refine cg ?_;cases gu with|@tup a xs ds ea r=>
   have ew:bK (.tuple ds) n=ds.all dJ:=by unfold bK;rw[e];rfl
   refine dY dJ rfl ea r (gD r hz) (λv d H2 Q2 hm s2 t2 q2=>⟨_,rfl,S,v,d,rfl,t2,kJ hm hz,q2⟩) λH2 s2=>?_;rw[<-ew];exact q _ (s1.trans s2);|_=>cases e
theorem Z04:Á ["thing"] ["thing"] (aD (top 34)):=ù
theorem xx(F:Û K "is_clip" "is_clip" (top 34) f fd)(T:Mg mg)(N:Nums mg)(c1:ã P w K mg base 2 "are_wholes" ["thing","many"] (Hm bK)):Í P w K mg base Ý 3 f fd ["thing"] (ō qX):=by refine F.oq Z04 λai A outer s H vs Q E hr h=>?_;obtain⟨S,v,d,rfl,th,hz,q⟩:=h;obtain⟨t3,e3⟩:=N.sorts;obtain⟨t9,e9⟩:=N.wool;refine⟨_,aF (aR (cR (aJ c1 hr (aK (pv 0) (aK (bM (v:=.int 3) rfl e3 ⟨_,rfl⟩) ao))) (fX (aM (gA rfl) rfl T.all ú (aK (bI ["sacks"] [none] rfl (dX (pv 0)) (λC fp Z7 s₂ Ï=>⟨bN (i:=0) (nd1 _) rfl (Or.inl rfl),bR,dw bT bT aB (pv 0) (bM (v:=.int 999) rfl e9 ⟨_,rfl⟩)⟩) (λC=>trivial) ⟨rfl,rfl,rfl,rfl⟩) ao))))),?_⟩;refine⟨_,rfl,S,v,d,3,rfl,th,hz,λH1 s1=>⟨_,rfl,?_⟩⟩;have gu:=th.same s1;have fin:=λH'(s:À H H')=>q H' s;unfold qX at fin;cases e:bK d 3 with|false=>rw[e]at fin;exact bH (fin _ s1);|true=>rw[e]at fin;refine cg ?_;obtain⟨e1,e2⟩:=lQ e;cases gu with
 |@tup a xs ds ea r=>refine dY (λx=>decide (0<=î x)&&decide (î x<=999)) rfl ea r (gD r hz) (λv d H2 Q2 hm s2 t2 q2=>?_) λH2 s2=>fin _ (s1.trans s2);obtain⟨i,rfl,rfl⟩:=lR t2 (e2 d hm);refine⟨_,rfl,_,_,rfl,rfl,_,rfl,?_⟩;have q3:=q2 H2 (À.refl _);show if decide ((0:Int)<=i)=true then _ else _;cases e5:decide ((0:Int)<=i)with|false=>refine bH ?_;have q3:Q2 (.bl (decide ((0:Int)<=i)&&decide (i<=999))) H2:=q3;rw[e5]at q3;exact q3;|true=>refine cg ⟨_,_,rfl,rfl,?_⟩;have q3:Q2 (.bl (decide ((0:Int)<=i)&&decide (i<=999))) H2:=q3;rw[e5]at q3;exact q3
  |_=>cases e1
theorem ű:Á ["thing"] ["thing"] (aD (top 35)):=ù
theorem tU(F:Û K "are_clips" "are_clips" (top 35) f fd)(T:Mg mg)(N:Nums mg)(c1:ã P w K mg base 3 "is_clip" ["thing"] (ō qX))(c2:ã P w K mg base 1 "is_tuple_of" ["thing","fewest","most"] (lO bG)):Í P w K mg base Ý 4 f fd ["thing"] (ō iZ):=by refine F.oq ű λai A outer s H vs Q E hr h=>?_;obtain⟨S,v,d,rfl,th,hz,q⟩:=h;obtain⟨t3,e3⟩:=N.clips;refine⟨_,aF (aR (cR (aJ c2 hr (aK (pv 0) (aK aB (aK (bM (v:=.int 20) rfl e3 ⟨_,rfl⟩) ao)))) (fX (aM (gA rfl) rfl T.all ú (aK (bI ["part"] [none] rfl (dX (pv 0)) (λC fp Z7 s₂ Ï=>⟨bN (i:=0) (nd1 _) rfl (Or.inl rfl),bR,aJ c1 hr (aK (pv 0) ao)⟩) (λC=>trivial) ⟨rfl,rfl,rfl,rfl⟩) ao))))),?_⟩;refine⟨_,rfl,S,v,d,1,20,rfl,th,hz,λH1 s1=>⟨_,rfl,?_⟩⟩;have gu:=th.same s1;have fin:=λH'(s:À H H')=>q H' s;unfold iZ at fin;cases e:bG d 1 20 with|false=>rw[e]at fin;exact bH (fin _ s1);|true=>rw[e]at fin;refine cg ?_;cases gu with|@tup a xs ds ea r=>exact dY qX rfl ea r (gD r hz) (λv d H2 Q2 hm s2 t2 q2=>⟨_,rfl,S,v,d,rfl,t2,kJ hm hz,q2⟩) λH2 s2=>fin _ (s1.trans s2);|_=>cases e
theorem ţ:Á ["thing","holder","sort","first","last","sacks","price"] ["thing"] (aD (top 36)):=ù
theorem qx(F:Û K "is_promise" "is_promise" (top 36) f fd)(T:Mg mg)(N:Nums mg)(c1:ã P w K mg base 2 "are_wholes" ["thing","many"] (Hm bK)):Í P w K mg base Ý 3 f fd ["thing"] (ō kI):=by
 refine F.oq ţ λai A outer s H vs Q E hr h=>?_;obtain⟨S,v,d,rfl,th,hz,q⟩:=h;obtain⟨t1,e1⟩:=N.holders;obtain⟨t2,e2⟩:=N.sorts;obtain⟨t3,e3⟩:=N.year;obtain⟨t4,e4⟩:=N.sacks;obtain⟨t5,e5⟩:=N.price;refine⟨_,aC (cG (cC (dH (aJ c1 hr (aK (pv 0) (aK aB ao))))) (aF (aR jG)) bj) (aC (cO (pv 0) (bC rfl (au (Î 1 ţ.nd) (au (Î 2 ţ.nd) (au (Î 3 ţ.nd) (au (Î 4 ţ.nd) (au (Î 5 ţ.nd) (au (Î 6 ţ.nd) aW)))))))) (aF (aR (cR (dw bT jJ aB (pv 1) (bM (v:=.int 8) rfl e1 ⟨_,rfl⟩)) (cR (dw bT jJ aB (pv 2) (bM (v:=.int 3) rfl e2 ⟨_,rfl⟩)) (cR (Aw bT bT bT aB (pv 3) (pv 4) (bM (v:=.int 19) rfl e3 ⟨_,rfl⟩)) (cR (dw bT bT aB (pv 5) (bM (v:=.int 99) rfl e4 ⟨_,rfl⟩)) (fX (dw bT bT aB (pv 6) (bM (v:=.int 1000000) rfl e5 ⟨_,rfl⟩)))))))))),?_⟩
 refine⟨_,rfl,S,v,d,6,rfl,th,hz,λH1 s1=>⟨_,rfl,?_⟩⟩;have gu:=th.same s1;have fin:=λH'(s:À H H')=>q H' s;unfold kI at fin;cases e:bK d 6 with|false=>rw[e]at fin;exact cg (fin _ s1);|true=>rw[e]at fin;refine bH ?_;obtain⟨z1,z2⟩:=lQ e;cases gu with|@tup a xs ds ea r=>
   have hl:ds.length=6:=by have:=BJ z1;lia
   obtain⟨i1,i2,i3,i4,i5,i6,rfl,rfl⟩:=Ea r hl z2;refine⟨_,rfl,a,_,rfl,Ê.of ea,rfl,_,_,rfl,_,_,rfl,_,_,rfl,_,_,rfl,_,_,rfl,_,_,rfl,rfl,?_⟩;refine iV (cz gn (eF rfl) gn) (λ_=>iV (cz gn (eF rfl) gn) λ_=>iV (Ax gn (eF rfl) (eF rfl) gn) λ_=>iV (cz gn (eF rfl) gn) λ_=>cz gn (eF rfl) gn) _ ?_;exact fin H1 s1;|_=>cases z1
theorem NK:Á ["thing"] ["thing"] (aD (top 37)):=ù
theorem mW(F:Û K "are_promises" "are_promises" (top 37) f fd)(T:Mg mg)(N:Nums mg)(c1:ã P w K mg base 3 "is_promise" ["thing"] (ō kI))(c2:ã P w K mg base 1 "is_tuple_of" ["thing","fewest","most"] (lO bG)):Í P w K mg base Ý 4 f fd ["thing"] (ō gh):=by refine F.oq NK λai A outer s H vs Q E hr h=>?_;obtain⟨S,v,d,rfl,th,hz,q⟩:=h;obtain⟨t3,e3⟩:=N.proms;refine⟨_,aF (aR (cR (aJ c2 hr (aK (pv 0) (aK aB (aK (bM (v:=.int 10) rfl e3 ⟨_,rfl⟩) ao)))) (fX (aM (gA rfl) rfl T.all ú (aK (bI ["part"] [none] rfl (dX (pv 0)) (λC fp Z7 s₂ Ï=>⟨bN (i:=0) (nd1 _) rfl (Or.inl rfl),bR,aJ c1 hr (aK (pv 0) ao)⟩) (λC=>trivial) ⟨rfl,rfl,rfl,rfl⟩) ao))))),?_⟩;refine⟨_,rfl,S,v,d,0,10,rfl,th,hz,λH1 s1=>⟨_,rfl,?_⟩⟩;have gu:=th.same s1;have fin:=λH'(s:À H H')=>q H' s;unfold gh at fin;cases e:bG d 0 10 with|false=>rw[e]at fin;exact bH (fin _ s1);|true=>rw[e]at fin;refine cg ?_;cases gu with|@tup a xs ds ea r=>exact dY kI rfl ea r (gD r hz) (λv d H2 Q2 hm s2 t2 q2=>⟨_,rfl,S,v,d,rfl,t2,kJ hm hz,q2⟩) λH2 s2=>fin _ (s1.trans s2);|_=>cases e
def lU(d:PyData)(lo hi:Int):Bool:=dJ d&&(decide (lo<=î d)&&decide (î d<=hi))
def jm(H:Hp)(st:Addr):Prop:=∃a b,H st=some (.lst [.int a,.int b])/\0<=a/\0<=b/\b<4294967296
def Ι(st:Addr)(H H':Hp):Prop:=∀b o,H b=some o->b≠st->H' b=some o
inductive τ(K:Frag)(vs:List V)(H:Hp)(Q:VK):Prop|mk:∀a(ns:PP)k,(vs=[.ref a,.int k])->(É K H a (ns.map V.int))->(0<=k)->(∀i,Q (.int i) H)->τ K vs H Q
def Eb(K:Frag):Sp:=λvs H Q _=>τ K vs H Q
inductive ŵ(K:Frag)(vs:List V)(H:Hp)(Q:VK):Prop|mk:∀a(ns:PP)k,(vs=[.ref a,.int k])->(É K H a (ns.map V.int))->(0<=k)->(∀p x y,H p=none->0<=x->0<=y->y<4294967296->Q (.ref p) (upd H p (.lst [.int x,.int y])))->ŵ K vs H Q
def yS(K:Frag):Sp:=λvs H Q _=>ŵ K vs H Q
inductive ζ(vs:List V)(H:Hp)(Q:VK):Prop|mk:∀st n,(vs=[.ref st,.int n])->(jm H st)->(1<=n)->(n<1073741824)->(∀r a' b',0<=r->r<n->0<=a'->0<=b'->b'<4294967296->Q (.int r) (upd H st (.lst [.int a',.int b'])))->ζ  vs H Q
def lV:Sp:=λvs H Q _=>ζ  vs H Q
theorem NQ:Á [Ŭ,ϵ] [Ŭ,ϵ] (aD (top 71)):=ù
theorem Hn(F:Û K "_law_cell_at" "_law_cell_at" (top 71) f fd)(T:Mg mg):Í P w K mg base Ý 1 f fd [Ŭ,ϵ] (Eb K):=by
 refine F.oq NQ λai A outer s H vs Q E hr h=>?_;obtain⟨a,ns,k,rfl,hS,h0,q⟩:=h;refine⟨_,aC (cG (bf jJ (pv 1) (aM bu rfl T.len PySem.boot_len (aK (pv 0) ao)) (bh _)) (aF (aR (pX bV (pv 0) (pv 1)))) bj) (aF (aR aB)),?_⟩;refine⟨_,rfl,_,rfl,a,_,rfl,.inl hS,_,_,rfl,rfl,_,rfl,?_⟩;refine mU (λc=>?_) (λ_=>q 0);have c:=ŋ c;rw[Ð]at c;have hk:k.toNat<ns.length:=Z1;refine⟨_,rfl,_,rfl,a,_,k,.int ns[k.toNat],rfl,rfl,hS,?_,q _⟩;have e:(ns.map V.int)[k.toNat]?=some (.int ns[k.toNat]):=by rw[ý,Ö hk];rfl
 have:=dU e;rw[show((k.toNat:Nat):Int)=k by lia]at this;exact this
theorem Z03:Á [Ŭ,ϵ,"_law_cell"] [Ŭ,ϵ] (aD (top 72)):=ù
theorem Ec(F:Û K "_law_state" "_law_state" (top 72) f fd)(c1:ã P w K mg base 1 "_law_cell_at" [Ŭ,ϵ] (Eb K)):Í P w K mg base Ý 2 f fd [Ŭ,ϵ] (yS K):=by
 refine F.oq Z03 λai A outer s H vs Q E hr h=>?_;obtain⟨a,ns,k,rfl,hS,h0,q⟩:=h;refine⟨_,aC (ć 2 Z03.nd (aJ c1 hr (aK (pv 0) (aK (pv 1) ao)))) (aC (cG (bf uC (pv 2) (aQ wH aB aB) (bh _)) (aF (aR (cP (aA (aQ du (pv 2) (aQ wH aB aB)) (aA (aQ bL (aQ gQ (pv 2) aB) aB) ao))))) bj) (aF (aR (cP (aA aB (aA (aQ bL (aQ gQ (pv 2) aB) aB) ao)))))),?_⟩;refine⟨_,rfl,_,rfl,a,ns,k,rfl,hS,h0,λc=>?_⟩;refine⟨_,rfl,_,_,rfl,rfl,⟨by decide,by decide,by decide⟩,_,_,rfl,rfl,_,rfl,?_⟩;refine mU (λhc=>?_) (λ_=>?_)
 .have hc:=ŋ hc;refine⟨_,rfl,_,_,rfl,rfl,⟨by decide,by decide,by decide⟩,_,_,rfl,rfl,_,rfl,_,_,rfl,rfl,(by show(0:Int)<2147483629;decide),_,_,rfl,rfl,zL,λp hp=>?_⟩;refine q p _ _ hp ?_ ?_ ?_;.show 0<=c-(10:Int)^18;have hc:(10:Int)^18<=c:=hc;lia
  .show 0<=c%2147483629+1;lia
  .show c%2147483629+1<4294967296;lia
 .refine⟨_,rfl,_,_,rfl,rfl,(by show(0:Int)<2147483647;decide),_,_,rfl,rfl,zL,λp hp=>?_⟩;refine q p _ _ hp (Za8 0) ?_ ?_;.show 0<=c%2147483647+1;lia
  .show c%2147483647+1<4294967296;lia
theorem Z02:Á [ċ,AAr,ϋ,"_law_stirred"] [ċ,AAr] (aD (top 73)):=ù
theorem Ho(F:Û K AAt AAt (top 73) f fd):Í P w K mg base Ý 1 f fd [ċ,AAr] lV:=by
 refine F.oq Z02 λai A outer s H vs Q E hr h=>?_;obtain⟨st,n,rfl,⟨a,b,es,ha,hb,iE⟩,h1,h2,q⟩:=h;refine⟨_,aC (cG (bf mD (pX bV (pv 0) aB) aB (bh _)) (aC (ć 2 Z02.nd (aQ gQ (pX bV (pv 0) aB) (pv 1))) (aC (cO (aQ je (pX bV (pv 0) aB) (pv 1)) (oA (pv 0) aB Ā)) (aF (aR (pv 2))))) bj) (aC (cO (aQ gQ (aQ bL (aQ fY (pX bV (pv 0) aB) aB) aB) aB) (oA (pv 0) aB Ā)) (aC (ć 3 Z02.nd (aQ gQ (aQ bL (aQ bL (aQ fY (pX bV (pv 0) aB) (pX bV (pv 0) aB)) (aQ fY aB (pX bV (pv 0) aB))) aB) aB)) (aC (ć 3 Z02.nd (aQ gQ (aQ bL (aQ bL (aQ fY (pv 3) (pv 3)) (aQ fY aB (pv 3))) aB) aB)) (aF (aR (aQ gQ (aQ je (pv 3) aB) (pv 1))))))),?_⟩;refine⟨_,rfl,st,_,0,.int a,rfl,rfl,É.of es,rfl,_,_,rfl,rfl,_,rfl,?_⟩;refine mU (λhc=>?_) (λ_=>?_);.refine⟨_,rfl,st,_,0,.int a,rfl,rfl,É.of es,rfl,_,rfl,_,_,rfl,rfl,(by show 0<n;lia),?_⟩;refine⟨_,rfl,st,_,0,.int a,rfl,rfl,É.of es,rfl,_,rfl,_,_,rfl,rfl,⟨Z1,h2⟩,_,rfl,st,_,0,0,rfl,rfl,es,rfl,_,rfl,?_⟩;exact q (a%n) (a/n) b (Zbh a Z1) (Za7 a Z1) (Int.ediv_nonneg ha Z1) hb iE
 .refine⟨_,rfl,st,_,1,.int b,rfl,rfl,É.of es,rfl,_,_,rfl,rfl,.inl ⟨Z1,Z1⟩,_,_,rfl,rfl,_,_,rfl,rfl,(by show(0:Int)<2147483647;decide),_,rfl,st,_,1,1,rfl,rfl,es,rfl,?_⟩;have OK:0<=(b*48271+29)%2147483647:=Zbh _ Z3;have SN:(b*48271+29)%2147483647<2147483647:=Za7 _ Z3;obtain⟨m,hm⟩:∃m,m=(b*48271+29)%2147483647:=⟨_,rfl⟩;rw[<-hm]at OK SN;have eL:([V.int a,V.int b].set 1 ((λi j:Int=>V.int (i%j)) (b*48271+29) 2147483647))=[V.int a,V.int m]:=by rw[hm];rfl
  rw[eL];have gz:upd H st (.lst [.int a,.int m]) st=some (.lst [.int a,.int m]):=aj;refine⟨_,rfl,st,_,1,.int m,rfl,rfl,É.of gz,rfl,_,rfl,st,_,1,.int m,rfl,rfl,É.of gz,rfl,_,_,rfl,rfl,.inl ⟨Z1,Z1⟩,_,rfl,st,_,1,.int m,rfl,rfl,É.of gz,rfl,_,_,rfl,rfl,.inl ⟨by decide,by decide⟩,_,_,rfl,rfl,_,_,rfl,rfl,_,_,rfl,rfl,(by show(0:Int)<2147483629;decide),?_⟩;have LF:0<=(m*m+39373*m+7)%2147483629:=Zbh _ Z3;have yn:(m*m+39373*m+7)%2147483629<2147483629:=Za7 _ Z3;refine⟨_,rfl,_,rfl,_,_,rfl,rfl,.inl ⟨Int.lt_of_lt_of_le Z3 LF,Int.lt_trans yn Z3⟩,_,rfl,_,_,rfl,rfl,.inl ⟨by decide,by decide⟩,_,_,rfl,rfl,_,_,rfl,rfl,_,_,rfl,rfl,(by show(0:Int)<2147483587;decide),?_⟩;refine⟨_,rfl,_,_,rfl,rfl,⟨by decide,by decide⟩,_,rfl,_,_,rfl,rfl,(by show 0<n;lia),?_⟩;exact q _ a m (Zbh _ Z1) (Za7 _ Z1) ha OK Z1
theorem iB:bootBuiltins "repr"=some (.builtin "repr"):=by decide+kernel
inductive μ(vs:List V)(H:Hp)(Q:VK):Prop|mk:∀S v u d e,(vs=[v,u])->(¬S sysModules)->(Ò S H v d)->(Ò S H u e)->(ø d=true)->(ø e=true)->(sz d<=1000)->(sz e<=1000)->(Q (.bl (decide (V.str d.shown=V.str e.shown))) H)->μ  vs H Q
def Ed:Sp:=λvs H Q _=>μ  vs H Q
theorem nH(hr:ä k A)(hk:60<=k)(h:sz d<=1000):A.units+(sz d+1)<cLine:=by have:=hr.un;lia
theorem NT:Á [ϋ,AAv] [ϋ,AAv] (aD (top 88)):=ù
theorem Hq(F:Û K "_law_same" "_law_same" (top 88) f fd)(Tr:mg "repr"=none):Í P w K mg base Ý 61 f fd [ϋ,AAv] Ed:=by refine F.oq NT λai A outer s H vs Q E hr h=>?_;obtain⟨S,v,u,d,e,rfl,hS,t1,t2,m1,m2,z1,z2,q⟩:=h;refine⟨_,aF (aR (jf mz (aM (jg (S:=S) hr.gd hS) rfl Tr iB (aK (pv 0) ao)) (aM (jg (S:=S) hr.gd hS) rfl Tr iB (aK (pv 1) ao)) (bh _))),?_⟩;exact⟨_,rfl,v,d,rfl,t1,m1,Z1,nH hr (Ø _) z1,_,rfl,u,e,rfl,t2,m2,Z1,nH hr (Ø _) z2,rfl,q⟩
mutual
def tm(B:Nat):PyData->Bool|.none=>true|.bool _=>true|.int i=>decide (i.natAbs<B)|.str x=>decide (x.length<=10)&&x.cps.toList.all λc=>decide (c<16^8)|.list xs=>ύ B xs|.tuple xs=>ύ B xs|.dict kvs=>dN B kvs
def ύ(B:Nat):Ys->Bool|[]=>true|x::xs=>tm B x&&ύ B xs
def dN(B:Nat):List (PyData×PyData)->Bool|[]=>true|(.int i,.int j)::r=>decide (i.natAbs<B)&&decide (j.natAbs<B)&&dN B r|_::_=>false
end
theorem yU(h:B<=C):∀kvs,dN B kvs=true->dN C kvs=true|[],_=>rfl|(.int i,.int j)::r,e=>by have e:(decide (i.natAbs<B)&&decide (j.natAbs<B)&&dN B r)=true:=e;simp only[Bool.and_eq_true,ă]at e;show(decide (i.natAbs<C)&&decide (j.natAbs<C)&&dN C r)=true;rw[yU h r e.2,ñ (by lia:i.natAbs<C),ñ (by lia:j.natAbs<C)];rfl;|(.none,_)::_,h=>by simp[dN]at h;|(.bool _,_)::_,h=>by simp[dN]at h;|(.str _,_)::_,h=>by simp[dN]at h;|(.list _,_)::_,h=>by simp[dN]at h;|(.tuple _,_)::_,h=>by simp[dN]at h;|(.dict _,_)::_,h=>by simp[dN]at h;|(.int _,.none)::_,h=>by simp[dN]at h;|(.int _,.bool _)::_,h=>by simp[dN]at h;|(.int _,.str _)::_,h=>by simp[dN]at h;|(.int _,.list _)::_,h=>by simp[dN]at h;|(.int _,.tuple _)::_,h=>by simp[dN]at h;|(.int _,.dict _)::_,h=>by simp[dN]at h
mutual
theorem Z07(h:B<=C):∀d,tm B d=true->tm C d=true|.none,_=>rfl|.bool _,_=>rfl|.int i,e=>by have e:decide (i.natAbs<B)=true:=e;rw[ă]at e;exact ñ (show i.natAbs<C by lia);|.str _,e=>e|.list xs,e=>xF h xs e|.tuple xs,e=>xF h xs e|.dict kvs,e=>yU h kvs e
theorem xF(h:B<=C):∀ds,ύ B ds=true->ύ C ds=true|[],_=>rfl|d::ds,e=>by have e:(tm B d&&ύ B ds)=true:=e;rw[ġ]at e;show(tm C d&&ύ C ds)=true;rw[Z07 h d e.1,xF h ds e.2];rfl
end
theorem qY:∀kvs,dN (2^128) kvs=true->gB kvs=true|[],_=>rfl|(.int i,.int j)::r,e=>by have e:(decide (i.natAbs<2^128)&&decide (j.natAbs<2^128)&&dN (2^128) r)=true:=e;rw[ġ]at e;show(decide (i.natAbs<2^128)&&decide (j.natAbs<2^128)&&gB r)=true;rw[e.1,qY r e.2];rfl;|(.none,_)::_,h=>by simp[dN]at h;|(.bool _,_)::_,h=>by simp[dN]at h;|(.str _,_)::_,h=>by simp[dN]at h;|(.list _,_)::_,h=>by simp[dN]at h;|(.tuple _,_)::_,h=>by simp[dN]at h;|(.dict _,_)::_,h=>by simp[dN]at h;|(.int _,.none)::_,h=>by simp[dN]at h;|(.int _,.bool _)::_,h=>by simp[dN]at h;|(.int _,.str _)::_,h=>by simp[dN]at h;|(.int _,.list _)::_,h=>by simp[dN]at h;|(.int _,.tuple _)::_,h=>by simp[dN]at h;|(.int _,.dict _)::_,h=>by simp[dN]at h
mutual
theorem yV:∀d,tm (2^128) d=true->ø d=true|.none,_=>rfl|.bool _,_=>rfl|.int i,e=>e|.str _,e=>e|.list xs,e=>pJ xs e|.tuple xs,e=>pJ xs e|.dict kvs,e=>qY kvs e
theorem pJ:∀ds,ύ (2^128) ds=true->iU ds=true|[],_=>rfl|d::ds,e=>by have e:(tm (2^128) d&&ύ (2^128) ds)=true:=e;rw[ġ]at e;show(ø d&&iU ds)=true;rw[yV d e.1,pJ ds e.2];rfl
end
theorem Hr(h:tm B d=true)(hB:B<=2^128):ø d=true:=yV d (Z07 hB d h)
theorem š:∀{ds:Ys},ύ B ds=true↔∀d∈ds,tm B d=true|[]=>Iff.intro (λ_ _ h=>absurd h List.not_mem_nil) (λ_=>rfl)|x::ds=>by show(tm B x&&ύ B ds)=true↔_;rw[ġ,š (ds:=ds)];exact⟨λ⟨h1,h2⟩d hd=>(Ġ.mp hd).elim (λe=>e▸h1) (h2 d),λh=>⟨h x Zap,λd hd=>h d (Zaj _ hd)⟩⟩
theorem vH(hK:X.K=K):IxR X (Le K):=by subst hK;exact bV
theorem NZ:([ϡ,ċ,"_law_wide"]:ç).Nodup:=by decide+kernel
theorem Z01:Á [ċ,Š,"_law_wide",ϋ,"_law_turn"] [ċ,Š] (aD (top 74)):=ù
structure Mk3(st p3:Addr)(xs:List V)(ds:Ys)(H H':Hp):Prop where
 bt:Ι st H H'
 sa:jm H' st
 e3:H' p3=some (.lst xs)ts:Å (λ_=>False) H' xs ds
theorem Mk3.take(g:Mk3 st p3 xs ds H H')(np:p3≠st)(h1:0<=a)(h2:0<=b)(h3:b<4294967296):Mk3 st p3 xs ds H (upd H' st (.lst [.int a,.int b])):=by
 refine⟨λb' o' e' ne=>?_,⟨a,b,aj,h1,h2,h3⟩,by rw[aq np];exact g.e3,g.ts.keep (λc l e=>?_) (λ_ _ z _=>z.elim) λ_ _ z _=>z.elim⟩;.rw[aq ne];exact g.bt b' o' e' ne
 .obtain⟨x,y,e7,_⟩:=g.sa;have:c≠st:=λz=>by rw[z,e7]at e;cases e
  rw[aq this];exact e
theorem Mk3.new(g:Mk3 st p3 xs ds H H')(hp:H' p=none):Mk3 st p3 xs ds H (upd H' p o):=by obtain⟨x,y,e7,k⟩:=g.sa;exact⟨λb' o' e' ne=>À.upd hp _ _ (g.bt b' o' e' ne),⟨x,y,À.upd hp _ _ e7,k⟩,À.upd hp _ _ g.e3,g.ts.same (À.upd hp)⟩
theorem ģ:bootBuiltins "min"=some (.builtin "min"):=by decide+kernel
theorem Ξ:Á [ċ,Š,AAo,ϋ,"_law_wide","_law_turn","_law_first","_law_last","_law_price",AAu] [ċ,Š,AAo] (aD (top 75)):=ù
structure Dr(st:Addr)(H H':Hp):Prop where
 bt:Ι st H H'
 sa:jm H' st
theorem Ι.refl:Ι st H H:=λ_ _ e _=>e
theorem Dr.same(g:Dr st H H1)(s:À H1 H2):Dr st H H2:=by obtain⟨a,b,e,k⟩:=g.sa;exact⟨λb' o' e' ne=>s _ _ (g.bt b' o' e' ne),a,b,s _ _ e,k⟩
theorem Dr.trans(g:Dr st H H1)(g':Dr st H1 H2):Dr st H H2:=⟨λb' o' e' ne=>g'.bt _ _ (g.bt b' o' e' ne) ne,g'.sa⟩
theorem Dr.take(g:Dr st H H1)(h1:0<=a)(h2:0<=b)(h3:b<4294967296):Dr st H (upd H1 st (.lst [.int a,.int b])):=⟨λb' o' e' ne=>by rw[aq ne];exact g.bt b' o' e' ne,a,b,aj,h1,h2,h3⟩
theorem Dr.new(g:Dr st H H1)(hp:H1 p=none):Dr st H (upd H1 p o):=g.same (À.upd hp)
theorem Dr.ne(g:Dr st H H1)(hp:H1 p=none):p≠st:=λz=>by obtain⟨a,b,e,_⟩:=g.sa;rw[z,e]at hp;cases hp
theorem jD:bootBuiltins "list"=some (.type "list"):=by decide+kernel
def cu(r:PP):PyData:=.tuple (r.map .int)
def bU(rs:PK):PyData:=.tuple (rs.map cu)
def fl(r:PP)(i:Nat):Int:=r.getD i 0
def č(r:PP):Prop:=r.length=6/\(0<=fl r 0/\fl r 0<8)/\(0<=fl r 1/\fl r 1<3)/\(0<=fl r 2/\fl r 2<=fl r 3/\fl r 3<=19)/\(1<=fl r 4/\fl r 4<=99)/\(0<=fl r 5/\fl r 5<=1000000)
def gj(d:PyData):Bool:=bG d 0 12&&(items d).all λx=>bK x 5
def ß(d:PyData):PK:=(items d).map λx=>(items x).map î
theorem Ef:∀{ds:Ys},(∀x∈ds,dJ x=true)->ds=(ds.map î).map PyData.int|[],_=>rfl|d::ds,h=>by rw[ě,ě,<-Ef λx hx=>h x (Zaj _ hx)];have:=h d Zap;cases d with|int i=>rfl;|_=>cases this
theorem jE{n:Nat}(h:bK x n=true):x=cu ((items x).map î)/\((items x).map î).length=n:=by obtain⟨h1,h2⟩:=lQ h;unfold bG at h1;rw[ġ,ġ,ă,ă]at h1;obtain⟨ht,dQ,eC⟩:=h1;cases x with|tuple ds=>have dQ:(n:Int)<=ds.length:=dQ;have eC:(ds.length:Int)<=n:=eC;refine⟨?_,by show(ds.map î).length=n;rw[Ð];lia⟩;exact congrArg PyData.tuple (Ef h2);|_=>cases ht
theorem yW{ds:Ys}{n:Nat}(h:∀x∈ds,bK x n=true):ds=(ds.map λx=>(items x).map î).map cu:=by induction ds with|nil=>rfl;|cons d ds ih=>rw[ě,ě,<-ih λx hx=>h x (Zaj _ hx),<-(jE (h d Zap)).1]
theorem lW{f m:Int}(h:bG d f m=true):∃ds,d=.tuple ds/\f<=ds.length/\(ds.length:Int)<=m:=by unfold bG at h;rw[ġ,ġ,ă,ă]at h;cases d with|tuple ds=>exact⟨ds,rfl,h.2⟩;|_=>cases h.1
theorem qZ(r:PP)(i:Nat)(h:i<r.length):at_ (cu r) i=fl r i:=by show î ((r.map PyData.int).getD i .none)=r.getD i 0;rw[Ğ,Ğ,ý,Ö h];rfl
theorem xG(h:gh d=true):d=bU (ß d)/\(ß d).length<=10/\∀r∈ß d,č r:=by
 unfold gh at h;rw[ġ]at h;obtain⟨ds,rfl,_,hl⟩:=lW h.1;have h2:∀x∈ds,kI x=true:=Ő.mp h.2;have h3:∀x∈ds,bK x 6=true:=λx hx=>by have:=h2 x hx;unfold kI at this;rw[ġ]at this;exact this.1
 refine⟨congrArg PyData.tuple (yW (n:=6) h3),by show(ds.map _).length<=10;rw[Ð];lia,λr hr=>?_⟩;obtain⟨x,hx,rfl⟩:=è.mp hr;have hx:x∈ds:=hx;obtain⟨e,FI⟩:=jE (n:=6) (h3 x hx);have:=h2 x hx;unfold kI at this;rw[ġ]at this;have p:=this.2;rw[e]at p;rw[qZ _ 0 Z1,qZ _ 1 Z1,qZ _ 2 Z1,qZ _ 3 Z1,qZ _ 4 Z1,qZ _ 5 Z1]at p;unfold tO at p;simp only[Bool.and_eq_true,ă]at p;obtain⟨⟨a1,a2⟩,⟨b1,b2⟩,⟨c1,c2,c3⟩,⟨d1,d2⟩,e1,e2⟩:=p;exact⟨FI,⟨a1,a2⟩,⟨b1,b2⟩,⟨c1,c2,c3⟩,⟨d1,d2⟩,e1,e2⟩
theorem xH(h:gj d=true):d=bU (ß d)/\(ß d).length<=12/\∀r∈ß d,r.length=5:=by unfold gj at h;rw[ġ]at h;obtain⟨ds,rfl,_,hl⟩:=lW h.1;have h3:∀x∈ds,bK x 5=true:=Ő.mp h.2;refine⟨congrArg PyData.tuple (yW (n:=5) h3),by show(ds.map _).length<=12;rw[Ð];lia,λr hr=>?_⟩;obtain⟨x,hx,rfl⟩:=è.mp hr;exact(jE (n:=5) (h3 x hx)).2
structure Ã(H:Hp)(a:Addr)(xs:List V)(rs:PK):Prop where
 e:H a=some (.tup xs)l:xs.length=rs.length
 g:∀(i:Nat)(r:PP),rs[i]?=some r->∃t,xs[i]?=some (V.ref t)/\H t=some (.tup (r.map V.int))
theorem Ã.keep(h:Ã H a xs rs)(k:∀b l,H b=some (.tup l)->H' b=some (.tup l)):Ã H' a xs rs:=⟨k _ _ h.e,h.l,λi r e=>by obtain⟨t,e1,e2⟩:=h.g i r e;exact⟨t,e1,k _ _ e2⟩⟩
theorem Ã.same(h:Ã H a xs rs)(s:À H H'):Ã H' a xs rs:=h.keep λ_ _ e=>s _ _ e
theorem vI:∀{r:PP}{xs:List V},Å S H xs (r.map .int)->xs=r.map V.int|[],_,.nil=>rfl|i::r,_,.cons h t=>by cases h;rw[vI (r:=r) t];rfl
theorem JZ(h:Ò S H v (cu r)):∃t,v=V.ref t/\H t=some (.tup (r.map V.int)):=by generalize hd:cu r=d at h;cases h with|@tup a xs ds e t=>injection hd with hd;subst hd;rw[vI t]at e;exact⟨a,rfl,e⟩;|_=>cases hd
theorem kW(h:Ò S H v (bU rs)):∃a xs,v=.ref a/\Ã H a xs rs:=by generalize hd:bU rs=d at h;cases h with|@tup a xs ds e t=>injection hd with hd;subst hd;refine⟨a,xs,rfl,e,by rw[t.length,Ð],λi r hr=>?_⟩;have hi:i<rs.length:=(ĩ.mp hr).1;have hx:xs[i]?=some (xs[i]'(by rw[t.length,Ð];exact hi)):=Ö _;obtain⟨d,h1,h2⟩:=t.get hx;rw[ý,hr]at h1;injection h1 with h1;subst h1;obtain⟨t',e1,e2⟩:=JZ h2;exact⟨t',by rw[hx,e1],e2⟩;|_=>cases hd
theorem Ã.th:∀{rs:PK}{xs:List V},Ã H a xs rs->Ò (λ_=>False) H (.ref a) (bU rs):=by
 intro rs xs h;refine .tup h.e ?_;have gen:∀(rs:PK)(xs:List V),xs.length=rs.length->(∀(i:Nat)(r:PP),rs[i]?=some r->∃t,xs[i]?=some (V.ref t)/\H t=some (.tup (r.map V.int)))->Å (λ_=>False) H xs (rs.map cu):=by intro rs;induction rs with|nil=>intro xs hl _;have:xs=[]:=Zbj.mp hl;subst this;exact .nil;|cons r rs ih=>intro xs hl hg;cases xs with|nil=>simp at hl;|cons x xs=>
    obtain⟨t,e1,e2⟩:=hg 0 r rfl;have e1:x=.ref t:=by simpa using e1
    subst e1;exact .cons (.tup e2 (Å.ints r)) (ih xs (by simpa using hl) λi r' e=>hg (i+1) r' (by simpa using e))
 exact gen rs xs h.l h.g
def jF(L:PP)(i:Int)(v:Int):PP:=L.set i.toNat (L.getD i.toNat 0+v)
def å(n y:Int)(L:PP)(s:PP):PP:=if fl s 0=n/\fl s 4<=y then jF (jF L (fl s 1) (-(fl s 3))) (fl s 2) (fl s 3)else L
def đ(p:PP):PP:=(List.replicate 8 0).set (fl p 0).toNat (fl p 4)
def bA(p:PP)(ss:PK)(n y:Int):PP:=if fl p 2<=y/\y<=fl p 3 then ss.foldl (å n y) (đ p)else List.replicate 8 0
def jn(ps:PK)(s:PP):PP:=ps.getD (fl s 0).toNat []
def mX(ps:PK)(s:PP):Bool:=(decide (0<=fl s 0)&&decide (fl s 0<ps.length))&&((decide (0<=fl s 1)&&decide (fl s 1<8))&&((decide (0<=fl s 2)&&decide (fl s 2<8))&&((!decide (fl s 1=fl s 2))&&((decide (1<=fl s 3)&&decide (fl s 3<=99))&&(decide (fl (jn ps s) 2<=fl s 4)&&decide (fl s 4<=fl (jn ps s) 3))))))
def years(a b:Int):PP:=(List.range (b+1-a).toNat).map λ(i:Nat)=>a+i
def cF(ps ss:PK)(s:PP):Bool:=mX ps s&&(years (fl s 4) (fl (jn ps s) 3)).all λy=>decide (fl s 3<=(bA (jn ps s) ss (fl s 0) y).getD (fl s 1).toNat 0)
def un(ps ss:PK):Option Nat:=(List.range ss.length).find? λi=>!cF ps (ss.take i) (ss.getD i [])
theorem j0(L:PP)(i v:Int):(jF L i v).length=L.length:=by unfold jF;rw[Za1]
theorem BK(n y:Int)(L s:PP):(å n y L s).length=L.length:=by
 unfold å;split;.rw[j0,j0]
 .rfl
theorem fB(p:PP)(ss:PK)(n y:Int):(bA p ss n y).length=8:=by
 unfold bA;split
 .have:∀(ss:PK)(L:PP),L.length=8->(ss.foldl (å n y) L).length=8:=by intro ss;induction ss with|nil=>exact λL h=>h;|cons s ss ih=>exact λL h=>ih _ (by rw[BK];exact h)
  exact this ss _ (by unfold đ;rw[Za1,Zbb])
 .rw[Zbb]
theorem jk:KD X (λx y H Q=>∃p xs i v,x=.ref p/\y=.int i/\É X.K H p xs/\0<=i/\xs[i.toNat]?=some v/\Q v H):=by intro Z7 s σ H x y v u Q I rx ry h;obtain⟨p,xs,i,z,rfl,rfl,hq,h0,he,q⟩:=h;cases rx;obtain⟨t,rfl⟩:=ry;obtain⟨Z8,r,pl,hz⟩:=I.list hq;obtain⟨w,ew,fI⟩:=r.get he;have hn:=lE;have hl:=r.length;have hi:=(ĩ.mp he).1;exact PySem.wpAny_getItem_list pl.isList h0 Z1 (by simpa using ew) ⟨z,H,I,fI,q⟩
theorem dW(h:p.length=6):p=[fl p 0,fl p 1,fl p 2,fl p 3,fl p 4,fl p 5]:=by obtain⟨a,b,c,d,e,f,rfl⟩:=Ml h;rfl
theorem j4(h:p.length=5):p=[fl p 0,fl p 1,fl p 2,fl p 3,fl p 4]:=by obtain⟨a,b,c,d,e,rfl⟩:=Mj h;rfl
theorem tV(L:PP)(i:Nat)(v:Int):(L.map V.int).set i (.int v)=(L.set i v).map V.int:=by rw[List.map_set]
theorem iC{L:PP}(h:i<L.length):(L.map V.int)[i]?=some (.int (L.getD i 0)):=by rw[ý,Ö h,Ğ,Ö h];rfl
theorem yX{n:Nat}{i:Int}(h0:0<=i)(h1:i<n):Ϝ n i=some i.toNat:=by unfold Ϝ;rw[È h0,È h1]
def Η(s:PP):Prop:=s.length=5/\(0<=fl s 1/\fl s 1<8)/\(0<=fl s 2/\fl s 2<8)
inductive ς(vs:List V)(H:Hp)(Q:VK):Prop|mk:∀ap xp ps ar xs ss n y,(vs=[.ref ap,.ref ar,.int n,.int y])->(Ã H ap xp ps)->(Ã H ar xs ss)->(0<=n)->(n<ps.length)->(č (ps.getD n.toNat []))->(ss.length<=12)->((∀s∈ss,Η s))->(∀l H',À H H'->H' l=some (.lst ((bA (ps.getD n.toNat []) ss n y).map V.int))->Q (.ref l) H')->ς  vs H Q
def xJ:Sp:=λvs H Q _=>ς  vs H Q
structure MS(mg:RG):Prop where sales:∃t,mg "MOST_SALES"=some (.int 12 t)
theorem Mm:Á ["thing"] ["thing"] (aD (top 38)):=ù
theorem tW(F:Û K "are_sales" "are_sales" (top 38) f fd)(T:Mg mg)(N:MS mg)(c1:ã P w K mg base 2 "are_wholes" ["thing","many"] (Hm bK))(c2:ã P w K mg base 1 "is_tuple_of" ["thing","fewest","most"] (lO bG)):Í P w K mg base Ý 3 f fd ["thing"] (ō gj):=by refine F.oq Mm λai A outer s H vs Q E hr h=>?_;obtain⟨S,v,d,rfl,th,hz,q⟩:=h;obtain⟨t3,e3⟩:=N.sales;refine⟨_,aF (aR (cR (aJ c2 hr (aA (pv 0) (aA aB (aA (bM (v:=.int 12) rfl e3 ⟨_,rfl⟩) ao)))) (fX (aM (gA rfl) rfl T.all ú (aA (bI ["part"] [none] rfl (dX (pv 0)) (λC fp Z7 s₂ Ï=>⟨bN (i:=0) (nd1 _) rfl (Or.inl rfl),bR,aJ c1 hr (aA (pv 0) (aA aB ao))⟩) (λC=>trivial) ⟨rfl,rfl,rfl,rfl⟩) ao))))),?_⟩;refine⟨_,rfl,S,v,d,0,12,rfl,th,hz,λH1 s1=>⟨_,rfl,?_⟩⟩;have gu:=th.same s1;have fin:=λH'(s:À H H')=>q H' s;unfold gj at fin;cases e:bG d 0 12 with|false=>rw[e]at fin;exact bH (fin _ s1);|true=>rw[e]at fin;refine cg ?_;cases gu with|@tup a xs ds ea r=>exact dY (λx=>bK x 5) rfl ea r (gD r hz) (λv d H2 Q2 hm s2 t2 q2=>⟨_,rfl,S,v,d,5,rfl,t2,kJ hm hz,q2⟩) λH2 s2=>fin _ (s1.trans s2);|_=>cases e
theorem ą:Á ["promises","sales","number","year","holder","sort","first","last","sacks","price","held","promise","seller","buyer","sold","since"] ["promises","sales","number","year"] (aD (top 39)):=ù
theorem Hs(F:Û K "held_in" "held_in" (top 39) f fd)(N:Nums mg):Í P w K mg base Ý 1 f fd ["promises","sales","number","year"] xJ:=by
 refine F.oq ą λai A outer s H vs Q E hr h=>?_;obtain⟨ap,xp,ps,ar,xs,ss,n,y,rfl,rp,rs,n0,n1,okp,hl,cy,q⟩:=h;obtain⟨t1,e1⟩:=N.holders;refine⟨_,aC (cO (pX cB (pv 0) (pv 2)) (bC rfl (au (Î 4 ą.nd) (au (Î 5 ą.nd) (au (Î 6 ą.nd) (au (Î 7 ą.nd) (au (Î 8 ą.nd) (au (Î 9 ą.nd) aW)))))))) (aC (ć 10 ą.nd (aQ Jw (cP (aA aB ao)) (bM (v:=.int 8) rfl e1 ⟨_,rfl⟩))) (aC (cG (cC (gw bT bT (pv 6) (pv 3) (pv 7))) (aF (aR (pv 10))) bj) (aC (cO (pv 8) (oA (pv 10) (pv 4) Ā)) (aC (bZ ĥ rfl (dX (pv 1)) (bC rfl (au (Î 11 ą.nd) (au (Î 12 ą.nd) (au (Î 13 ą.nd) (au (Î 14 ą.nd) (au (Î 15 ą.nd) aW)))))) (aF (cG (PW.pt (wB (bf mz (pv 11) (pv 2) (bh _)) (rQ (bf bT (pv 15) (pv 3) (bh _))))) (aC (rR (pv 10) (pv 12) jk (pv 14) CJ Ā) (aF (rR (pv 10) (pv 13) jk (pv 14) CG Ā))) bj))) (aF (aR (pv 10))))))),?_⟩;obtain⟨p,hp⟩:∃p,ps[n.toNat]?=some p:=⟨_,Ö Z1⟩;have ep:ps.getD n.toNat []=p:=by rw[Ğ,hp];rfl
 rw[ep]at okp q;obtain⟨t,ex,et⟩:=rp.g _ _ hp;have p6:=dW okp.1;obtain⟨l6,⟨a1,a2⟩,b,⟨c1,c2,c3⟩,⟨d1,d2⟩,ee⟩:=id okp;have ip:ŏ xp n=some (.ref t):=by have:=dU ex;rw[show((n.toNat:Nat):Int)=n by lia]at this;exact this
 rw[p6]at et;refine aH ?_;refine⟨_,rfl,_,rfl,ap,xp,n,.ref t,rfl,rfl,Ê.of rp.e,ip,?_⟩;refine⟨t,_,rfl,Ê.of et,rfl,_,_,rfl,_,_,rfl,_,_,rfl,_,_,rfl,_,_,rfl,_,_,rfl,rfl,?_⟩;dsimp only;refine aH (aU ?_);refine⟨zL,λl0 OL=>⟨l0,8,_,rfl,rfl,aj,by decide,by decide,zL,λl1 dQ=>?_⟩⟩;have s1:À H (upd (upd H l0 (.lst [V.int 0])) l1 (.lst (List.replicate (8:Int).toNat [V.int 0]).flatten)):=(À.upd OL).updR dQ;have Ĺ:upd (upd H l0 (.lst [V.int 0])) l1 (.lst (List.replicate (8:Int).toNat [V.int 0]).flatten) l1=some (.lst ((List.replicate 8 (0:Int)).map V.int)):=aj;have yA:H l1=none:=(À.upd OL).free dQ;generalize upd (upd H l0 (.lst [V.int 0])) l1 (.lst (List.replicate (8:Int).toNat [V.int 0]).flatten)=H1 at s1 Ĺ⊢;refine aG ?_;dsimp only;refine aH ?_;refine cz (p:=λi j=>decide (i<=j)) (q:=λi j=>decide (i<=j)) (i:=fl p 2) (j:=y) (k:=fl p 3) (eF rfl) (eF rfl) (eF rfl) _ ⟨_,rfl,?_⟩;by_cases kD:fl p 2<=y/\y<=fl p 3
 .rw[ñ kD.1,ñ kD.2];refine bH (eQ ?_);dsimp only;refine aH ?_;refine⟨_,rfl,_,rfl,_,rfl,l1,_,fl p 0,(fl p 0).toNat,rfl,rfl,Ĺ,yX a1 (by show fl p 0<8;exact a2),?_⟩;rw[tV];dsimp only;refine aH ?_;have SO:ar≠l1:=az rs.e yA;refine⟨_,rfl,ar,rfl,⟨xs,Ê.of (by rw[aq SO];exact s1 _ _ rs.e)⟩,?_⟩;have LG:∀{Hc:Hp}{o:HO},À H Hc->À H (upd Hc l1 o):=λ{Hc o}sm b u e=>by rw[aq (az e yA)];exact sm _ _ e
  refine Gf (xs:=xs) (λi σ Hc=>∃lh kH fx fy fA,σ=[some (.ref ap),some (.ref ar),some (.int n),some (.int y),some (.int (fl p 0)),some (.int (fl p 1)),some (.int (fl p 2)),some (.int (fl p 3)),some (.int (fl p 4)),some (.int (fl p 5)),some (.ref l1),lh,kH,fx,fy,fA]/\À H Hc/\Hc l1=some (.lst (((ss.take i).foldl (å n y) (đ p)).map V.int))) ?_ ?_ ?_ ?_;.exact⟨none,none,none,none,none,rfl,LG s1,aj⟩
  .rintro i σ Hc hi⟨lh,kH,fx,fy,fA,rfl,sm,el⟩;exact Ê.of (sm _ _ rs.e)
  .rintro i x σ Hc hx⟨lh,kH,fx,fy,fA,rfl,sm,el⟩;have hi:i<ss.length:=by have:=(ĩ.mp hx).1;rw[rs.l]at this;exact this
   obtain⟨tr,fE,ff⟩:=rs.g i ss[i] (Ö hi);have:x=.ref tr:=by rw[hx]at fE;exact ŉ fE
   subst this;obtain⟨o1,⟨o2,o3⟩,o4,o5⟩:=cy ss[i] (Č hi);have s5:=j4 o1;have bX:ss.take (i+1)=ss.take i++[ss[i]]:=by rw[Ĝ,Ö hi];rfl
   have DV:(ss.take (i+1)).foldl (å n y) (đ p)=å n y ((ss.take i).foldl (å n y) (đ p)) ss[i]:=by rw[bX,List.foldl_append];rfl
   rw[DV];generalize hL:(ss.take i).foldl (å n y) (đ p)=L at el⊢;have lL:L.length=8:=by have:=fB p (ss.take i) n y;unfold bA at this;rw[È kD,hL]at this;exact this
   generalize ss[i]=r at ff s5 o2 o3 o4 o5⊢;rw[s5]at ff;refine⟨tr,_,rfl,Ê.of (sm _ _ ff),rfl,_,_,rfl,_,_,rfl,_,_,rfl,_,_,rfl,_,_,rfl,rfl,?_⟩;refine⟨_,rfl,_,rfl,rfl,_,rfl,?_⟩;by_cases hn:fl r 0=n
   .rw[ñ (show V.int (fl r 0)=V.int n by rw[hn])];refine cg ?_;refine⟨_,rfl,_,rfl,_,_,rfl,rfl,_,rfl,?_⟩;by_cases hy:fl r 4<=y
    .rw[ñ hy];refine cg ?_;have e1:å n y L r=jF (jF L (fl r 1) (-(fl r 3))) (fl r 2) (fl r 3):=È ⟨hn,hy⟩;rw[e1];refine aH ?_;refine⟨_,rfl,_,rfl,l1,_,fl r 1,_,rfl,rfl,É.of el,o2,iC Z1,_,rfl,_,_,rfl,rfl,l1,_,fl r 1,(fl r 1).toNat,rfl,rfl,el,yX o2 (by rw[Ð];lia),?_⟩;rw[tV];have e2:L.set (fl r 1).toNat (L.getD (fl r 1).toNat 0-fl r 3)=jF L (fl r 1) (-(fl r 3)):=by unfold jF;rw[Int.sub_eq_add_neg]
     rw[e2];generalize SR:jF L (fl r 1) (-(fl r 3))=L1;have YG:L1.length=8:=by rw[<-SR,j0];exact lL
     refine⟨_,rfl,_,rfl,l1,_,fl r 2,_,rfl,rfl,É.of aj,o4,iC Z1,_,rfl,_,_,rfl,rfl,l1,_,fl r 2,(fl r 2).toNat,rfl,rfl,aj,yX o4 (by rw[Ð];lia),?_⟩;rw[tV];exact⟨_,_,_,_,_,rfl,LG (LG sm),aj⟩
    .rw[Ŋ hy];refine bH ?_;have e1:å n y L r=L:=Æ λz=>hy z.2;rw[e1];exact⟨_,_,_,_,_,rfl,sm,el⟩
   .rw[Ŋ (λz:V.int (fl r 0)=V.int n=>hn (by injection z))];refine bH (bH ?_);have e1:å n y L r=L:=Æ λz=>hn z.1;rw[e1];exact⟨_,_,_,_,_,rfl,sm,el⟩
  .rintro σ Hc⟨lh,kH,fx,fy,fA,rfl,sm,el⟩;rw[rs.l,Ĩ]at el;refine⟨_,rfl,q _ _ sm ?_⟩;unfold bA;rw[È kD];exact el
 .have hb:(decide (fl p 2<=y)&&decide (y<=fl p 3))=false:=by cases e:(decide (fl p 2<=y)&&decide (y<=fl p 3))with|false=>rfl;|true=>rw[ġ,ă,ă]at e;exact absurd e kD
  rw[hb];refine cg ⟨_,rfl,q _ _ s1 ?_⟩;unfold bA;rw[Æ kD];exact Ĺ
theorem vJ{Fin:List V->Hp->Prop}(Pv:List V->Hp->Prop)(h0:Pv [] H0)(hz:n<sizeLine)(step:∀i ys H Q,i<n->ys.length=i->Pv ys H->(∀y H',Pv (ys++[y]) H'->Q y H')->te (dP.set j (some (.int (lo+i)))) H Q)(fin:∀ys H,ys.length=n->Pv ys H->Fin ys H):jN (Itr lo n) (bQ j) uF te Fin dP H0:=by
 refine⟨λi m ys σ H=>m=n-i/\i<=n/\ys.length=i/\(∀o,σ.set j o=dP.set j o)/\Pv ys H,⟨_,rfl,Ě _,rfl,λ_=>rfl,h0⟩,?_⟩;rintro i m ys σ H⟨rfl,hi,hy,gI,p⟩;refine⟨Z1,?_⟩;by_cases aE:i<n;.refine .inr ⟨aE,λx H' y=>?_⟩;obtain⟨e,e2⟩:=y;subst e;subst e2;show te (σ.set j (some (.int (lo+i)))) H' _;rw[gI];exact step i ys H' _ aE hy p λy H2 p2=>⟨n-(i+1),Z1,rfl,aE,by rw[ì,hy];rfl,λo=>by rw[List.set_set],p2⟩
 .have e:i=n:=Z1;subst e;exact .inl ⟨Ø _,fin ys H hy p⟩
theorem Mp(a:Ev σ H ta (.int i))(b:Ev σ H tb (.int j)):Ev σ H (ώ rNe ta tb) (.bl (!decide (i=j))):=λQ q=>a _ (b _ ⟨rfl,by have ed:decide (V.int i=V.int j)=decide (i=j):=decide_eq_decide.mpr ⟨λz=>by injection z,λz=>by rw[z]⟩;rw[ed];exact q⟩)
theorem lZ(a b:Int):(years a b).length=(b+1-a).toNat:=by unfold years;rw[Ð,List.length_range]
theorem mj{i:Nat}(h:i<(b+1-a).toNat):(years a b)[i]?=some (a+i):=by unfold years;rw[ý,Zbg h];rfl
theorem rm{α β:Type}{l:List α}{f:α->β}{ys:List β}{x:α}(ey:ys=(l.take ys.length).map f)(hx:l[ys.length]?=some x):ys++[f x]=(l.take (ys++[f x]).length).map f:=by rw[ì,List.length_singleton,Ĝ,hx,ë,<-ey];rfl
inductive υ(vs:List V)(H:Hp)(Q:VK):Prop|mk:∀ap xp ps t s,(vs=[.ref ap,.ref t])->(Ã H ap xp ps)->((∀r∈ps,č r))->(H t=some (.tup (s.map V.int)))->(s.length=5)->(Q (.bl (mX ps s)) H)->υ  vs H Q
def Eg:Sp:=λvs H Q _=>υ  vs H Q
inductive ź(vs:List V)(H:Hp)(Q:VK):Prop|mk:∀ap xp ps ar xs ss t s,(vs=[.ref ap,.ref ar,.ref t])->(Ã H ap xp ps)->((∀r∈ps,č r))->(Ã H ar xs ss)->(ss.length<=12)->((∀s∈ss,Η s))->(H t=some (.tup (s.map V.int)))->(s.length=5)->(∀H',À H H'->Q (.bl (cF ps ss s)) H')->ź  vs H Q
def yZ:Sp:=λvs H Q _=>ź  vs H Q
def ϻ:Option Nat->V|none=>.non|some i=>.int i
inductive ż(vs:List V)(H:Hp)(Q:VK):Prop|mk:∀S v d S' u e,(vs=[v,u])->(Ò S H v d)->(Ò S' H u e)->(gh d=true)->(gj e=true)->(sz d<=4000)->(sz e<=4000)->(∀H',À H H'->Q (ϻ (un (ß d) (ß e))) H')->ż  vs H Q
def za:Sp:=λvs H Q _=>ż  vs H Q
theorem fK{ps:PK}{n:Int}(h:∀r∈ps,č r)(h0:0<=n)(h1:n<ps.length):∃p,ps[n.toNat]?=some p/\ps.getD n.toNat []=p/\č p:=by have hn:n.toNat<ps.length:=Z1;refine⟨ps[n.toNat],Ö hn,?_,h _ (Č hn)⟩;rw[Ğ,Ö hn];rfl
theorem gP{n:Int}{r:PP}(h:Ã H a xs rs)(h0:0<=n)(e:rs[n.toNat]?=some r):∃t,ŏ xs n=some (.ref t)/\H t=some (.tup (r.map V.int)):=by obtain⟨t,e1,e2⟩:=h.g _ _ e;refine⟨t,?_,e2⟩;have:=dU e1;rw[show((n.toNat:Nat):Int)=n by lia]at this;exact this
theorem Ĉ:Á ["promises","sale","number","seller","buyer","sacks","year","holder","sort","first","last","due","price"] ["promises","sale"] (aD (top 40)):=ù
theorem Ht(F:Û K "is_sale_between" "is_sale_between" (top 40) f fd)(T:Mg mg)(N:Nums mg):Í P w K mg base Ý 1 f fd ["promises","sale"] Eg:=by refine F.oq Ĉ λai A outer s H vs Q E hr h=>?_;obtain⟨ap,xp,ps,t,r,rfl,rp,okp,et,h5,q⟩:=h;obtain⟨t1,e1⟩:=N.holders;obtain⟨t4,e4⟩:=N.sacks;refine⟨_,aC (cO (pv 1) (bC rfl (au (Î 2 Ĉ.nd) (au (Î 3 Ĉ.nd) (au (Î 4 Ĉ.nd) (au (Î 5 Ĉ.nd) (au (Î 6 Ĉ.nd) aW))))))) (aC (cG (cC (gw bT jJ aB (pv 2) (aM bu rfl T.len PySem.boot_len (aA (pv 0) ao)))) (aF (aR jG)) bj) (aC (cO (pX cB (pv 0) (pv 2)) (bC rfl (au (Î 7 Ĉ.nd) (au (Î 8 Ĉ.nd) (au (Î 9 Ĉ.nd) (au (Î 10 Ĉ.nd) (au (Î 11 Ĉ.nd) (au (Î 12 Ĉ.nd) aW)))))))) (aF (aR (cR (dw bT jJ aB (pv 3) (bM (v:=.int 8) rfl e1 ⟨_,rfl⟩)) (cR (dw bT jJ aB (pv 4) (bM (v:=.int 8) rfl e1 ⟨_,rfl⟩)) (cR (jf CN (pv 3) (pv 4) (bh _)) (cR (dw bT bT aB (pv 5) (bM (v:=.int 99) rfl e4 ⟨_,rfl⟩)) (fX (dw bT bT (pv 9) (pv 6) (pv 10))))))))))),?_⟩;rw[j4 h5]at et;refine aH ?_;refine⟨_,rfl,t,_,rfl,Ê.of et,rfl,_,_,rfl,_,_,rfl,_,_,rfl,_,_,rfl,_,_,rfl,rfl,?_⟩;dsimp only;refine aH ?_;refine cz (p:=λi j=>decide (i<=j)) (q:=λi j=>decide (i<j)) (i:=0) (j:=fl r 0) (k:=(xp.length:Int)) gn (eF rfl) (λQ h=>⟨_,rfl,ap,xp,rfl,.inr (Ê.of rp.e),h⟩) _ ⟨_,rfl,?_⟩;have fin:=q;unfold mX at fin;rw[rp.l];cases e:(decide (0<=fl r 0)&&decide (fl r 0<ps.length))with|false=>rw[e]at fin;exact cg fin;|true=>rw[e]at fin;rw[ġ,ă,ă]at e;obtain⟨p,hp,ep,op⟩:=fK okp e.1 e.2;obtain⟨tp,ip,fh⟩:=gP rp e.1 hp;rw[dW op.1]at fh;refine bH (eQ ?_);dsimp only;refine aH ?_;refine⟨_,rfl,_,rfl,ap,xp,_,.ref tp,rfl,rfl,Ê.of rp.e,ip,?_⟩;refine⟨tp,_,rfl,Ê.of fh,rfl,_,_,rfl,_,_,rfl,_,_,rfl,_,_,rfl,_,_,rfl,_,_,rfl,rfl,?_⟩;have yB:jn ps r=p:=ep;rw[yB]at fin;exact iV (cz gn (eF rfl) gn) (λ_=>iV (cz gn (eF rfl) gn) λ_=>iV (Mp (eF rfl) (eF rfl)) λ_=>iV (cz gn (eF rfl) gn) λ_=>cz (eF rfl) (eF rfl) (eF rfl)) _ fin
theorem Ŀ:Á ["promises","ahead","sale","number","seller","buyer","sacks","year","last"] ["promises","ahead","sale"] (aD (top 41)):=ù
theorem O1:(["at","promises","ahead","number","seller","sacks"]:ç).Nodup:=by decide+kernel
theorem Eh(F:Û K "sale_holds" "sale_holds" (top 41) f fd)(T:Mg mg)(Tr:mg "range"=none)(c1:ã P w K mg base 1 "is_sale_between" ["promises","sale"] Eg)(c2:ã P w K mg base 1 "held_in" ["promises","sales","number","year"] xJ):Í P w K mg base Ý 2 f fd ["promises","ahead","sale"] yZ:=by refine F.oq Ŀ λai A outer s H vs Q E hr h=>?_;obtain⟨ap,xp,ps,ar,xs,ss,t,r,rfl,rp,okp,rs,hl,cy,et,h5,q⟩:=h;refine⟨_,aC (cG (cC (dH (aJ c1 hr (aA (pv 0) (aA (pv 2) ao))))) (aF (aR jG)) bj) (aC (cO (pv 2) (bC rfl (au (bN (i:=3) Ŀ.nd rfl (Or.inr rfl)) (au (bN (i:=4) Ŀ.nd rfl (Or.inr rfl)) (au (Î 5 Ŀ.nd) (au (bN (i:=6) Ŀ.nd rfl (Or.inr rfl)) (au (Î 7 Ŀ.nd) aW))))))) (aC (ć 8 Ŀ.nd (pX cB (pX cB (pv 0) (pv 3)) aB)) (aF (aR (aM (gA rfl) rfl T.all ú (aA (bI ["at","promises","ahead","number","seller","sacks"] [none,some 0,some 1,some 3,some 4,some 6] rfl (jd rfl Tr (aA (pv 7) (aA (aQ bL (pv 8) aB) ao))) (λC fp Z7 s₂ Ï=>⟨Î 0 O1,bR,jf uC (pX (vH (K:=K) rfl) (aJ c2 hr (aA (pv 1) (aA (pv 2) (aA (pv 3) (aA (pv 0) ao))))) (pv 4)) (pv 5) (bh _)⟩) (λC=>cI (cI (cI (cI (cI trivial))))) ⟨rfl,rfl,rfl,rfl⟩) ao)))))),?_⟩;have fin:=q;unfold cF at fin;refine aH ?_;refine⟨_,rfl,_,rfl,ap,xp,ps,t,r,rfl,rp,okp,et,h5,_,rfl,?_⟩;cases e:mX ps r with|false=>rw[e]at fin;exact cg (fin _ (À.refl _));|true=>
  rw[e]at fin;refine bH (eQ ?_);dsimp only;refine aH ?_;unfold mX at e;simp only[Bool.and_eq_true,ă]at e;obtain⟨⟨n0,n1⟩,⟨b0,b1⟩,_,_,⟨k0,k1⟩,y0,y1⟩:=e;obtain⟨p,hp,ep,op⟩:=fK okp n0 n1;have yB:jn ps r=p:=ep;rw[yB]at fin y0 y1;obtain⟨tp,ip,fh⟩:=gP rp n0 hp;rw[j4 h5]at et;rw[dW op.1]at fh;obtain⟨_,_,_,⟨g1,g2,g3⟩,_⟩:=id op;refine⟨_,rfl,t,_,rfl,Ê.of et,rfl,_,_,rfl,_,_,rfl,_,_,rfl,_,_,rfl,_,_,rfl,rfl,?_⟩;dsimp only;refine aH (aU ?_);refine⟨_,rfl,_,rfl,ap,xp,_,.ref tp,rfl,rfl,Ê.of rp.e,ip,tp,_,3,.int (fl p 3),rfl,rfl,Ê.of fh,rfl,?_⟩;refine aG ?_;dsimp only;refine⟨_,rfl,_,rfl,_,_,rfl,rfl,fl r 4,fl p 3+1,rfl,⟨Z1,Z1,Z1,Z1⟩,?_⟩;refine vJ (λys Hc=>À H Hc/\ys=((years (fl r 4) (fl p 3)).take ys.length).map λy=>V.bl (decide (fl r 3<=(bA p ss (fl r 0) y).getD (fl r 1).toNat 0))) ⟨À.refl _,rfl⟩ Z6 ?_ ?_
  .rintro i ys Hc Qc hi hy⟨sc,ey⟩qc;refine⟨_,rfl,_,rfl,_,rfl,_,rfl,ap,xp,ps,ar,xs,ss,fl r 0,fl r 4+i,rfl,rp.same sc,rs.same sc,n0,n1,by rw[ep];exact op,hl,cy,λl H' s' el=>?_⟩;rw[ep]at el;refine⟨_,rfl,l,_,fl r 1,.int ((bA p ss (fl r 0) (fl r 4+i)).getD (fl r 1).toNat 0),rfl,rfl,É.of el,?_,_,rfl,_,_,rfl,rfl,qc _ _ ⟨sc.trans s',?_⟩⟩;.unfold ŏ;rw[yX b0 (by rw[Ð,fB];lia)];exact iC (by rw[fB];lia)
   .have hx:(years (fl r 4) (fl p 3))[ys.length]?=some (fl r 4+(i:Int)):=by rw[hy];exact mj hi
    exact rm ey hx
  .rintro ys Hc hy⟨sc,ey⟩D hD;rw[ϩ (by rw[lZ,hy];exact Ø _)]at ey;refine⟨D,(years (fl r 4) (fl p 3)).map λy=>decide (fl r 3<=(bA p ss (fl r 0) y).getD (fl r 1).toNat 0),rfl,É.of (by rw[ħ];rw[ey];exact aj),?_⟩;rw[List.all_map];exact fin _ (sc.updR hD)
theorem gC{xs:List V}(h:i<=xs.length):ju xs none (some (i:Int))=xs.take i:=by unfold ju;rw[HT.sIx_none,HT.sIx_nat,List.drop_zero,Nat.min_eq_left h,Nat.sub_zero]
theorem Ã.cut(h:Ã H a xs rs)(i:Nat)(hp:H p=none):Ã (upd H p (.tup (xs.take i))) p (xs.take i) (rs.take i):=by
 refine⟨aj,by rw[Ė,Ė,h.l],λj r e=>?_⟩;have hj:j<i:=by
  rw[List.getElem?_take]at e;split at e;.assumption
  .cases e
 rw[Za2 hj]at e;obtain⟨t,e1,e2⟩:=h.g j r e;exact⟨t,by rw[Za2 hj];exact e1,À.upd hp _ _ e2⟩
theorem tX(h:∀j,j<i->cF ps (ss.take j) (ss.getD j [])=true)(hi:i<ss.length)(hn:cF ps (ss.take i) (ss.getD i [])=false):un ps ss=some i:=by unfold un;rw[List.find?_range_eq_some];exact⟨by rw[hn];rfl,ϕ.mpr hi,λj hj=>by rw[h j hj];rfl⟩
theorem tY(h:∀j,j<ss.length->cF ps (ss.take j) (ss.getD j [])=true):un ps ss=none:=by unfold un;rw[List.find?_range_eq_none];exact λj hj=>by rw[h j hj];rfl
theorem kY(h5:s.length=5)(h:cF ps ss s=true):Η s:=by unfold cF mX at h;simp only[Bool.and_eq_true,ă]at h;exact⟨h5,h.1.2.1,h.1.2.2.1⟩
theorem Ú{ss:PK}(h:i<ss.length):ss.getD i []=ss[i]:=by rw[Ğ,Ö h];rfl
def part(d:PyData)(i:Nat):PyData:=(items d).getD i .none
def jr(d:PyData):Bool:=bG d 3 3&&(iZ (part d 0)&&(gh (part d 1)&&(gj (part d 2)&&(un (ß (part d 1)) (ß (part d 2))).isNone)))
theorem ϥ:Á ["promises","sales","at","sale"] ["promises","sales"] (aD (top 42)):=ù
theorem Ei(F:Û K "first_unheld" "first_unheld" (top 42) f fd)(Te:mg "enumerate"=none)(c1:ã P w K mg base 4 "are_promises" ["thing"] (ō gh))(c2:ã P w K mg base 3 "are_sales" ["thing"] (ō gj))(c3:ã P w K mg base 2 "sale_holds" ["promises","ahead","sale"] yZ):Í P w K mg base Ý 5 f fd ["promises","sales"] za:=by
 refine F.oq ϥ λai A outer s H vs Q E hr h=>?_;obtain⟨S,v,d,S',u,e,rfl,FK,ths,hp,hs,zp,zs,q⟩:=h;refine⟨_,aC (cG (cC (dH (aJ c1 hr (aA (pv 0) ao)))) lA bj) (aC (cG (cC (dH (aJ c2 hr (aA (pv 1) ao)))) lA bj) (aC (bZ ĥ rfl (ZT.pi_enum true rfl Te (aA (pv 1) ao)) (bC rfl (au (Î 2 ϥ.nd) (au (Î 3 ϥ.nd) aW))) (aF (cG (cC (dH (aJ c3 hr (aA (pv 0) (aA (iK yG (pv 1) jK (jL (pv 2))) (aA (pv 3) ao)))))) (aF (aR (pv 2))) bj))) (aF (aR fW)))),?_⟩;refine aH ?_;refine⟨_,rfl,S,v,d,rfl,FK,zp,λH1 s1=>⟨_,rfl,?_⟩⟩;rw[hp];refine bH (eQ ?_);dsimp only;refine aH ?_;refine⟨_,rfl,S',u,e,rfl,ths.same s1,zs,λH2 s2=>⟨_,rfl,?_⟩⟩;rw[hs];refine bH (eQ ?_);dsimp only;have tJ:=s1.trans s2;obtain⟨ep,lp,okp⟩:=xG hp;obtain⟨es,ls,cy⟩:=xH hs;have gu:=FK.same tJ;have LH:=ths.same tJ;rw[ep]at gu;rw[es]at LH;generalize ß d=ps at q lp okp gu;generalize ß e=ss at q ls cy LH;obtain⟨ap,xp,rfl,rp⟩:=kW gu;obtain⟨ar,xs,rfl,rs⟩:=kW LH;refine aH ?_;refine⟨_,rfl,ar,xs,rfl,Ê.of rs.e,?_⟩;refine ZT.for_enum true (xs:=xs) (λi σ Hc=>∃x2 x3,σ=[some (.ref ap),some (.ref ar),x2,x3]/\À H2 Hc/\∀j,j<i->cF ps (ss.take j) (ss.getD j [])=true) ?_ ?_ ?_ ?_;.exact⟨none,none,rfl,À.refl _,λj hj=>absurd hj (Ϩ _)⟩
 .rintro i σ Hc hi⟨x2,x3,rfl,sm,hh⟩;exact Ê.of (sm _ _ rs.e)
 .rintro i x σ Hc T0 hx⟨x2,x3,rfl,sm,hh⟩nT;have hi:i<ss.length:=by have:=(ĩ.mp hx).1;rw[rs.l]at this;exact this
  have SS:i<xs.length:=by rw[rs.l];exact hi
  obtain⟨tr,fE,ff⟩:=rs.g i ss[i] (Ö hi);have:x=.ref tr:=by rw[hx]at fE;exact ŉ fE
  subst this;have h5:=cy ss[i] (Č hi);have sT:=sm.updR (o:=.tup [V.int i,V.ref tr]) nT;refine⟨T0,_,rfl,Ê.of aj,rfl,_,_,rfl,_,_,rfl,rfl,?_⟩;refine⟨_,rfl,_,rfl,_,rfl,i,rfl,ar,xs,rfl,Ê.of (sT _ _ rs.e),λhw=>?_,λ_ p OM=>?_⟩;.have:=hw.2;rw[HT.sIx_nat]at this;exact absurd this Z1
  rw[gC (Za9 SS)];have sp:=sT.updR (o:=.tup (xs.take i)) OM;refine⟨_,rfl,ap,xp,ps,p,xs.take i,ss.take i,tr,ss[i],rfl,rp.same sp,okp,(rs.same sT).cut i OM,?_,?_,sp _ _ ff,h5,λH' s'=>⟨_,rfl,?_⟩⟩;.rw[Ė];lia
  .intro s SU;obtain⟨j,hj,e'⟩:=Zar SU;rw[Ė]at hj;have SV:j<i:=Z1;have ON:j<ss.length:=Z1;have e2:ss[j]=s:=by rw[<-e',List.getElem_take]
   rw[<-e2];have:=hh j SV;rw[Ú ON]at this;exact kY (cy _ (Č ON)) this
  .cases eh:cF ps (ss.take i) ss[i]with|false=>refine cg ⟨_,rfl,?_⟩;have:=q H' (tJ.trans (sp.trans s'));rw[tX hh hi (by rw[Ú hi];exact eh)]at this;exact this;|true=>
    refine bH ⟨_,_,rfl,sp.trans s',λj hj=>?_⟩;rcases Nat.lt_succ_iff_lt_or_eq.mp hj with z|z;.exact hh j z
    .rw[z,Ú hi];exact eh
 .rintro σ Hc⟨x2,x3,rfl,sm,hh⟩;have:=q Hc (tJ.trans sm);rw[tY λj hj=>hh j (by rw[rs.l];exact hj)]at this;exact this
theorem Χ:Á ["thing","clips","promises","sales"] ["thing"] (aD (top 43)):=ù
theorem Hu(F:Û K "is_book" "is_book" (top 43) f fd)(c0:ã P w K mg base 1 "is_tuple_of" ["thing","fewest","most"] (lO bG))(c1:ã P w K mg base 4 "are_clips" ["thing"] (ō iZ))(c2:ã P w K mg base 4 "are_promises" ["thing"] (ō gh))(c3:ã P w K mg base 3 "are_sales" ["thing"] (ō gj))(c4:ã P w K mg base 5 "first_unheld" ["promises","sales"] za):Í P w K mg base Ý 6 f fd ["thing"] (ō jr):=by refine F.oq Χ λai A outer s H vs Q E hr h=>?_;obtain⟨S,v,d,rfl,th,hz,q⟩:=h;refine⟨_,aC (cG (cC (dH (aJ c0 hr (aA (pv 0) (aA aB (aA aB ao)))))) (aF (aR jG)) bj) (aC (cO (pv 0) (bC rfl (au (Î 1 Χ.nd) (au (Î 2 Χ.nd) (au (Î 3 Χ.nd) aW))))) (aF (aR (cR (aJ c1 hr (aA (pv 1) ao)) (cR (aJ c2 hr (aA (pv 2) ao)) (cR (aJ c3 hr (aA (pv 3) ao)) (fX (jf rW (aJ c4 hr (aA (pv 2) (aA (pv 3) ao))) fW (bh _))))))))),?_⟩;have fin:=q;unfold jr at fin;refine aH ?_;refine⟨_,rfl,S,v,d,3,3,rfl,th,hz,λH1 s1=>⟨_,rfl,?_⟩⟩;cases e:bG d 3 3 with|false=>rw[e]at fin;exact cg (fin _ s1);|true=>rw[e]at fin;refine bH (eQ ?_);dsimp only;obtain⟨ds,rfl,l1,l2⟩:=lW e;have gu:=th.same s1;cases gu with|@tup a xs _ ea r=>obtain⟨v0,v1,v2,d0,d1,d2,rfl,rfl,h0,h1,h2⟩:=By r (show ds.length=3 by lia);have z0:=kJ (d:=d0) Z2 hz;have z1:=kJ (d:=d1) Z2 hz;have z2:=kJ (d:=d2) Z2 hz;refine aH ?_;refine⟨_,rfl,a,_,rfl,Ê.of ea,rfl,_,_,rfl,_,_,rfl,_,_,rfl,rfl,?_⟩;dsimp only;have fin:∀H',À H H'->Q (.bl (true&&(iZ d0&&(gh d1&&(gj d2&&(un (ß d1) (ß d2)).isNone))))) H':=fin;refine⟨_,rfl,S,_,d0,rfl,h0,z0,λH2 s2=>⟨_,rfl,?_⟩⟩;cases e0:iZ d0 with|false=>rw[e0]at fin;exact bH (fin _ (s1.trans s2));|true=>rw[e0]at fin;refine cg ?_;refine⟨_,rfl,S,_,d1,rfl,h1.same s2,z1,λH3 s3=>⟨_,rfl,?_⟩⟩;cases e1:gh d1 with|false=>rw[e1]at fin;exact bH (fin _ ((s1.trans s2).trans s3));|true=>rw[e1]at fin;refine cg ?_;refine⟨_,rfl,S,_,d2,rfl,h2.same (s2.trans s3),z2,λH4 s4=>⟨_,rfl,?_⟩⟩;cases e2:gj d2 with|false=>rw[e2]at fin;exact bH (fin _ (((s1.trans s2).trans s3).trans s4));|true=>rw[e2]at fin;refine cg ?_;have rf:=(s2.trans s3).trans s4;refine⟨_,rfl,_,rfl,S,_,d1,S,_,d2,rfl,h1.same rf,h2.same rf,e1,e2,z1,z2,λH5 s5=>⟨rfl,?_⟩⟩;have:=fin H5 (s1.trans (rf.trans s5));cases eu:un (ß d1) (ß d2)with|none=>rw[eu]at this;exact this;|some i=>rw[eu]at this;exact this
def â(H:Hp)(xs:List V)(rs:PK):Prop:=xs.length=rs.length/\∀(i:Nat)(r:PP),rs[i]?=some r->∃t,xs[i]?=some (V.ref t)/\H t=some (.tup (r.map V.int))
theorem â.keep(h:â H xs rs)(k:∀b l,H b=some (.tup l)->H' b=some (.tup l)):â H' xs rs:=⟨h.1,λi r e=>by obtain⟨t,e1,e2⟩:=h.2 i r e;exact⟨t,e1,k _ _ e2⟩⟩
theorem â.same(h:â H xs rs)(s:À H H'):â H' xs rs:=h.keep λ_ _ e=>s _ _ e
theorem â.nil:â H [] []:=⟨rfl,λi r e=>by simp at e⟩
theorem â.app(h:â H xs rs)(g:â H ys qs):â H (xs++ys) (rs++qs):=by
 refine⟨by rw[ì,ì,h.1,g.1],λi r e=>?_⟩;by_cases hi:i<rs.length;.rw[Ϸ hi]at e;obtain⟨t,e1,e2⟩:=h.2 i r e;exact⟨t,by rw[Ϸ (by rw[h.1];exact hi)];exact e1,e2⟩
 .rw[ϸ Z1]at e;obtain⟨t,e1,e2⟩:=g.2 _ r e;exact⟨t,by rw[ϸ (by rw[h.1];lia),h.1];exact e1,e2⟩
theorem â.one{r:PP}(e:H t=some (.tup (r.map V.int))):â H [.ref t] [r]:=⟨rfl,λi q e'=>by cases i with|zero=>rw[List.getElem?_cons_zero]at e';cases e';exact⟨t,rfl,e⟩;|succ i=>simp at e'⟩
theorem eU(h:r.length=4):r=[fl r 0,fl r 1,fl r 2,fl r 3]:=by match r,h with|[a,b,c,d],_=>rfl
theorem Ej{t:TS}{D:Ň}(h:∀D',(∀σ H,N σ H->D'.nx σ H)->t D' σ H):t {D with nx:=N,ct:=N,bk:=D.nx} σ H:=h _ λ_ _ z=>z
theorem cY{Fin:List V->Hp->Prop}(n:Nat)(Pv:Nat->List V->St->Hp->Prop)(h0:Pv 0 [] dP H0)(hz:n<sizeLine)(step:∀i ys σ H,i<n->ys.length=i->Pv i ys σ H->J.go i H/\∀x H',J.yld i H x H'->∀R:V->St->Hp->Prop,(∀y bo H4,Pv (i+1) (ys++[y]) bo H4->R y bo H4)->g x σ H' λbo H2=>te bo H2 λy H4=>R y bo H4)(fin:∀ys σ H,ys.length=n->Pv n ys σ H->J.stop n H/\Fin ys H):jN J g uF te Fin dP H0:=by
 refine⟨λi m ys σ H=>m=n-i/\i<=n/\ys.length=i/\Pv i ys σ H,⟨_,rfl,Ě _,rfl,h0⟩,?_⟩;rintro i m ys σ H⟨rfl,hi,hy,p⟩;refine⟨Z1,?_⟩;by_cases aE:i<n;.obtain⟨go,st⟩:=step i ys σ H aE hy p;exact .inr ⟨go,λx H' y=>st x H' y _ λy bo H4 p2=>⟨n-(i+1),Z1,rfl,aE,by rw[ì,hy];rfl,p2⟩⟩
 .have e:i=n:=Z1;subst e;exact .inl (fin ys σ H hy p)
def ü(rs:PK):PP:=rs.map λr=>fl r 3
def aP(rs:PK):Int:=(ü rs).sum
inductive ŷ(vs:List V)(H:Hp)(Q:VK):Prop|mk:∀l xs rs,(vs=[.ref l])->(H l=some (.lst xs))->(â H xs rs)->((∀r∈rs,r.length=4))->(rs.length<=8000000)->(∀H',À H H'->Q (.int (aP rs)) H')->ŷ  vs H Q
def zf:Sp:=λvs H Q _=>ŷ  vs H Q
theorem à:bootBuiltins "sum"=some (.builtin "sum"):=by decide+kernel
theorem nd4:(["due","number","holder","sacks"]:ç).Nodup:=by decide+kernel
theorem O2:Á ["rows"] ["rows"] (aD (top 54)):=ù
theorem Ek(F:Û K "sacks_of" "sacks_of" (top 54) f fd)(Ts:mg "sum"=none):Í P w K mg base Ý 1 f fd ["rows"] zf:=by
 refine F.oq O2 λai A outer s H vs Q E hr h=>?_;obtain⟨l,xs,rs,rfl,el,dv,h4,hz,q⟩:=h;refine⟨_,aF (aR (aM (cX rfl) rfl Ts à (aA (bI (g:=mQ K 4 (cH (bQ 0) (cH (bQ 1) (cH (bQ 2) (cH (bQ 3) ou))))) ["due","number","holder","sacks"] [none,none,none,none] rfl (di (pv 0)) (λC fp Z7 s₂ Ï=>⟨fH rfl rfl (au (Î 0 nd4) (au (Î 1 nd4) (au (Î 2 nd4) (au (Î 3 nd4) aW)))),bR,pv 3⟩) (λC=>trivial) ⟨rfl,rfl,rfl,rfl⟩) ao))),?_⟩;refine⟨_,rfl,l,rfl,⟨_,É.of el⟩,cY rs.length (λi ys σ Hc=>À H Hc/\(∃o1 o2 o3 o4,σ=[o1,o2,o3,o4])/\ys=(ü (rs.take i)).map V.int) ⟨À.refl H,⟨_,_,_,_,rfl⟩,rfl⟩ Z6 ?_ ?_⟩;.rintro i ys σ Hc hi hy⟨s1,⟨o1,o2,o3,o4,rfl⟩,rfl⟩;obtain⟨t,ex,et⟩:=dv.2 i rs[i] (Ö hi);rw[eU (h4 _ (Č hi))]at et;refine⟨⟨_,_,É.of (s1 _ _ el),ex⟩,λv H' y R hR=>?_⟩;obtain⟨rfl,y⟩:=y;have hv:=y _ (É.of (s1 _ _ el));rw[ex]at hv;cases hv;refine⟨t,_,rfl,Ê.of (s1 _ _ et),rfl,_,_,rfl,_,_,rfl,_,_,rfl,_,_,rfl,rfl,_,rfl,hR _ _ _ ⟨s1,⟨_,_,_,_,rfl⟩,?_⟩⟩;unfold ü;rw[Ĝ,Ö hi,ë,ë];rfl
 .rintro ys σ Hc hy⟨s1,_,rfl⟩;refine⟨⟨_,É.of (s1 _ _ el),by rw[dv.1];exact Ø _⟩,λD hD=>?_⟩;rw[Ĩ];exact⟨D,ü rs,rfl,.inl (É.of aj),q _ (s1.updR hD)⟩
end K52
open K52 (top dJ items î bG nd1 DY tQ tR kJ gD ō lO Mg Ó ú dY ã aJ lU à cY sc1 jk)
namespace K52P
open PySem L2
structure Nums(mg:RG):Prop where many:∃t,mg "MOST_WEIGHTS"=some (.int 80 t)most:∃t,mg "MOST_WEIGHT"=some (.int 99 t)
def j5(d:PyData):Bool:=bG d 1 80&&(items d).all λx=>lU x 1 99
theorem Þ:bootBuiltins "sorted"=some (.builtin "sorted"):=by decide+kernel
theorem nd2(x y:Str)(h:x≠y):([x,y]:ç).Nodup:=by simp[h]
section
theorem Z03:Á ["thing"] ["thing"] (aD (top 48)):=ù
theorem ok_are_weights(F:Û K "are_weights" "are_weights" (top 48) f fd)(T:Mg mg)(N:Nums mg)(c1:ã P w K mg base 2 "is_whole_from" ["thing","least","most"] (lO lU))(c2:ã P w K mg base 1 "is_tuple_of" ["thing","fewest","most"] (lO bG)):Í P w K mg base Ý 4 f fd ["thing"] (ō j5):=by refine F.oq Z03 λai A outer s H vs Q E hr h=>?_;obtain⟨S,v,d,rfl,th,hz,q⟩:=h;obtain⟨t3,e3⟩:=N.many;obtain⟨t4,e4⟩:=N.most;refine⟨_,aF (aR (cR (aJ c2 hr (aK (pv 0) (aK aB (aK (bM (v:=.int 80) rfl e3 ⟨_,rfl⟩) ao)))) (fX (aM (gA rfl) rfl T.all ú (aK (bI ["part"] [none] rfl (dX (pv 0)) (λC fp Z7 s₂ Ï=>⟨bN (i:=0) (nd1 _) rfl (Or.inl rfl),bR,aJ c1 hr (aK (pv 0) (aK aB (aK (bM (v:=.int 99) rfl e4 ⟨_,rfl⟩) ao)))⟩) (λC=>trivial) ⟨rfl,rfl,rfl,rfl⟩) ao))))),?_⟩;refine⟨_,rfl,S,v,d,1,80,rfl,th,hz,λH1 s1=>⟨_,rfl,?_⟩⟩;have gu:=th.same s1;have fin:=λH'(s:À H H')=>q H' s;unfold j5 at fin;cases e:bG d 1 80 with|false=>rw[e]at fin;exact bH (fin _ s1);|true=>rw[e]at fin;refine cg ?_;cases gu with|@tup a xs ds ea r=>exact dY (λx=>lU x 1 99) rfl ea r (gD r hz) (λv d H2 Q2 hm s2 t2 q2=>⟨_,rfl,S,v,d,1,99,rfl,t2,kJ hm hz,q2⟩) λH2 s2=>fin _ (s1.trans s2);|_=>cases e
end
section
theorem ix_tupK(hK:X.K=K):IxR X (Lf K):=by subst hK;exact cB
end
section
end
theorem ok_b{R:TS->Prop}(h:BSs X body t)(q:R t):∃t,Ĵ X body t/\R t:=⟨t,h.run,q⟩
def rr(rs:PP)(i:Nat):Int:=rs.getD i 0
def dO(fs:PP)(pl:List Nat):PP:=pl.foldl (λl i=>l.set i (l.getD i 0+1)) fs
theorem pK(fs:PP)(pl:List Nat)(i:Nat):dO fs (pl++[i])=(dO fs pl).set i ((dO fs pl).getD i 0+1):=by unfold dO;rw[List.foldl_append];rfl
theorem jl:∀pl fs,(dO fs pl).length=fs.length|[],_=>rfl|i::pl,fs=>by show(dO (fs.set i _) pl).length=_;rw[jl pl,Za1]
def fs(n:Int)(ws:PP):PP:=ws.map λw=>n*w/ws.sum
def rs(n:Int)(ws:PP):PP:=ws.map λw=>n*w%ws.sum
def lf(n:Int)(ws:PP):Int:=n-(fs n ws).sum
def OkW(ws:PP):Prop:=1<=ws.length/\ws.length<=80/\∀w∈ws,1<=w/\w<=99
theorem tZ:∀{l:PP},(∀a∈l,a<=B)->l.sum<=B*l.length|[],_=>by simp;|a::l,h=>by have h1:=tZ (B:=B) (l:=l) λb hb=>h b (.tail _ hb);have h2:=h a (.head _);rw[ĳ,Ī,show B*((l.length+1:Nat):Int)=B*l.length+B by rw[Int.natCast_add,Int.mul_add];simp];lia
theorem mq:∀{l:PP},(∀a∈l,0<=a)->0<=l.sum|[],_=>by simp;|a::l,h=>by have h1:=mq (l:=l) λb hb=>h b (.tail _ hb);have h2:=h a (.head _);rw[ĳ];lia
theorem OkW.pos(h:OkW ws):1<=ws.sum:=by obtain⟨h1,_,h3⟩:=h;match ws,h1,h3 with
 |w::ws,_,h3=>
  have:=mq (l:=ws) λa ha=>by have:=h3 a (.tail _ ha);lia
  have:=h3 w (.head _);rw[ĳ];lia
theorem OkW.top(h:OkW ws):ws.sum<=7920:=by have h1:=tZ (B:=99) λa ha=>(h.2.2 a ha).2;have:=h.2.1;lia
theorem divs(n T:Int):∀ws:PP,T*(ws.map λw=>n*w/T).sum+(ws.map λw=>n*w%T).sum=n*ws.sum|[]=>by simp;|w::ws=>by have h1:=divs n T ws;have h2:=Int.mul_ediv_add_emod (n*w) T;simp only[List.map_cons,List.sum_cons,Int.mul_add];lia
theorem K1(n:Int)(ws:PP):ws.sum*lf n ws=(rs n ws).sum:=by have h:=divs n ws.sum ws;unfold lf fs rs;rw[Int.mul_sub,Int.mul_comm ws.sum n];lia
theorem Mq(h:OkW ws):∀r∈rs n ws,0<=r:=λr hr=>by obtain⟨w,_,rfl⟩:=è.mp hr;have:=h.pos;exact Zbh _ Z1
theorem Mr(h:OkW ws):∀r∈rs n ws,r<=ws.sum:=λr hr=>by obtain⟨w,_,rfl⟩:=è.mp hr;have:=h.pos;exact Int.le_of_lt (Za7 _ Z1)
theorem pL(n:Int)(ws:PP):(fs n ws).length=ws.length:=Ð _
theorem xK(n:Int)(ws:PP):(rs n ws).length=ws.length:=Ð _
theorem zg(h:OkW ws):0<=lf n ws:=by have h1:=K1 n ws;have h2:=mq (Mq (n:=n) h);have h3:=h.pos;refine Int.le_of_not_gt λc=>?_;have:=Za6 (c:=ws.sum) (show lf n ws<=-1 by lia) Z1;lia
theorem J0(h:OkW ws):lf n ws<=ws.length:=by have h1:=K1 n ws;have h2:=tZ (Mr (n:=n) h);rw[xK]at h2;have h3:=h.pos;refine Int.le_of_not_gt λc=>?_;have:=Za6 (c:=ws.sum) (show(ws.length:Int)+1<=lf n ws by lia) Z1;rw[Int.mul_add]at this;lia
theorem K4(h:OkW ws):lf ws.sum ws=0:=by
 have h1:=K1 ws.sum ws;have h2:(rs ws.sum ws).sum<=0:=by
  have:=tZ (B:=0) (l:=rs ws.sum ws) λr hr=>by obtain⟨w,_,rfl⟩:=è.mp hr;rw[Int.mul_emod_right];exact Za8 _
  lia
 have h3:=h.pos;have h4:=zg (n:=ws.sum) h;refine Int.le_antisymm (Int.le_of_not_gt λc=>?_) h4;have:=Za6 (c:=ws.sum) (show 1<=lf ws.sum ws by lia) Z1;lia
theorem rA:∀pl l i,i<l.length->(dO l pl).getD i 0=l.getD i 0+pl.count i
 |[],l,i,_=>by simp[dO];|j::pl,l,i,h=>by
  show(dO (l.set j (l.getD j 0+1)) pl).getD i 0=_;rw[rA pl _ i (by rw[Za1];exact h),List.count_cons];by_cases e:j=i;.subst e;rw[Ğ,Zaw h,Option.getD_some,beq_self_eq_true,È rfl];lia
  .rw[Ğ,List.getElem?_set_ne e,<-Ğ,Æ (by simp[e])];lia
structure PtOk(n:Int)(ws ps:PP):Prop where
 len:ps.length=ws.length
 sum:ps.sum=n
 bd:∀{i:Nat}{r w:Int},ps[i]?=some r->ws[i]?=some w->0<=r/\r<=w
theorem Ĕ:∀{l:PP}{i:Nat}{v:Int},i<l.length->(l.set i v).sum=l.sum-l.getD i 0+v|[],_,_,h=>absurd h (Ϩ _)|a::l,0,v,_=>by rw[List.set_cons_zero,ĳ,ĳ];show v+l.sum=a+l.sum-a+v;lia;|a::l,i+1,v,h=>by have:=Ĕ (l:=l) (i:=i) (v:=v) (Nat.lt_of_succ_lt_succ h);rw[List.set_cons_succ,ĳ,ĳ,this];show a+(l.sum-l.getD i 0+v)=a+l.sum-l.getD i 0+v;lia
theorem rB:∀pl l,(∀i∈pl,i<l.length)->(dO l pl).sum=l.sum+pl.length
 |[],l,_=>by show l.sum=l.sum+((0:Nat):Int);lia;|i::pl,l,h=>by
  have:=rB pl (l.set i (l.getD i 0+1)) λj hj=>by rw[Za1];exact h j (.tail _ hj)
  show(dO (l.set i (l.getD i 0+1)) pl).sum=_;rw[this,Ĕ (h i (.head _)),Ī];lia
theorem J1(ok:OkW ws)(n0:0<=n)(n1:n<=ws.sum)(nd:pk.Nodup)(lt:∀i∈pk,i<ws.length)(hl:pk.length=(lf n ws).toNat):PtOk n ws (dO (fs n ws) pk):=by
 have hp:=ok.pos;refine⟨by rw[jl,pL],?_,λ{i r w}hr hw=>?_⟩
 .have:=rB pk (fs n ws) λi hi=>by rw[pL];exact lt i hi
  have l0:=zg (n:=n) ok;have e:lf n ws=n-(fs n ws).sum:=rfl;lia
 .have hi:i<ws.length:=(ĩ.mp hw).1;have g:=rA pk (fs n ws) i (by rw[pL];exact hi);rw[Ğ,hr]at g;have ef:(fs n ws).getD i 0=n*w/ws.sum:=by unfold fs;rw[Ğ,ý,hw];rfl
  rw[ef]at g;have g:r=n*w/ws.sum+((pk.count i:Nat):Int):=g;have w1:=ok.2.2 w (Κ hw);have c1:pk.count i<=1:=List.nodup_iff_count.mp nd i;have q0:0<=n*w/ws.sum:=Int.ediv_nonneg (Int.mul_nonneg n0 Z1) Z1;have q1:n*w/ws.sum<=w:=by refine Int.ediv_le_of_le_mul Z1 ?_;rw[Int.mul_comm w];exact Int.mul_le_mul_of_nonneg_right n1 Z1
  by_cases c0:pk.count i=0;.rw[c0]at g;lia
  .have pos:0<pk.length:=List.length_pos_of_mem (a:=i) (List.count_pos_iff.mp (Nat.pos_of_ne_zero c0));have ne:n≠ws.sum:=λz=>by rw[z,K4 ok]at hl;have:pk.length=0:=hl;lia
   have q2:n*w/ws.sum<w:=by refine Int.ediv_lt_of_lt_mul Z1 ?_;rw[Int.mul_comm w];exact Int.mul_lt_mul_of_pos_right Z1 Z1
   lia
theorem rC{ws:PP}{Fin:List V->Hp->Prop}(f:Int->Int)(ep:H0 p=some (.tup (ws.map V.int)))(hl:ws.length<sizeLine)(kC:∀z Q,z∈ws->Q (.int (f z)) H0->te (dP.set 0 (some (.int z))) H0 Q)(fin:Fin ((ws.map f).map V.int) H0):jN (Itt K p) (bQ 0) uF te Fin dP H0:=by
 refine cY ws.length (λi ys σ H=>H=H0/\(∀o,σ.set 0 o=dP.set 0 o)/\ys=((ws.take i).map f).map V.int) ⟨rfl,λ_=>rfl,rfl⟩ hl ?_ ?_
 .rintro i ys σ H hi hy⟨rfl,gI,rfl⟩;have hz:(ws.map V.int)[i]?=some (.int ws[i]):=by rw[ý,Ö hi];rfl
  refine⟨⟨_,_,Ê.of ep,hz⟩,λv H' y' R hR=>?_⟩;obtain⟨rfl,y'⟩:=y';have hv:=y' _ (Ê.of ep);rw[hz]at hv;cases hv;show te (σ.set 0 (some (.int ws[i]))) _ _;rw[gI];refine kC ws[i] _ (Č hi) (hR _ _ _ ⟨rfl,λo=>by rw[List.set_set],?_⟩);rw[Ĝ,Ö hi,ë,ë];rfl
 .rintro ys σ H hy⟨rfl,gI,rfl⟩;refine⟨⟨_,Ê.of ep,by rw[Ð];exact Ø _⟩,?_⟩;rw[Ĩ];exact fin
def wD(ws:PP):PyData:=.tuple (ws.map PyData.int)
theorem vK:∀(r:PP),Ģ (r.map PyData.int)=r.length|[]=>rfl|_::r=>by show 1+Ģ (r.map PyData.int)=r.length+1;rw[vK r,Nat.add_comm]
theorem O4(ws:PP):sz (wD ws)=1+ws.length:=by show 1+Ģ (ws.map PyData.int)=_;rw[vK]
theorem O5(h:OkW ws):j5 (wD ws)=true:=by
 unfold j5;rw[ġ];refine⟨?_,Ő.mpr λd hd=>?_⟩;.show(true&&(decide (1<=((ws.map PyData.int).length:Int))&&decide (((ws.map PyData.int).length:Int)<=80)))=true;have h1:=h.1;have h2:=h.2.1;rw[Ð,ñ Z1,ñ Z1];rfl
 .obtain⟨w,hw,rfl⟩:=è.mp hd;have:=h.2.2 w hw;show(true&&(decide (1<=w)&&decide (w<=99)))=true;rw[ñ this.1,ñ this.2];rfl
inductive Ŗ(vs:List V)(H:Hp)(Q:VK):Prop|mk:∀n p ws,(vs=[.int n,.ref p])->(H p=some (.tup (ws.map V.int)))->(OkW ws)->(0<=n)->(n<=ws.sum)->(∀H',À H H'->Q .non H')->Ŗ  vs H Q
def vL:Sp:=λvs H Q _=>Ŗ  vs H Q
inductive Ř(vs:List V)(H:Hp)(Q:VK):Prop|mk:∀p rests,(vs=[.ref p])->(H p=some (.lst ((rests:PP).map V.int)))->(rests.length<sizeLine)->(∀H' q(pl:List Nat),pl.Perm (List.range rests.length)->À H H'->H q=none->H' q=some (.lst (pl.map λj:Nat=>V.int (j:Int)))->Q (.ref q) H')->Ř  vs H Q
def vM:Sp:=λvs H Q _=>Ř  vs H Q
inductive Ÿ(vs:List V)(H:Hp)(Q:VK):Prop|mk:∀n p ws,(vs=[.int n,.ref p])->(H p=some (.tup (ws.map V.int)))->(OkW ws)->(0<=n)->(n<=ws.sum)->(∀H' q ps,PtOk n ws ps->À H H'->H' q=some (.tup (ps.map V.int))->Q (.ref q) H')->Ÿ  vs H Q
def spParts:Sp:=λvs H Q _=>Ÿ  vs H Q
def dG(H:Hp)(a:Addr):Nat:=match H a with|some (.tup [_,.int y])=>y.toNat|_=>0
def Ę(H:Hp)(a:Addr):PP:=match H a with|some (.tup [.int x,.int y])=>[x,y]|_=>[]
theorem Ms(h:rests[i]?=some x):rr rests i=x:=by unfold rr;rw[Ğ,h];rfl
section
theorem O6:Á ["sacks","weights"] ["sacks","weights"] (aD (top 49)):=ù
theorem ok_refuse(F:Û K "refuse_unpartable" "refuse_unpartable" (top 49) f fd)(Ts:mg "sum"=none)(c1:ã P w K mg base 4 "are_weights" ["thing"] (ō j5))(c2:ã P w K mg base 2 "is_whole_from" ["thing","least","most"] (lO lU)):Í P w K mg base Ý 5 f fd ["sacks","weights"] vL:=by
 refine F.oq O6 λai A outer s H vs Q E hr h=>?_;obtain⟨n,p,ws,rfl,ep,ok,n0,n1,q⟩:=h;refine⟨_,aC (cG (cC (dH (aJ c1 hr (aK (pv 1) ao)))) (aF jH) bj) (aF (cG (cC (dH (aJ c2 hr (aK (pv 0) (aK aB (aK (aM (cX rfl) rfl Ts à (aA (pv 1) ao)) ao)))))) (aF jH) bj)),?_⟩;refine aH ?_;refine⟨_,rfl,λ_=>False,_,wD ws,rfl,.tup ep (Å.ints ws),by rw[O4];have:=ok.2.1;lia,λH1 s1=>⟨_,rfl,?_⟩⟩;rw[O5 ok];refine bH ?_;dsimp only;refine⟨_,rfl,_,rfl,p,ws,rfl,.inr (Ê.of (s1 _ _ ep)),λ_=>False,_,.int n,0,_,rfl,.int n,(by show 1<=4000;decide),λH2 s2=>⟨_,rfl,?_⟩⟩;have e:lU (.int n) 0 ws.sum=true:=by show(true&&(decide (0<=n)&&decide (n<=ws.sum)))=true;rw[ñ n0,ñ n1];rfl
 rw[e];exact bH (q H2 (s1.trans s2))
theorem Z04:Á ["rests","ranked"] ["rests"] (aD (top 50)):=ù
theorem ok_places(F:Û K "places_by_rest" "places_by_rest" (top 50) f fd)(Te:mg "enumerate"=none)(Ts:mg "sorted"=none):Í P w K mg base Ý 1 f fd ["rests"] vM:=by
 refine F.oq Z04 λai A outer s H vs Q E hr h=>?_;obtain⟨p,rests,rfl,ep,hz,q⟩:=h;refine⟨_,aC (ć 1 Z04.nd (aM iz rfl Ts Þ (aA (bI (g:=mQ K 2 (cH (bQ 0) (cH (bQ 1) ou))) ["at","rest"] [none,none] rfl (ZT.pi_enum false rfl Te (aA (pv 0) ao)) (λC fp Z7 s₂ Ï=>⟨fH rfl rfl (au (bN (i:=0) (nd2 _ _ Z3) rfl (Or.inl rfl) (Or.inr rfl)) (au (bN (i:=1) (nd2 _ _ Z3) rfl (Or.inl rfl) (Or.inr rfl)) aW)),bR,bO (aA (yj rT (pv 1)) (aA (pv 0) ao))⟩) (λC=>trivial) ⟨rfl,rfl,rfl,rfl⟩) ao))) (aF (aR (bI (g:=mQ K 2 (cH (bQ 0) (cH (bQ 1) ou))) ["minus","at"] [none,none] rfl (di (pv 1)) (λC fp Z7 s₂ Ï=>⟨fH rfl rfl (au (bN (i:=0) (nd2 _ _ Z3) rfl (Or.inl rfl) (Or.inr rfl)) (au (bN (i:=1) (nd2 _ _ Z3) rfl (Or.inl rfl) (Or.inr rfl)) aW)),bR,pv 1⟩) (λC=>trivial) ⟨rfl,rfl,rfl,rfl⟩))),?_⟩;refine aH ?_;refine⟨_,rfl,p,_,rfl,É.of ep,cY rests.length (λi ys σ Hc=>À H Hc/\(∃o1 o2,σ=[o1,o2])/\∃ts:þ,ys=ts.map V.ref/\∀j,j<i->∃a,ts[j]?=some a/\Hc a=some (.tup [.int (-(rr rests j)),.int (j:Int)])) ⟨À.refl H,⟨_,_,rfl⟩,[],rfl,λj hj=>absurd hj (Ϩ _)⟩ hz ?_ ?_⟩
 .rintro i ys σ Hc hi hy⟨s1,⟨o1,o2,rfl⟩,ts,rfl,mf⟩;rw[Ð]at hy;have ko:É K Hc p (rests.map V.int):=É.of (s1 _ _ ep);have hx:(rests.map V.int)[i]?=some (.int (rr rests i)):=by rw[ý,Ö hi,Ms (Ö hi)];rfl
  refine⟨⟨_,_,ko,hx⟩,λv H' y R hR=>?_⟩;obtain⟨T,nT,rfl,y⟩:=y;obtain⟨x',cm,rfl⟩:=y _ ko;rw[hx]at cm;cases cm;have s2:=s1.updR (o:=.tup [.int (i:Int),.int (rr rests i)]) nT;refine⟨T,_,rfl,Ê.of aj,rfl,_,_,rfl,_,_,rfl,rfl,_,rfl,rr rests i,rfl,_,rfl,zL,λt ht=>?_⟩;refine hR _ _ _ ⟨s2.updR ht,⟨_,_,rfl⟩,ts++[t],by rw[ë];rfl,λj hj=>?_⟩;by_cases e:j<i;.obtain⟨a,h1,h2⟩:=mf j e;refine⟨a,by rw[Ϸ Z1];exact h1,?_⟩;exact À.upd ht _ _ (À.upd nT _ _ h2)
  .have e:j=i:=Z1;subst e;refine⟨t,by rw[ϸ Z1,hy,Nat.sub_self];rfl,aj⟩
 .rintro ys σ Hc hy⟨s1,_,ts,rfl,mf⟩;rw[Ð]at hy;refine⟨⟨_,É.of (s1 _ _ ep),by rw[Ð];exact Ø _⟩,λD hD=>?_⟩;have s2:=s1.updR (o:=.lst (ts.map V.ref)) hD;have hG:∀j,j<rests.length->∃a,ts[j]?=some a/\upd Hc D (.lst (ts.map V.ref)) a=some (.tup [.int (-(rr rests j)),.int (j:Int)]):=λj hj=>by obtain⟨a,h1,h2⟩:=mf j hj;exact⟨a,h1,À.upd hD _ _ h2⟩
  have eD:=aj (H:=Hc) (a:=D) (o:=.lst (ts.map V.ref));generalize upd Hc D (.lst (ts.map V.ref))=H2 at s2 hG eD⊢;clear mf hD s1;have tN:∀a∈ts,∃j,j<rests.length/\H2 a=some (.tup [.int (-(rr rests j)),.int (j:Int)]):=λa ha=>by obtain⟨j,hj,e⟩:=Zar ha;obtain⟨b,h1,h2⟩:=hG j Z1;rw[Ö hj]at h1;injection h1 with h1;refine⟨j,Z1,?_⟩;rw[<-e,h1];exact h2
  refine⟨D,ts,Ę H2,rfl,É.of eD,λa ha=>?_,λq' l' hq pm=>?_⟩
  .obtain⟨j,hj,e⟩:=tN a ha;have er:Ę H2 a=[-(rr rests j),(j:Int)]:=by unfold Ę;rw[e]
   rw[er];exact⟨Ê.of e,by simp⟩
  have yk:∀a∈l',∃j,j<rests.length/\H2 a=some (.tup [.int (-(rr rests j)),.int (j:Int)]):=λa ha=>tN a (pm.mem_iff.mp ha);have sn:∀a∈l',H2 a=some (.tup [.int (-(rr rests (dG H2 a))),.int (dG H2 a:Int)])/\Ę H2 a=[-(rr rests (dG H2 a)),(dG H2 a:Int)]:=λa ha=>by
   obtain⟨j,hj,e⟩:=yk a ha;have er:Ę H2 a=[-(rr rests j),(j:Int)]:=by unfold Ę;rw[e]
   have es:dG H2 a=j:=by unfold dG;rw[e];exact Ľ j
   rw[er,es];exact⟨e,rfl⟩
  have ord:(l'.map (dG H2)).Perm (List.range rests.length):=by
   refine(pm.map _).trans (List.Perm.of_eq (List.ext_getElem? λj=>?_));by_cases hj:j<rests.length;.obtain⟨a,h1,h2⟩:=hG j hj;rw[ý,h1,Zbg hj];show some (dG H2 a)=some j;unfold dG;rw[h2];exact congrArg some (Ľ j)
   .rw[Zan (by rw[Ð];lia),Zan (by rw[List.length_range];lia)]
  have s3:=s2.updR (o:=.lst (l'.map V.ref)) hq;have SW:l'.length=rests.length:=by rw[pm.length_eq,hy]
  have rg:=aj (H:=H2) (a:=q') (o:=.lst (l'.map V.ref));have tP:∀a∈l',upd H2 q' (.lst (l'.map V.ref)) a=some (.tup [.int (-(rr rests (dG H2 a))),.int (dG H2 a:Int)]):=λa ha=>À.upd hq _ _ (sn a ha).1;generalize dG H2=sd at ord tP;generalize upd H2 q' (.lst (l'.map V.ref))=H3 at s3 rg tP⊢;dsimp only;refine tE ?_;refine⟨_,rfl,q',rfl,⟨_,É.of rg⟩,cY rests.length (λi ys σ Hc=>À H3 Hc/\(∃o1 o2,σ=[o1,o2])/\ys=((l'.take i).map sd).map λj:Nat=>V.int (j:Int)) ⟨À.refl H3,⟨_,_,rfl⟩,rfl⟩ hz ?_ ?_⟩
  .rintro i ys σ Hc hi hy⟨s4,⟨o1,o2,rfl⟩,rfl⟩;have tq:i<l'.length:=Z1;have hu:(l'.map V.ref)[i]?=some (.ref l'[i]):=by rw[ý,Ö tq];rfl
   refine⟨⟨_,_,É.of (s4 _ _ rg),hu⟩,λv H' y R hR=>?_⟩;obtain⟨rfl,y⟩:=y;have hv:=y _ (É.of (s4 _ _ rg));rw[hu]at hv;cases hv;refine⟨l'[i],_,rfl,Ê.of (s4 _ _ (tP _ (Č tq))),rfl,_,_,rfl,_,_,rfl,rfl,_,rfl,hR _ _ _ ⟨s4,⟨_,_,rfl⟩,?_⟩⟩;rw[Ĝ,Ö tq,ë,ë];rfl
  .rintro ys σ Hc AN⟨s4,_,rfl⟩;refine⟨⟨_,É.of (s4 _ _ rg),by rw[Ð];lia⟩,λD' OO=>?_⟩;have s5:=s3.trans s4;have hn:H D'=none:=s5.free OO;refine q _ D' _ ord (s5.updR OO) hn ?_;rw[aj,ϩ Z1]
end
end K52P
open K52 (gC)
namespace K52P
open PySem L2
theorem zj(h:j<n):Ϝ n (j:Int)=some j:=by unfold Ϝ;rw[È Z1,È Z1,Ľ]
theorem El(ok:OkW ws):ws.length<sizeLine:=by have:=ok.2.1;rw[sizeLine_eq];lia
section
theorem Mt:(["weight","sacks","together"]:ç).Nodup:=by decide+kernel
theorem ű:Á ["sacks","weights","together","parts","rests","left","at"] ["sacks","weights"] (aD (top 51)):=ù
theorem ok_parts(F:Û K "parts_of" "parts_of" (top 51) f fd)(T:Mg mg)(Ts:mg "sum"=none)(c1:ã P w K mg base 1 "places_by_rest" ["rests"] vM):Í P w K mg base Ý 2 f fd ["sacks","weights"] spParts:=by
 refine F.oq ű λai A outer s H vs Q E hr h=>?_;obtain⟨n,p,ws,rfl,ep,ok,n0,n1,q⟩:=h;refine⟨_,aC (lB (i:=2) ű.nd rfl (Or.inr rfl) (aM (cX rfl) rfl Ts à (aA (pv 1) ao))) (aC (gM (i:=3) ["weight","sacks","together"] [none,some 0,some 2] rfl ű.nd rfl (Or.inl rfl) (dX (pv 1)) (λC fp Z7 s₂ Ï=>⟨Î 0 Mt,bR,aQ je (aQ fY (pv 1) (pv 0)) (pv 2)⟩) (λC=>cI (cI trivial)) ⟨rfl,rfl,rfl,rfl⟩) (aC (gM (i:=4) ["weight","sacks","together"] [none,some 0,some 2] rfl ű.nd rfl (Or.inl rfl) (dX (pv 1)) (λC fp Z7 s₂ Ï=>⟨Î 0 Mt,bR,aQ gQ (aQ fY (pv 1) (pv 0)) (pv 2)⟩) (λC=>cI (cI trivial)) ⟨rfl,rfl,rfl,rfl⟩) (aC (ć 5 ű.nd (aQ du (pv 0) (aM (cX rfl) rfl Ts à (aA (pv 3) ao)))) (aC (bZ ĥ rfl (di (iK yz (aJ c1 hr (aA (pv 4) ao)) jK (jL (pv 5)))) (Î 6 ű.nd) (aF (rR (pv 3) (pv 6) jk aB CG Ā))) (aF (aR (bB bF rfl T.tuple Ó (aA (pv 3) ao)))))))),?_⟩;have hp:=ok.pos;have ht:=ok.top;have tS:=El ok;refine aH ?_;refine⟨_,rfl,p,ws,rfl,.inr (Ê.of ep),?_⟩;dsimp only;refine aH ?_;refine⟨_,rfl,p,rfl,⟨_,Ê.of ep⟩,rC (λz=>n*z/ws.sum) ep tS (λz Q hz h=>⟨_,rfl,_,rfl,_,_,rfl,rfl,.inl ⟨Z1,Z1⟩,_,rfl,_,_,rfl,rfl,⟨Z1,Z1⟩,h⟩) ?_⟩;rw[show ws.map (λz=>n*z/ws.sum)=fs n ws from rfl];intro l1 dQ;have s1:=À.upd (o:=.lst ((fs n ws).map V.int)) dQ;have Ĺ:=aj (H:=H) (a:=l1) (o:=.lst ((fs n ws).map V.int));generalize upd H l1 _=H1 at s1 Ĺ⊢;dsimp only;refine aH ?_;refine⟨_,rfl,p,rfl,⟨_,Ê.of (s1 _ _ ep)⟩,rC (λz=>n*z%ws.sum) (s1 _ _ ep) tS (λz Q hz h=>⟨_,rfl,_,rfl,_,_,rfl,rfl,.inl ⟨Z1,Z1⟩,_,rfl,_,_,rfl,rfl,(by show 0<ws.sum;lia),h⟩) ?_⟩;rw[show ws.map (λz=>n*z%ws.sum)=rs n ws from rfl];intro l2 eC;have s2:=s1.updR (o:=.lst ((rs n ws).map V.int)) eC;have γ:=aj (H:=H1) (a:=l2) (o:=.lst ((rs n ws).map V.int));have mx:=À.upd (o:=.lst ((rs n ws).map V.int)) eC _ _ Ĺ;have yA:H l1=none:=dQ;clear dQ eC;generalize upd H1 l2 _=H2 at s2 γ mx⊢;clear Ĺ s1;dsimp only;refine aH ?_;refine⟨_,rfl,_,rfl,l1,fs n ws,rfl,.inl (É.of mx),_,_,rfl,rfl,?_⟩;show _;dsimp only;rw[show n-(fs n ws).sum=lf n ws from rfl];refine aH ?_;refine⟨_,rfl,l2,rs n ws,rfl,γ,by rw[xK];exact tS,λH3 l3 pl ord s3 DZ el3=>⟨_,rfl,_,rfl,l3,_,rfl,É.of el3,λl4 fk=>⟨l4,rfl,⟨_,É.of aj⟩,?_⟩⟩⟩;have SX:=zg (n:=n) ok;have SY:=J0 (n:=n) ok;rw[xK]at ord;have S0:=ord.length_eq;rw[List.length_range]at S0;have yT:ju (pl.map λj:Nat=>V.int (j:Int)) none (some (lf n ws))=(pl.take (lf n ws).toNat).map λj:Nat=>V.int (j:Int):=by rw[List.map_take,<-gC (i:=(lf n ws).toNat) (by rw[Ð];lia),show((lf n ws).toNat:Int)=lf n ws by lia]
 rw[yT];have inr:∀j∈pl.take (lf n ws).toNat,j<ws.length:=λj hj=>ϕ.mp (ord.mem_iff.mp (Zaq hj));have fin:=J1 ok n0 n1 ((ord.nodup_iff.mpr List.nodup_range).sublist (List.take_sublist _ _)) inr (by rw[Ė];lia);generalize pl.take (lf n ws).toNat=pk at fin inr fk⊢;have s4:=(s2.trans s3).updR (o:=.lst (pk.map λj:Nat=>V.int (j:Int))) fk;have el4:=aj (H:=H3) (a:=l4) (o:=.lst (pk.map λj:Nat=>V.int (j:Int)));have mB:=À.upd (o:=.lst (pk.map λj:Nat=>V.int (j:Int))) fk _ _ (s3 _ _ mx);have n14:l4≠l1:=λz=>by rw[z,s3 _ _ mx]at fk;cases fk
 generalize upd H3 l4 (.lst (pk.map λj:Nat=>V.int (j:Int)))=H4 at s4 el4 mB⊢;clear fk el3 DZ s3 mx γ s2;refine gU (xs:=pk.map λj:Nat=>V.int (j:Int)) (λi σ Hc=>∃o6,σ=[some (.int n),some (.ref p),some (.int ws.sum),some (.ref l1),some (.ref l2),some (.int (lf n ws)),o6]/\À H Hc/\Hc l4=some (.lst (pk.map λj:Nat=>V.int (j:Int)))/\Hc l1=some (.lst ((dO (fs n ws) (pk.take i)).map V.int))) ?_ ?_ ?_ ?_;.exact⟨none,rfl,s4,el4,mB⟩
 .rintro i σ Hc hi⟨o6,rfl,s5,e4,e1⟩;exact É.of e4
 .rintro i v σ Hc hv⟨o6,rfl,s5,e4,e1⟩;rw[ý]at hv;cases hj:pk[i]? with|none=>rw[hj]at hv;cases hv;|some j=>
   rw[hj]at hv;cases hv;refine aG ?_;have kp:∀o,À H (upd Hc l1 o):=λo b u e=>by rw[aq (az e yA)];exact s5 _ _ e
   have aE:j<(dO (fs n ws) (pk.take i)).length:=by rw[jl,pL];exact inr j (Κ hj)
   have hx:((dO (fs n ws) (pk.take i)).map V.int)[((j:Nat):Int).toNat]?=some (.int ((dO (fs n ws) (pk.take i)).getD j 0)):=by rw[Ľ,ý,Ö aE,Ğ,Ö aE];rfl
   refine⟨_,rfl,_,rfl,l1,_,(j:Int),_,rfl,rfl,É.of e1,Z1,hx,_,_,rfl,rfl,l1,_,(j:Int),j,rfl,rfl,e1,zj (by rw[Ð];exact aE),?_⟩;refine⟨_,rfl,kp _,by rw[aq n14];exact e4,?_⟩;rw[aj,Ĝ,hj];show _=some (HO.lst ((dO (fs n ws) (pk.take i++[j])).map V.int));rw[pK,List.map_set]
 .rintro σ Hc⟨o6,rfl,s5,e4,e1⟩;rw[Ð,Ĩ]at e1;dsimp only;refine tE ?_;exact⟨_,rfl,l1,_,rfl,.inl ⟨É.of e1,λt ht=>q _ t _ fin (s5.updR ht) aj⟩⟩
theorem ţ:Á ["sacks","weights"] ["sacks","weights"] (aD (top 52)):=ù
theorem ok_parted(F:Û K "parted" "parted" (top 52) f fd)(c1:ã P w K mg base 5 "refuse_unpartable" ["sacks","weights"] vL)(c2:ã P w K mg base 2 "parts_of" ["sacks","weights"] spParts):Í P w K mg base Ý 6 f fd ["sacks","weights"] spParts:=by refine F.oq ţ λai A outer s H vs Q E hr h=>?_;obtain⟨n,p,ws,rfl,ep,ok,n0,n1,q⟩:=h;refine⟨_,aC (cA (aJ c1 hr (aA (pv 0) (aA (pv 1) ao)))) (aF (aR (aJ c2 hr (aA (pv 0) (aA (pv 1) ao))))),?_⟩;refine aH ?_;refine⟨_,rfl,_,rfl,n,p,ws,rfl,ep,ok,n0,n1,λH1 s1=>?_⟩;dsimp only;refine tE ?_;exact⟨_,rfl,_,rfl,n,p,ws,rfl,s1 _ _ ep,ok,n0,n1,λH2 t ps pk s2 et=>q H2 t ps pk (s1.trans s2) et⟩
end
end K52P
namespace K52
open PySem L2
def bw:Int->PK->PP|_,[]=>[]|w,r::rs=>(if w<fl r 3 then w else fl r 3)::bw (w-(if w<fl r 3 then w else fl r 3)) rs
theorem gF:∀w rs r,bw w (rs++[r])=bw w rs++[if w-(bw w rs).sum<fl r 3 then w-(bw w rs).sum else fl r 3]|w,[],r=>by show[_]=[_];rw[show(bw w []).sum=0 from rfl,Int.sub_zero];|w,q::rs,r=>by rw[List.cons_append];unfold bw;rw[gF _ rs r,List.cons_append,ĳ,show∀a b c:Int,a-b-c=a-(b+c)from λa b c=>by lia]
theorem gq:∀w rs,(bw w rs).length=rs.length|_,[]=>rfl|w,r::rs=>by unfold bw;rw[Ī,Ī,gq]
theorem gG:∀{rs:PK},(∀r∈rs,0<=fl r 3)->0<=aP rs|[],_=>Za8 _|r::rs,h=>Int.add_nonneg (h r (.head _)) (gG λq hq=>h q (.tail _ hq))
structure Ń(w:Int)(rs:PK)(sh:PP):Prop where
 len:sh.length=rs.length
 sum:sh.sum=min w (aP rs)bd:∀p∈rs.zip sh,0<=p.2/\p.2<=fl p.1 3
theorem Em:∀{w:Int}{rs:PK},0<=w->(∀r∈rs,0<=fl r 3)->Ń w rs (bw w rs)
 |w,[],h,_=>⟨rfl,by show 0=min w 0;lia,λp hp=>nomatch hp⟩|w,r::rs,h,hr=>by
  have h3:=hr r (.head _);have hn:=gG λq hq=>hr q (.tail _ hq);obtain⟨x,hx⟩:∃x,x=if w<fl r 3 then w else fl r 3:=⟨_,rfl⟩;have hb:0<=x/\x<=fl r 3/\x<=w/\(x=w\/x=fl r 3):=by split at hx<;>lia
  obtain⟨a,b,c⟩:=Em (w:=w-x) (rs:=rs) Z1 λq hq=>hr q (.tail _ hq);have e:bw w (r::rs)=x::bw (w-x) rs:=by rw[hx];rfl
  have es:aP (r::rs)=fl r 3+aP rs:=rfl;rw[e];refine⟨by rw[Ī,Ī,a],by rw[ĳ,b,es];lia,λp hp=>?_⟩;rcases Ġ.mp hp with z|z;.rw[z];exact⟨hb.1,hb.2.1⟩
  .exact c p z
theorem En{rs:PK}(h:∀r∈rs,0<=fl r 3)(hs:(ü rs).sum<=w):Ń w rs (ü rs):=by refine⟨Ð _,by show(ü rs).sum=min w (ü rs).sum;lia,λp hp=>?_⟩;obtain⟨i,hi,rfl⟩:=Zar hp;rw[List.getElem_zip];have:(ü rs)[i]'(by rw[ŭ]at hi;lia)=fl (rs[i]'(by rw[ŭ]at hi;lia)) 3:=List.getElem_map _;show 0<=(ü rs)[i]'_/\(ü rs)[i]'_<=_;rw[this];exact⟨h _ (Č _),Za8 _⟩
theorem J3(h:K52P.PtOk w (ü rs) ps)(hs:w<=(ü rs).sum):Ń w rs ps:=by have hl:ps.length=rs.length:=h.len.trans (Ð _);refine⟨hl,by rw[h.sum];show w=min w (ü rs).sum;lia,λp hp=>?_⟩;obtain⟨i,hi,rfl⟩:=Zar hp;rw[ŭ]at hi;rw[List.getElem_zip];exact h.bd (Ö _) (by unfold ü;rw[ý,Ö Z1];rfl)
inductive π(vs:List V)(H:Hp)(Q:VK):Prop|mk:∀w l xs rs,(vs=[.int w,.ref l])->(H l=some (.lst xs))->(â H xs rs)->((∀r∈rs,r.length=4))->(rs.length<=8000000)->(∀m H',À H H'->H m=none->H' m=some (.lst ((bw w rs).map V.int))->Q (.ref m) H')->π  vs H Q
def Eo:Sp:=λvs H Q _=>π  vs H Q
inductive Ŕ(vs:List V)(H:Hp)(Q:VK):Prop|mk:∀w l xs rs,(vs=[.int w,.ref l])->(H l=some (.lst xs))->(â H xs rs)->((∀r∈rs,r.length=4/\1<=fl r 3/\fl r 3<=99))->(rs.length<=80)->(0<=w)->(∀t sh H',À H H'->Ń w rs sh->H' t=some (.tup (sh.map V.int))->Q (.ref t) H')->Ŕ  vs H Q
def vN:Sp:=λvs H Q _=>Ŕ  vs H Q
theorem Ţ:Á ["wool","owed","shares","left","due","number","holder","sacks","share"] ["wool","owed"] (aD (top 57)):=ù
theorem Hv(F:Û K "made_good" "made_good" (top 57) f fd)(Tn:mg "min"=none):Í P w K mg base Ý 1 f fd ["wool","owed"] Eo:=by
 refine F.oq Ţ λai A outer s H vs Q E hr h=>?_;obtain⟨w0,l,xs,rs,rfl,el,dv,h4,hz,q⟩:=h;refine⟨_,aC (ć 2 Ţ.nd (cP ao)) (aC (ć 3 Ţ.nd (pv 0)) (aC (bZ ĥ rfl (di (pv 1)) (bC rfl (au (Î 4 Ţ.nd) (au (Î 5 Ţ.nd) (au (Î 6 Ţ.nd) (au (Î 7 Ţ.nd) aW))))) (aC (ć 8 Ţ.nd (aM (gW rfl) rfl Tn ģ (aA (pv 7) (aA (pv 3) ao)))) (aC (cA (gK ό Ϲ Ϻ d9 (pv 2) (aA (pv 8) ao))) (aF (oE (i:=3) Ţ.nd rfl (Or.inl rfl) (pv 8) CJ))))) (aF (aR (pv 2))))),?_⟩;refine aH (aU ?_);refine⟨zL,λm hm=>?_⟩;refine aG ?_;dsimp only;refine aH (aU ?_);refine⟨_,rfl,?_⟩;refine aG ?_;dsimp only;refine aH ?_;have s1:=À.upd (o:=.lst []) hm;have nl:l≠m:=az el hm;refine⟨_,rfl,l,rfl,⟨_,É.of (s1 _ _ el)⟩,?_⟩;refine gU (xs:=xs) (λi σ Hc=>∃x4 x5 x6 x7 x8,σ=[some (.int w0),some (.ref l),some (.ref m),some (.int (w0-(bw w0 (rs.take i)).sum)),x4,x5,x6,x7,x8]/\(∀b o,H b=some o->Hc b=some o)/\Hc m=some (.lst ((bw w0 (rs.take i)).map V.int))) ?_ ?_ ?_ ?_;.refine⟨none,none,none,none,none,?_,λb o e=>s1 _ _ e,aj⟩;rw[Za0,show(bw w0 []).sum=0 from rfl,Int.sub_zero];rfl
 .rintro i σ Hc hi⟨x4,x5,x6,x7,x8,rfl,k,em⟩;exact É.of (k _ _ el)
 .rintro i x σ Hc hx⟨x4,x5,x6,x7,x8,rfl,k,em⟩;have hi:i<rs.length:=by have:=(ĩ.mp hx).1;rw[dv.1]at this;exact this
  obtain⟨t,ex,et⟩:=dv.2 i rs[i] (Ö hi);rw[ex]at hx;cases hx;rw[eU (h4 _ (Č hi))]at et;refine⟨t,_,rfl,Ê.of (k _ _ et),rfl,_,_,rfl,_,_,rfl,_,_,rfl,_,_,rfl,rfl,?_⟩;refine aH (aU ?_);refine⟨_,rfl,_,rfl,_,_,rfl,?_⟩;refine aG ?_;dsimp only;refine aH ?_;refine⟨_,rfl,.inl ⟨rfl,_,É.of em⟩,_,rfl,m,_,_,rfl,rfl,em,?_,?_⟩;.rw[Ð,gq,Ė,sizeLine_eq];lia
  have bX:rs.take (i+1)=rs.take i++[rs[i]]:=by rw[Ĝ,Ö hi];rfl
  dsimp only;refine⟨_,rfl,_,rfl,_,_,rfl,rfl,some (.int (fl rs[i] 0)),some (.int (fl rs[i] 1)),some (.int (fl rs[i] 2)),some (.int (fl rs[i] 3)),some (.int (if w0-(bw w0 (rs.take i)).sum<fl rs[i] 3 then w0-(bw w0 (rs.take i)).sum else fl rs[i] 3)),?_,λb o e=>?_,?_⟩;.rw[bX,gF,List.sum_append,ĳ,List.sum_nil,Int.add_zero,show∀a b c:Int,a-(b+c)=a-b-c from λa b c=>by lia];rfl
  .rw[aq (az e hm)];exact k _ _ e
  .rw[aj,bX,gF,ë];rfl
 .rintro σ Hc⟨x4,x5,x6,x7,x8,rfl,k,em⟩;rw[show xs.length=rs.length from dv.1,Ĩ]at em;exact⟨_,rfl,q m Hc (λb o e=>k b o e) hm em⟩
theorem scT2:Á ["wool","claims","weights"] ["wool","claims"] (aD (top 56)):=ù
theorem BL(F:Û K "shares_of" "shares_of" (top 56) f fd)(T:Mg mg)(Ts:mg "sum"=none)(c1:ã P w K mg base 6 "parted" ["sacks","weights"] K52P.spParts):Í P w K mg base Ý 7 f fd ["wool","claims"] vN:=by
 refine F.oq scT2 λai A outer s H vs Q E hr h=>?_;obtain⟨w0,l,xs,rs,rfl,el,dv,h4,hz,hw,q⟩:=h;refine⟨_,aC (ć 2 scT2.nd (bB bF rfl T.tuple Ó (aA (bI (g:=mQ K 4 (cH (bQ 0) (cH (bQ 1) (cH (bQ 2) (cH (bQ 3) ou))))) ["due","number","holder","sacks"] [none,none,none,none] rfl (di (pv 1)) (λC fp Z7 s₂ Ï=>⟨fH rfl rfl (au (Î 0 nd4) (au (Î 1 nd4) (au (Î 2 nd4) (au (Î 3 nd4) aW)))),bR,pv 3⟩) (λC=>trivial) ⟨rfl,rfl,rfl,rfl⟩) ao))) (aF (aR (oh (bf bT (aM (cX rfl) rfl Ts à (aA (pv 2) ao)) (pv 0) (bh _)) (pv 2) (aJ c1 hr (aA (pv 0) (aA (pv 2) ao)))))),?_⟩;refine aH (aU ?_);refine⟨_,rfl,l,rfl,⟨_,É.of el⟩,cY rs.length (λi ys σ Hc=>À H Hc/\(∃o1 o2 o3 o4,σ=[o1,o2,o3,o4])/\ys=(ü (rs.take i)).map V.int) ⟨À.refl H,⟨_,_,_,_,rfl⟩,rfl⟩ Z6 ?_ ?_⟩;.rintro i ys σ Hc hi hy⟨s1,⟨o1,o2,o3,o4,rfl⟩,rfl⟩;obtain⟨t,ex,et⟩:=dv.2 i rs[i] (Ö hi);rw[eU (h4 _ (Č hi)).1]at et;refine⟨⟨_,_,É.of (s1 _ _ el),ex⟩,λv H' y R hR=>?_⟩;obtain⟨rfl,y⟩:=y;have hv:=y _ (É.of (s1 _ _ el));rw[ex]at hv;cases hv;refine⟨t,_,rfl,Ê.of (s1 _ _ et),rfl,_,_,rfl,_,_,rfl,_,_,rfl,_,_,rfl,rfl,_,rfl,hR _ _ _ ⟨s1,⟨_,_,_,_,rfl⟩,?_⟩⟩;unfold ü;rw[Ĝ,Ö hi,ë,ë];rfl
 .rintro ys σ Hc hy⟨s1,_,rfl⟩;refine⟨⟨_,É.of (s1 _ _ el),by rw[dv.1];exact Ø _⟩,λD hD=>?_⟩;rw[Ĩ];refine⟨D,_,rfl,.inl ⟨É.of aj,λt ht=>?_⟩⟩;have s2:=(s1.updR (o:=.lst ((ü rs).map V.int)) hD).updR (o:=.tup ((ü rs).map V.int)) ht;have et:=aj (H:=upd Hc D (.lst ((ü rs).map V.int))) (a:=t) (o:=.tup ((ü rs).map V.int));generalize upd (upd Hc D (.lst ((ü rs).map V.int))) t (.tup ((ü rs).map V.int))=H2 at s2 et⊢;refine aG ?_;dsimp only;refine⟨_,rfl,t,ü rs,rfl,.inr (Ê.of et),_,rfl,_,_,rfl,rfl,_,rfl,?_⟩;by_cases hs:(ü rs).sum<=w0;.rw[ñ hs];exact cg ⟨_,rfl,q t _ H2 s2 (En (λr hr=>by have:=(h4 r hr).2.1;lia) hs) et⟩
  .rw[Ŋ hs];refine bH ⟨_,rfl,_,rfl,w0,t,ü rs,rfl,et,⟨?_,by unfold ü;rw[Ð];exact hz,λx hx=>?_⟩,hw,Z1,λH3 t3 ps pk s3 e3=>q t3 ps H3 (s2.trans s3) (J3 pk Z1) e3⟩;.cases hJ:rs with|nil=>rw[hJ]at hs;exact absurd hw hs;|cons r rs'=>unfold ü;rw[Ð,Ī];lia
   .obtain⟨r,hJ,rfl⟩:=è.mp hx;exact(h4 r hJ).2
theorem dR{Fin:List V->Hp->Prop}(n:Nat)(Pv:Nat->List V->St->Hp->Prop)(h0:Pv 0 [] dP H0)(hz:n<sizeLine)(step:∀i ys σ H,i<n->ys.length<=i->Pv i ys σ H->J.go i H/\∀x H',J.yld i H x H'->∀R:List V->St->Hp->Prop,(∀cE bo H4,cE.length<=i+1->Pv (i+1) cE bo H4->R cE bo H4)->g x σ H' λbo H2=>tt bo H2 λb H3=>if b=true then te bo H3 λy H4=>R (ys++[y]) bo H4 else R ys bo H3)(fin:∀ys σ H,ys.length<=n->Pv n ys σ H->J.stop n H/\Fin ys H):jN J g tt te Fin dP H0:=by
 refine⟨λi m ys σ H=>m=n-i/\i<=n/\ys.length<=i/\Pv i ys σ H,⟨_,rfl,Ě _,Ø _,h0⟩,?_⟩;rintro i m ys σ H⟨rfl,hi,hy,p⟩;refine⟨Z1,?_⟩;by_cases aE:i<n;.obtain⟨go,st⟩:=step i ys σ H aE hy p;exact .inr ⟨go,λx H' y=>st x H' y (λcE bo H4=>∃m',m'<n-i/\m'=n-(i+1)/\i+1<=n/\cE.length<=i+1/\Pv (i+1) cE bo H4) λcE bo H4 l2 p2=>⟨n-(i+1),Z1,rfl,aE,l2,p2⟩⟩
 .have e:i=n:=Z1;subst e;exact .inl (fin ys σ H hy p)
def mY(f:PP×Int->Int)(P:List (PP×Int)):PK:=(P.filter λp=>decide (0<f p)).map λp=>[fl p.1 0,fl p.1 1,fl p.1 2,f p]
def pM(p:PP×Int):Int:=fl p.1 3-p.2
theorem kZ(f:PP×Int->Int)(P:List (PP×Int))(p:PP×Int):mY f (P++[p])=mY f P++(if 0<f p then[[fl p.1 0,fl p.1 1,fl p.1 2,f p]]else[]):=by
 unfold mY;rw[Zat,ë];congr 1;by_cases h:0<f p;.rw[È h,zBf (p:=λp=>decide (0<f p)) (ñ h)];rfl
 .rw[Æ h,zBe (p:=λp=>decide (0<f p)) (by rw[ă];exact h)];rfl
theorem u9{f:PP×Int->Int}:∀{P:List (PP×Int)},(∀p∈P,0<=f p)->aP (mY f P)=(P.map f).sum
 |[],_=>rfl|p::P,h=>by
  have ih:=u9 λq hq=>h q (.tail _ hq);have h0:=h p (.head _);rw[ě,ĳ,<-ih];unfold mY;by_cases hp:0<f p;.rw[zBf (p:=λp=>decide (0<f p)) (ñ hp)];rfl
  .rw[zBe (p:=λp=>decide (0<f p)) (by rw[ă];exact hp)];lia
theorem uc:∀{rs:PK}{sh:PP},sh.length=rs.length->((rs.zip sh).map (·.2)).sum=sh.sum/\((rs.zip sh).map pM).sum=aP rs-sh.sum|[],[],_=>⟨rfl,rfl⟩|[],_::_,h=>nomatch h|_::_,[],h=>nomatch h|r::rs,x::sh,h=>by obtain⟨a,b⟩:=uc (rs:=rs) (sh:=sh) (Nat.succ.inj h);have es:aP (r::rs)=fl r 3+aP rs:=rfl;rw[List.zip_cons_cons,ě,ě,ĳ,ĳ,ĳ,a,b,es];refine⟨rfl,?_⟩;show fl r 3-x+_=_;lia
def ud(q r:PP):Prop:=r=[fl q 0,fl q 1,fl q 2,fl r 3]/\1<=fl r 3/\fl r 3<=fl q 3
structure Z0o(w:Int)(rs G K:PK):Prop where
 gp:∀r∈G,∃q∈rs,ud q r
 kp:∀r∈K,∃q∈rs,ud q r
 gs:aP G=min w (aP rs)ks:aP K=aP rs-min w (aP rs)gl:G.length<=rs.length
 kl:K.length<=rs.length
theorem vO{f:PP×Int->Int}{rs:PK}{sh:PP}(h:∀p∈rs.zip sh,f p<=fl p.1 3):(∀r∈mY f (rs.zip sh),∃q∈rs,ud q r)/\(mY f (rs.zip sh)).length<=rs.length:=by
 refine⟨λr hr=>?_,?_⟩;.obtain⟨p,hp,rfl⟩:=è.mp hr;obtain⟨m,hm⟩:=Ũ.mp hp;exact⟨p.1,(ϟ (show(p.1,p.2)∈_ from m)).1,rfl,ŋ hm,h p m⟩
 .have:=Zay (λp=>decide (0<f p)) (rs.zip sh);unfold mY;rw[Ð];rw[ŭ]at this;lia
theorem Mu{w:Int}(h:Ń w rs sh):Z0o w rs (mY (·.2) (rs.zip sh)) (mY pM (rs.zip sh)):=by
 obtain⟨a,b⟩:=uc h.len;obtain⟨g1,g2⟩:=vO (f:=(·.2)) (rs:=rs) (sh:=sh) λp hp=>(h.bd p hp).2;obtain⟨k1,k2⟩:=vO (f:=pM) (rs:=rs) (sh:=sh) λp hp=>by have:=(h.bd p hp).1;show fl p.1 3-p.2<=_;lia
 exact⟨g1,k1,by rw[u9 λp hp=>(h.bd p hp).1,a,h.sum],by rw[u9 λp hp=>by have:=(h.bd p hp).2;show 0<=fl p.1 3-p.2;lia,b,h.sum],g2,k2⟩
theorem gr:∀a b,aP (a++b)=aP a+aP b:=λa b=>by unfold aP ü;rw[ë,List.sum_append]
theorem K5{w:Int}{cl ow:PK}{sh mg:PP}(hc:∀r∈cl,0<=fl r 3)(ho:∀r∈ow,0<=fl r 3)(a:Ń w cl sh)(b:Ń (w-sh.sum) ow mg):Ń w (cl++ow) (sh++mg):=by have e:=a.sum;have h1:=gG hc;have h2:=gG ho;refine⟨by rw[ì,ì,a.len,b.len],by rw[List.sum_append,b.sum,gr];lia,λp hp=>?_⟩;rw[List.zip_append a.len.symm]at hp;exact(ē.mp hp).elim (a.bd p) (b.bd p)
inductive η(vs:List V)(H:Hp)(Q:VK):Prop|mk:∀w lc xc cl lo xo ow,(vs=[.int w,.ref lc,.ref lo])->(H lc=some (.lst xc))->(â H xc cl)->((∀r∈cl,r.length=4/\1<=fl r 3/\fl r 3<=99))->(cl.length<=80)->(0<=w)->(H lo=some (.lst xo))->(â H xo ow)->((∀r∈ow,r.length=4/\0<=fl r 3))->(ow.length<=4000000)->(∀t g k xg xk G K H',À H H'->Z0o w (cl++ow) G K->H' t=some (.tup [.ref g,.ref k])->H g=none->H k=none->H' g=some (.lst xg)->â H' xg G->H' k=some (.lst xk)->â H' xk K->Q (.ref t) H')->η  vs H Q
def Ep:Sp:=λvs H Q _=>η  vs H Q
theorem vP:bootBuiltins "list"=some (.type "list"):=by decide+kernel
theorem nd5:(["due","number","holder","sacks","share"]:ç).Nodup:=by decide+kernel
theorem ϐ:Á ["wool","claims","owed","shares","rows","gifts","lacking"] ["wool","claims","owed"] (aD (top 58)):=ù
theorem Er(F:Û K "sort_given" "sort_given" (top 58) f fd)(Ts:mg "sum"=none)(Tl:mg "list"=none)(Tz:mg "zip"=none)(c1:ã P w K mg base 7 "shares_of" ["wool","claims"] vN)(c2:ã P w K mg base 1 "made_good" ["wool","owed"] Eo):Í P w K mg base Ý 8 f fd ["wool","claims","owed"] Ep:=by
 refine F.oq ϐ λai A outer s H vs Q E hr h=>?_;obtain⟨w0,lc,xc,cl,lo,xo,ow,rfl,ec,D0,LI,S4,hw,eo,rh,FO,S8,q⟩:=h;refine⟨_,aC (ć 3 ϐ.nd (bB sy rfl Tl vP (aA (aJ c1 hr (aA (pv 0) (aA (pv 1) ao))) ao))) (aC (ć 4 ϐ.nd (aQ iM (pv 1) (pv 2))) (aC (oE (i:=3) ϐ.nd rfl (Or.inl rfl) (aJ c2 hr (aA (aQ du (pv 0) (aM (cX rfl) rfl Ts à (aA (pv 3) ao))) (aA (pv 2) ao))) tK) (aC (gM (g:=mQ K 2 (cH (mQ K 4 (cH (bQ 0) (cH (bQ 1) (cH (bQ 2) (cH (bQ 3) ou))))) (cH (bQ 4) ou))) (i:=5) ["due","number","holder","sacks","share"] [none,none,none,none,none] rfl ϐ.nd rfl (Or.inl rfl) (ZT.pi_zip false false rfl Tz (aA (pv 4) (aA (pv 3) ao))) (λC fp Z7 s₂ Ï=>⟨fH rfl rfl (au (fH rfl rfl (au (Î 0 nd5) (au (Î 1 nd5) (au (Î 2 nd5) (au (Î 3 nd5) aW))))) (au (Î 4 nd5) aW)),fD (bf mD (pv 4) aB (bh _)),bO (aA (pv 0) (aA (pv 1) (aA (pv 2) (aA (pv 4) ao))))⟩) (λC=>trivial) ⟨rfl,rfl,rfl,rfl⟩) (aC (gM (g:=mQ K 2 (cH (mQ K 4 (cH (bQ 0) (cH (bQ 1) (cH (bQ 2) (cH (bQ 3) ou))))) (cH (bQ 4) ou))) (i:=6) ["due","number","holder","sacks","share"] [none,none,none,none,none] rfl ϐ.nd rfl (Or.inl rfl) (ZT.pi_zip false false rfl Tz (aA (pv 4) (aA (pv 3) ao))) (λC fp Z7 s₂ Ï=>⟨fH rfl rfl (au (fH rfl rfl (au (Î 0 nd5) (au (Î 1 nd5) (au (Î 2 nd5) (au (Î 3 nd5) aW))))) (au (Î 4 nd5) aW)),fD (bf mD (pv 3) (pv 4) (bh _)),bO (aA (pv 0) (aA (pv 1) (aA (pv 2) (aA (aQ du (pv 3) (pv 4)) ao))))⟩) (λC=>trivial) ⟨rfl,rfl,rfl,rfl⟩) (aF (aR (bO (aA (pv 5) (aA (pv 6) ao))))))))),?_⟩;refine aX λc_ av=>?_;refine aU ?_;refine⟨_,rfl,_,rfl,w0,lc,xc,cl,rfl,ec,D0,LI,S4,hw,λt sh H1 s1 Η et=>⟨t,_,rfl,.inr (Ê.of et),λls OP=>?_⟩⟩;have s2:=s1.updR (o:=.lst (sh.map V.int)) OP;have S9:H ls=none:=s1.free OP;have dv:=aj (H:=H1) (a:=ls) (o:=.lst (sh.map V.int));generalize upd H1 ls (.lst (sh.map V.int))=H2 at s2 dv⊢;refine aG ?_;refine av _ _ ?_;clear av c_;try dsimp only
 refine aX λc_ av=>?_;refine aU ?_;refine⟨_,rfl,_,rfl,lc,lo,xc,xo,rfl,rfl,s2 _ _ ec,s2 _ _ eo,by rw[D0.1,rh.1,sizeLine_eq];lia,λlr kU=>?_⟩;have s3:=s2.updR (o:=.lst (xc++xo)) kU;have YH:H lr=none:=s2.free kU;have fm:=À.upd (o:=.lst (xc++xo)) kU _ _ dv;have LJ:=aj (H:=H2) (a:=lr) (o:=.lst (xc++xo));have Ta:lr≠ls:=λz=>by rw[z,dv]at kU;cases kU
 generalize upd H2 lr (.lst (xc++xo))=H3 at s3 fm LJ⊢;refine aG ?_;refine av _ _ ?_;clear av c_;try dsimp only
 refine aX λc_ av=>?_;refine⟨_,rfl,_,rfl,_,rfl,ls,sh,rfl,.inl (É.of fm),_,_,rfl,rfl,_,rfl,_,lo,xo,ow,rfl,s3 _ _ eo,rh.same s3,λr hr=>(FO r hr).1,Z1,λm H4 s4 nm em=>?_⟩;refine⟨ls,m,_,_,rfl,rfl,s4 _ _ fm,em,by rw[Ð,Ð,Η.len,gq,sizeLine_eq];lia,?_⟩;have c0:∀r∈cl,0<=fl r 3:=λr hr=>by have:=(LI r hr).2.1;lia
 have FR:=K5 c0 (λr hr=>(FO r hr).2) Η (Em (by have:=Η.sum;lia) λr hr=>(FO r hr).2);rw[<-ë];generalize sh++bw (w0-sh.sum) ow=SH at FR;have D1:=FR.len;refine av _ _ ?_;clear av c_ Η;try dsimp only
 have k5:À H (upd H4 ls (.lst (SH.map V.int))):=λb o e=>by rw[aq (az e S9)];exact s4 _ _ (s3 _ _ e)
 have mE:=aj (H:=H4) (a:=ls) (o:=.lst (SH.map V.int));have iN:upd H4 ls (.lst (SH.map V.int)) lr=some (.lst (xc++xo)):=by rw[aq Ta];exact s4 _ _ LJ
 generalize upd H4 ls (.lst (SH.map V.int))=H5 at k5 mE iN⊢;have AO:â H (xc++xo) (cl++ow):=D0.app rh;have OQ:∀r∈cl++ow,r.length=4:=λr hr=>(ē.mp hr).elim (λz=>(LI r z).1) λz=>(FO r z).1;have Tb:(cl++ow).length<=5000000:=by rw[ì];lia
 generalize xc++xo=xr at iN AO;generalize cl++ow=rr at q D1 FR AO OQ Tb;clear dv fm LJ s1 s2 s3 s4 em et;obtain⟨ZP,FU⟩:∃ZP,ZP=rr.zip SH:=⟨_,rfl⟩;have gv:=Mu FR;rw[<-FU]at gv;have rj:ZP.length=rr.length:=by rw[FU,ŭ,D1,Nat.min_self]
 have yY:∀i(h:i<ZP.length),rr[i]?=some ZP[i].1:=λi h=>by have hi:i<rr.length:=Z1;rw[Ö hi];congr 1;simp only[FU,List.getElem_zip]
 have D2:∀i(h:i<ZP.length),SH[i]?=some ZP[i].2:=λi h=>by have hi:i<SH.length:=Z1;rw[Ö hi];congr 1;simp only[FU,List.getElem_zip]
 have D3:∀i(h:i<ZP.length),(ZP[i].1).length=4:=λi h=>OQ _ (Κ (yY i h));refine aX λc_ av=>?_;refine⟨_,rfl,_,rfl,lr,ls,xr,_,rfl,É.of iN,É.of mE,dR rr.length (λi ys σ Hc=>À H5 Hc/\(∃o1 o2 o3 o4 o5,σ=[o1,o2,o3,o4,o5])/\â Hc ys (mY (·.2) (ZP.take i))) ⟨À.refl _,⟨_,_,_,_,_,rfl⟩,â.nil⟩ Z6 ?_ ?_⟩
 .rintro i ys σ Hc hi hy⟨sc,⟨o1,o2,o3,o4,o5,rfl⟩,ht⟩;have hP:i<ZP.length:=by rw[rj];exact hi
  obtain⟨tr,ex,et⟩:=AO.2 i ZP[i].1 (yY i hP);have er:É K Hc lr xr:=É.of (sc _ _ iN);have es:É K Hc ls (SH.map V.int):=É.of (sc _ _ mE);have AN:(SH.map V.int)[i]?=some (.int ZP[i].2):=by rw[ý,D2 i hP];rfl
  have bX:ZP.take (i+1)=ZP.take i++[ZP[i]]:=by rw[Ĝ,Ö hP];rfl
  have D4:=sc _ _ (k5 _ _ et);rw[eU (D3 i hP)]at D4;refine⟨⟨_,_,_,_,er,es,ex,AN⟩,λx H' yv R hR=>?_⟩;obtain⟨T0,nT,rfl,yv⟩:=yv;obtain⟨x',y',yn,y7,rfl⟩:=yv _ _ er es;rw[ex]at yn;cases yn;rw[AN]at y7;cases y7;have tT:=sc.updR (o:=.tup [.ref tr,.int ZP[i].2]) nT;refine⟨T0,_,rfl,Ê.of aj,rfl,_,_,rfl,?_⟩;refine⟨tr,_,rfl,Ê.of (À.upd nT _ _ D4),rfl,_,_,rfl,_,_,rfl,_,_,rfl,_,_,rfl,rfl,?_⟩;refine⟨_,_,rfl,rfl,?_⟩;refine⟨_,rfl,_,_,rfl,rfl,_,rfl,?_⟩;by_cases aS:0<ZP[i].2;.rw[ñ aS];refine cg ⟨_,rfl,_,rfl,_,rfl,_,rfl,zL,λt ij=>hR _ _ _ (by rw[ì];show ys.length+1<=i+1;lia) ⟨tT.updR ij,⟨_,_,_,_,_,rfl⟩,?_⟩⟩;rw[bX,kZ,È aS];exact(((ht.same (À.upd nT)).same (À.upd ij))).app (â.one aj)
  .rw[Ŋ aS];refine bH (hR _ _ _ Z1 ⟨tT,⟨_,_,_,_,_,rfl⟩,?_⟩);rw[bX,kZ,Æ aS,Į];exact ht.same (À.upd nT)
 rintro ys σ Hc hy⟨sc,_,ht⟩;rw[<-rj,Ĩ]at ht;refine⟨⟨_,É.of (sc _ _ iN),by rw[AO.1];exact Ø _⟩,λg hg=>?_⟩;have k6:=(k5.trans sc).updR (o:=.lst ys) hg;have ng:H g=none:=(k5.trans sc).free hg;have eg:=aj (H:=Hc) (a:=g) (o:=.lst ys);have elg:=ht.same (À.upd (o:=.lst ys) hg);have rl:=À.upd (o:=.lst ys) hg _ _ (sc _ _ iN);have iO:=À.upd (o:=.lst ys) hg _ _ (sc _ _ mE);generalize upd Hc g (.lst ys)=H6 at k6 eg elg rl iO⊢;clear sc ht hy mE iN k5;refine av _ _ ?_;clear av c_;try dsimp only
 refine aX λc_ av=>?_;refine⟨_,rfl,_,rfl,lr,ls,xr,_,rfl,É.of rl,É.of iO,dR rr.length (λi ys σ Hc=>À H6 Hc/\(∃o1 o2 o3 o4 o5,σ=[o1,o2,o3,o4,o5])/\â Hc ys (mY pM (ZP.take i))) ⟨À.refl _,⟨_,_,_,_,_,rfl⟩,â.nil⟩ Z6 ?_ ?_⟩
 .rintro i ys σ Hc hi hy⟨sc,⟨o1,o2,o3,o4,o5,rfl⟩,ht⟩;have hP:i<ZP.length:=by rw[rj];exact hi
  obtain⟨tr,ex,et⟩:=AO.2 i ZP[i].1 (yY i hP);have er:É K Hc lr xr:=É.of (sc _ _ rl);have es:É K Hc ls (SH.map V.int):=É.of (sc _ _ iO);have AN:(SH.map V.int)[i]?=some (.int ZP[i].2):=by rw[ý,D2 i hP];rfl
  have bX:ZP.take (i+1)=ZP.take i++[ZP[i]]:=by rw[Ĝ,Ö hP];rfl
  have D4:=sc _ _ (k6 _ _ et);rw[eU (D3 i hP)]at D4;refine⟨⟨_,_,_,_,er,es,ex,AN⟩,λx H' yv R hR=>?_⟩;obtain⟨T0,nT,rfl,yv⟩:=yv;obtain⟨x',y',yn,y7,rfl⟩:=yv _ _ er es;rw[ex]at yn;cases yn;rw[AN]at y7;cases y7;have tT:=sc.updR (o:=.tup [.ref tr,.int ZP[i].2]) nT;refine⟨T0,_,rfl,Ê.of aj,rfl,_,_,rfl,?_⟩;refine⟨tr,_,rfl,Ê.of (À.upd nT _ _ D4),rfl,_,_,rfl,_,_,rfl,_,_,rfl,_,_,rfl,rfl,?_⟩;refine⟨_,_,rfl,rfl,?_⟩;refine⟨_,rfl,_,rfl,_,_,rfl,rfl,_,rfl,?_⟩;by_cases aS:0<pM ZP[i];.rw[ñ (show ZP[i].2<fl ZP[i].1 3 by unfold pM at aS;lia)];refine cg ⟨_,rfl,_,rfl,_,rfl,_,rfl,_,rfl,_,_,rfl,rfl,zL,λt ij=>hR _ _ _ (by rw[ì];show ys.length+1<=i+1;lia) ⟨tT.updR ij,⟨_,_,_,_,_,rfl⟩,?_⟩⟩;rw[bX,kZ,È aS];exact(((ht.same (À.upd nT)).same (À.upd ij))).app (â.one aj)
  .rw[Ŋ (show¬ZP[i].2<fl ZP[i].1 3 by unfold pM at aS;lia)];refine bH (hR _ _ _ Z1 ⟨tT,⟨_,_,_,_,_,rfl⟩,?_⟩);rw[bX,kZ,Æ aS,Į];exact ht.same (À.upd nT)
 rintro LL σ Hc hy⟨sc,_,ht⟩;rw[<-rj,Ĩ]at ht;refine⟨⟨_,É.of (sc _ _ rl),by rw[AO.1];exact Ø _⟩,λk hk=>?_⟩;have k7:=(k6.trans sc).updR (o:=.lst LL) hk;have nk:H k=none:=(k6.trans sc).free hk;have sk:=À.upd (o:=.lst LL) hk;refine av _ _ ?_;clear av c_;try dsimp only
 refine⟨_,rfl,_,rfl,zL,λt ij=>?_⟩;have st:=À.upd (o:=.tup [.ref g,.ref k]) ij;exact q t g k ys LL _ _ _ (k7.trans st) gv aj ng nk (st _ _ (sk _ _ (sc _ _ eg))) (((elg.same sc).same sk).same st) (st _ _ aj) ((ht.same sk).same st)
def dZ(L:PP)(i:Nat):PK:=((List.range i).filter λh=>decide (0<L.getD h 0)).map λ(h:Nat)=>[(h:Int),L.getD h 0]
theorem mL(L:PP)(i:Nat):dZ L (i+1)=dZ L i++(if 0<L.getD i 0 then[[(i:Int),L.getD i 0]]else[]):=by
 unfold dZ;rw[List.range_succ,Zat,ë];congr 1;by_cases h:0<L.getD i 0;.rw[È h,zBf (p:=λh=>decide (0<L.getD h 0)) (ñ h)];rfl
 .rw[Æ h,zBe (p:=λh=>decide (0<L.getD h 0)) (by rw[ă];exact h)];rfl
theorem xM(L:PP)(i:Nat):(dZ L i).length<=i:=by unfold dZ;rw[Ð];have:=Zay (λh=>decide (0<L.getD h 0)) (List.range i);rw[List.length_range]at this;exact this
def iI(ps ss:PK)(sort year:Int)(n:Nat):PK:=if fl (ps.getD n []) 1=sort then(dZ (bA (ps.getD n []) ss n year) 8).map (λr=>year::(n:Int)::r)else[]
def iD(ps ss:PK)(sort year:Int):Nat->PK|0=>[]|k+1=>iD ps ss sort year k++iI ps ss sort year k
def dB(ps ss:PK)(sort year:Int):PK:=iD ps ss sort year ps.length
theorem Es(ps ss:PK)(sort year:Int)(n:Nat):(iI ps ss sort year n).length<=8:=by
 unfold iI;split;.rw[Ð];exact xM _ 8
 .exact Ě _
theorem lq(ps ss:PK)(sort year:Int):∀k,(iD ps ss sort year k).length<=8*k|0=>Ø _|k+1=>by unfold iD;rw[ì];have:=lq ps ss sort year k;have:=Es ps ss sort year k;lia
inductive Ŝ(vs:List V)(H:Hp)(Q:VK):Prop|mk:∀ap xp ps ar xs ss sort year,(vs=[.ref ap,.ref ar,.int sort,.int year])->(Ã H ap xp ps)->(ps.length<=10)->((∀r∈ps,č r))->(Ã H ar xs ss)->(ss.length<=12)->((∀s∈ss,Η s))->(∀l xl H',À H H'->H l=none->H' l=some (.lst xl)->â H' xl (dB ps ss sort year)->Q (.ref l) H')->Ŝ  vs H Q
def vQ:Sp:=λvs H Q _=>Ŝ  vs H Q
theorem ndV:(["holder","sacks","year","number"]:ç).Nodup:=by decide+kernel
theorem Ϗ:Á ["promises","sales","sort","year","claims","number","promise","held"] ["promises","sales","sort","year"] (aD (top 55)):=ù
theorem BP(F:Û K "claims_in" "claims_in" (top 55) f fd)(Te:mg "enumerate"=none)(c1:ã P w K mg base 1 "held_in" ["promises","sales","number","year"] xJ):Í P w K mg base Ý 2 f fd ["promises","sales","sort","year"] vQ:=by
 refine F.oq Ϗ λai A outer s H vs Q E hr h=>?_;obtain⟨ap,xp,ps,ar,xs,ss,sort,year,rfl,rp,lp,okp,rs,ls,cy,q⟩:=h;refine⟨_,aC (ć 4 Ϗ.nd (cP ao)) (aC (bZ ĥ rfl (ZT.pi_enum true rfl Te (aA (pv 0) ao)) (bC rfl (au (bN (i:=5) Ϗ.nd rfl (Or.inr rfl)) (au (Î 6 Ϗ.nd) aW))) (aF (cG (bf mz (pX cB (pv 6) aB) (pv 2) (bh _)) (aC (ć 7 Ϗ.nd (aJ c1 hr (aA (pv 0) (aA (pv 1) (aA (pv 5) (aA (pv 3) ao)))))) (aF (oE (i:=4) Ϗ.nd rfl (Or.inl rfl) (bI (g:=mQ K 2 (cH (bQ 0) (cH (bQ 1) ou))) ["holder","sacks","year","number"] [none,none,some 3,some 5] rfl (ZT.pi_enum false rfl Te (aA (pv 7) ao)) (λC fp Z7 s₂ Ï=>⟨fH rfl rfl (au (Î 0 ndV) (au (Î 1 ndV) aW)),fD (bf mD (pv 1) aB (bh _)),bO (aA (pv 2) (aA (pv 3) (aA (pv 0) (aA (pv 1) ao))))⟩) (λC=>cI (cI trivial)) ⟨rfl,rfl,rfl,rfl⟩) tK))) bj))) (aF (aR (pv 4)))),?_⟩;refine aH (aU ?_);refine⟨zL,λl hl=>?_⟩;refine aG ?_;dsimp only;refine aH ?_;have s0:=À.upd (o:=.lst []) hl;refine⟨_,rfl,ap,xp,rfl,Ê.of (s0 _ _ rp.e),?_⟩;refine ZT.for_enum true (xs:=xp) (λi σ Hc=>∃x5 x6 x7 xl,σ=[some (.ref ap),some (.ref ar),some (.int sort),some (.int year),some (.ref l),x5,x6,x7]/\(∀b o,H b=some o->Hc b=some o)/\Hc l=some (.lst xl)/\â Hc xl (iD ps ss sort year i)) ?_ ?_ ?_ ?_;.exact⟨none,none,none,[],rfl,λb o e=>s0 _ _ e,aj,â.nil⟩
 .rintro i σ Hc hi⟨x5,x6,x7,xl,rfl,k,el,ht⟩;exact Ê.of (k _ _ rp.e)
 .rintro i x σ Hc T0 hx⟨x5,x6,x7,xl,rfl,k,el,ht⟩nT;have hi:i<ps.length:=by have:=(ĩ.mp hx).1;rw[rp.l]at this;exact this
  obtain⟨tr,fE,ff⟩:=rp.g i ps[i] (Ö hi);have:x=.ref tr:=by rw[hx]at fE;exact ŉ fE
  subst this;have op:=okp ps[i] (Č hi);have ep:ps.getD i []=ps[i]:=Ú hi;rw[dW op.1]at ff;have sT:=À.upd (o:=.tup [V.int i,V.ref tr]) nT;have kT:À H (upd Hc T0 (.tup [V.int i,V.ref tr])):=λb o e=>sT _ _ (k _ _ e);have AQ:=sT _ _ el;have AR:=ht.same sT;have eT:=aj (H:=Hc) (a:=T0) (o:=.tup [V.int i,V.ref tr]);generalize upd Hc T0 (.tup [V.int i,V.ref tr])=H1 at kT AQ AR eT⊢;refine⟨T0,_,rfl,Ê.of eT,rfl,_,_,rfl,_,_,rfl,rfl,?_⟩;refine⟨_,rfl,tr,_,1,.int (fl ps[i] 1),rfl,rfl,Ê.of (kT _ _ ff),rfl,_,rfl,rfl,_,rfl,?_⟩;by_cases hs:fl ps[i] 1=sort
  .rw[ñ (by rw[hs])];refine cg (aH ?_);refine aU ?_;refine⟨_,rfl,_,rfl,_,rfl,_,rfl,ap,xp,ps,ar,xs,ss,i,year,rfl,rp.same kT,rs.same kT,Z1,Z1,by rw[Ľ,ep];exact op,ls,cy,λhd H2 s2 e2=>?_⟩;rw[Ľ,ep]at e2;have FV:=fB ps[i] ss i year;have ua:iI ps ss sort year i=(dZ (bA ps[i] ss i year) 8).map (λr=>year::(i:Int)::r):=by unfold iI;rw[ep,È hs]
   generalize bA ps[i] ss i year=L at e2 FV ua;have k2:=kT.trans s2;have γ:=s2 _ _ AQ;have D5:=AR.same s2;refine aG ?_;dsimp only;refine⟨_,rfl,_,rfl,hd,_,rfl,É.of e2,dR 8 (λj ys σ Hj=>À H2 Hj/\(∃o1 o2,σ=[o1,o2,some (.int year),some (.int i)])/\â Hj ys ((dZ L j).map (λr=>year::(i:Int)::r))) ⟨À.refl _,⟨_,_,rfl⟩,â.nil⟩ (by rw[sizeLine_eq];decide) ?_ ?_⟩
   .rintro j ys σ Hj hj hy⟨sc,⟨o1,o2,rfl⟩,kK⟩;have ko:É K Hj hd (L.map V.int):=É.of (sc _ _ e2);have OR:(L.map V.int)[j]?=some (.int (L.getD j 0)):=by have dS:j<L.length:=Z1;rw[ý,Ğ,Ö dS];rfl
    refine⟨⟨_,_,ko,OR⟩,λx H' yv R hR=>?_⟩;obtain⟨T1,LM,rfl,yv⟩:=yv;obtain⟨x',cm,rfl⟩:=yv _ ko;rw[OR]at cm;cases cm;have tT:=sc.updR (o:=.tup [.int (j:Int),.int (L.getD j 0)]) LM;refine⟨T1,_,rfl,Ê.of aj,rfl,_,_,rfl,_,_,rfl,rfl,?_⟩;refine⟨_,rfl,_,_,rfl,rfl,_,rfl,?_⟩;by_cases aS:0<L.getD j 0;.rw[ñ aS];refine cg ⟨_,rfl,_,rfl,_,rfl,_,rfl,zL,λt ij=>hR _ _ _ (by rw[ì];show ys.length+1<=j+1;lia) ⟨tT.updR ij,⟨_,_,rfl⟩,?_⟩⟩;rw[mL,È aS,ë];exact((kK.same (À.upd LM)).same (À.upd ij)).app (â.one aj)
    .rw[Ŋ aS];refine bH (hR _ _ _ Z1 ⟨tT,⟨_,_,rfl⟩,?_⟩);rw[mL,Æ aS,Į];exact kK.same (À.upd LM)
   .rintro ys σ Hj hy⟨sc,_,kK⟩;refine⟨⟨_,É.of (sc _ _ e2),by rw[Ð];lia⟩,λD hD=>?_⟩;have sD:=sc.updR (o:=.lst ys) hD;have nD:D≠l:=λz=>by rw[z,sc _ _ γ]at hD;cases hD
    have ll:=lq ps ss sort year i;have:=ht.1;refine⟨l,D,xl,ys,rfl,rfl,sD _ _ γ,aj,by rw[sizeLine_eq];lia,?_⟩;refine⟨_,_,_,xl++ys,rfl,λb o e=>?_,aj,?_⟩;.rw[aq (az e hl)];exact sD _ _ (k2 _ _ e)
    .have e3:=(D5.same sD).app (kK.same (À.upd (o:=.lst ys) hD));rw[<-ua]at e3;refine e3.keep λb z e=>?_;rw[aq λw=>by rw[w,sD _ _ γ]at e;cases e];exact e
  .rw[Ŋ (λz=>hs (by injection z))];refine bH ?_;refine⟨_,_,_,xl,rfl,λb o e=>kT _ _ e,AQ,?_⟩;have:iD ps ss sort year (i+1)=iD ps ss sort year i:=by show iD ps ss sort year i++iI ps ss sort year i=_;unfold iI;rw[ep,Æ hs,Į]
   rw[this];exact AR
 .rintro σ Hc⟨x5,x6,x7,xl,rfl,k,el,ht⟩;rw[show xp.length=ps.length from rp.l]at ht;exact⟨_,rfl,q l xl Hc (λb o e=>k b o e) hl el ht⟩
theorem Ĕ:∀(L:PP)i a,i<L.length->(L.set i a).sum=L.sum-L.getD i 0+a|[],i,a,h=>by simp at h;|x::L,0,a,h=>by rw[List.set_cons_zero,ĳ,ĳ,List.getD_cons_zero];lia;|x::L,i+1,a,h=>by rw[List.set_cons_succ,ĳ,ĳ,List.getD_cons_succ,Ĕ L i a (by simpa using h)];lia
theorem vR(h:i.toNat<L.length):(jF L i v).sum=L.sum+v:=by unfold jF;rw[Ĕ _ _ _ h];lia
theorem mq:∀{L:PP},(∀x∈L,0<=x)->0<=L.sum/\∀x∈L,x<=L.sum
 |[],_=>⟨Za8 _,λx hx=>by cases hx⟩|y::L,h=>by
  obtain⟨h1,h2⟩:=mq (L:=L) λx hx=>h x (.tail _ hx);have hy:=h y (.head _);rw[ĳ];refine⟨Z1,λx hx=>?_⟩;rcases Ġ.mp hx with z|z;.lia
  .have:=h2 x z;lia
theorem ue{L:PP}(h:∀x∈L,0<=x)(i:Nat):0<=L.getD i 0:=by rw[Ğ];cases e:L[i]? with|none=>exact Za8 _;|some y=>exact h y (Κ e)
theorem zm(h:∀x∈L,0<=x)(hv:0<=L.getD i.toNat 0+v):∀x∈jF L i v,0<=x:=by
 intro x hx;unfold jF at hx;rcases List.mem_or_eq_of_mem_set hx with z|z;.exact h x z
 .rw[z];exact hv
theorem xN(h:un ps ss=none):∀j,j<ss.length->cF ps (ss.take j) (ss.getD j [])=true:=λj hj=>by unfold un at h;have:=List.find?_eq_none.mp h j (ϕ.mpr hj);simpa using this
theorem kE(hu:un ps ss=none)(h5:∀s∈ss,s.length=5)(op:č (ps.getD n [])):∀k,k<=ss.length->(∀x∈bA (ps.getD n []) (ss.take k) n y,0<=x)/\(bA (ps.getD n []) (ss.take k) n y).sum<=99:=by
 intro k;by_cases hy:fl (ps.getD n []) 2<=y/\y<=fl (ps.getD n []) 3
 .obtain⟨_,⟨a1,a2⟩,_,_,⟨e1,e2⟩,_⟩:=id op
  induction k with|zero=>
   intro _;rw[Za0];unfold bA;rw[È hy];show(∀x∈đ (ps.getD n []),0<=x)/\(đ (ps.getD n [])).sum<=99;unfold đ;refine⟨λx hx=>?_,?_⟩
   .rcases List.mem_or_eq_of_mem_set hx with z|z;.rw[List.eq_of_mem_replicate z];exact Za8 _
    .lia
   .rw[Ĕ _ _ _ (by rw[Zbb];lia)];have:(List.replicate 8 (0:Int)).sum=0:=rfl;have e:(List.replicate 8 (0:Int)).getD (fl (ps.getD n []) 0).toNat 0=0:=by rw[Ğ,Zbk,È Z1];rfl
    rw[this,e];lia;|succ k ih=>
   intro hk;have dS:k<ss.length:=Z1;obtain⟨i1,i2⟩:=ih Z1;have hB:=xN hu k dS;rw[Ú dS]at hB;have bX:ss.take (k+1)=ss.take k++[ss[k]]:=by rw[Ĝ,Ö dS];rfl
   have eh:bA (ps.getD n []) (ss.take (k+1)) n y=å n y (bA (ps.getD n []) (ss.take k) n y) ss[k]:=by unfold bA;rw[È hy,È hy,bX,List.foldl_append];rfl
   have Tc:=kY (h5 _ (Č dS)) hB;obtain⟨_,⟨b1,b2⟩,c1,c2⟩:=Tc;have hl:=fB (ps.getD n []) (ss.take k) n y;rw[eh];unfold å;by_cases hc:fl ss[k] 0=n/\fl ss[k] 4<=y
   .rw[È hc];unfold cF at hB;rw[ġ]at hB;obtain⟨kf,iE⟩:=hB;have ep:jn ps ss[k]=ps.getD n []:=by unfold jn;rw[hc.1,Ľ]
    have kF:fl ss[k] 3<=(bA (ps.getD n []) (ss.take k) n y).getD (fl ss[k] 1).toNat 0:=by
     have:=Ő.mp iE y (by
      unfold years;refine è.mpr ⟨(y-fl ss[k] 4).toNat,ϕ.mpr ?_,?_⟩;.rw[ep];lia
      .lia);have:=ŋ this;rw[ep,hc.1]at this;exact this
    unfold mX at kf;simp only[Bool.and_eq_true,ă,Bool.not_eq_true',decide_eq_false_iff_not]at kf;obtain⟨_,_,_,LN,⟨v1,v2⟩,_⟩:=kf;generalize bA (ps.getD n []) (ss.take k) n y=L at i1 i2 hl kF;have n1:=zm (i:=fl ss[k] 1) (v:=-(fl ss[k] 3)) i1 Z1;refine⟨zm n1 ?_,?_⟩;.have:=ue n1 (fl ss[k] 2).toNat;lia
    .rw[vR (by rw[j0];lia),vR Z1];lia
   .rw[Æ hc];exact⟨i1,i2⟩
 .intro _;unfold bA;rw[Æ hy];refine⟨λx hx=>by rw[List.eq_of_mem_replicate hx];exact Za8 _,by decide⟩
def aZ(ps:PK)(r:PP):Int:=fl (ps.getD (fl r 1).toNat []) 1
structure ŀ(ps:PK)(r:PP):Prop where
 l:r.length=4
 n0:0<=fl r 1
 n1:fl r 1<ps.length
 s0:1<=fl r 3
 s1:fl r 3<=99
 h0:0<=fl r 2
 h1:fl r 2<8
theorem Mv(hu:un ps ss=none)(h5:∀s∈ss,s.length=5)(okp:∀r∈ps,č r):∀k,k<=ps.length->∀r∈iD ps ss sort year k,ŀ ps r/\aZ ps r=sort:=by intro k;induction k with|zero=>intro _ r hr;cases hr;|succ k ih=>
  intro hk r hr;rcases ē.mp (show r∈iD ps ss sort year k++iI ps ss sort year k from hr)with z|z;.exact ih Z1 r z
  .unfold iI at z;split at z
   .rename_i hs;obtain⟨q,hq,rfl⟩:=è.mp z;unfold dZ at hq;obtain⟨h,hh,rfl⟩:=è.mp hq;have hp:=ŋ (Ũ.mp hh).2;have h8:=ϕ.mp (Ũ.mp hh).1;have dS:k<ps.length:=Z1;obtain⟨a,b⟩:=kE (n:=k) (y:=year) hu h5 (by rw[Ú dS];exact okp _ (Č dS)) ss.length (Ø _);rw[Ĩ]at a b;have le:(bA (ps.getD k []) ss k year).getD h 0<=99:=by rw[Ğ]at hp⊢;cases e:(bA (ps.getD k []) ss k year)[h]? with|none=>show(0:Int)<=99;decide;|some y=>have:=(mq a).2 y (Κ e);show y<=99;lia
    exact⟨⟨rfl,Int.natCast_nonneg k,Int.ofNat_lt.mpr dS,hp,le,Int.natCast_nonneg h,Int.ofNat_lt.mpr h8⟩,hs⟩
   .cases z
theorem rD(hu:un ps ss=none)(h5:∀s∈ss,s.length=5)(okp:∀r∈ps,č r):∀r∈dB ps ss sort year,ŀ ps r/\aZ ps r=sort:=Mv hu h5 okp ps.length (Ø _)
theorem pN(h:ps.length<=10):(dB ps ss sort year).length<=80:=by have:=lq ps ss sort year ps.length;unfold dB;lia
def aY(ps ow:PK)(sort:Int):PK:=ow.filter λr=>decide (aZ ps r=sort)
theorem Et{ps ow:PK}(h:∀r∈ow,ŀ ps r):∀r∈aY ps ow sort,ŀ ps r/\aZ ps r=sort:=λr hr=>⟨h r (Ũ.mp hr).1,ŋ (Ũ.mp hr).2⟩
theorem BR(ps ow:PK)(sort:Int):(aY ps ow sort).length<=ow.length:=Zay _ _
theorem ie(ps a b:PK)(sort:Int):aY ps (a++b) sort=aY ps a sort++aY ps b sort:=Zat ..
theorem ig{ps K:PK}(h:∀r∈K,aZ ps r=s)(t:Int):aY ps K t=if t=s then K else[]:=by
 split;.rename_i e;exact List.filter_eq_self.mpr λr hr=>ñ (by rw[e];exact h r hr)
 .rename_i e;exact List.filter_eq_nil_iff.mpr λr hr z=>e (by rw[<-ŋ z];exact h r hr)
theorem zq(h:ud q r)(o:ŀ ps q):ŀ ps r/\aZ ps r=aZ ps q:=by
 obtain⟨e,a,b⟩:=h;have e1:fl r 1=fl q 1:=by rw[e];rfl
 have e2:fl r 2=fl q 2:=by rw[e];rfl
 refine⟨⟨by rw[e];rfl,by rw[e1];exact o.n0,by rw[e1];exact o.n1,a,Int.le_trans b o.s1,by rw[e2];exact o.h0,by rw[e2];exact o.h1⟩,?_⟩;unfold aZ;rw[e1]
theorem ŀ.nn{ps rs:PK}(h:∀r∈rs,ŀ ps r):∀r∈rs,0<=fl r 3:=λr hr=>Int.le_trans Z3 (h r hr).s0
def xD(c:PP)(ps ss:PK)(o:Nat->Int)(y:Int)(s:Nat):Int:=aP (dB ps ss s y)+o s-c.getD s 0
def dn(x:Nat->Int):Nat->Int|0=>0|n+1=>max 0 (dn x n-x n)
def oS(cs ps ss:PK):Nat->Nat->Int|0,_=>0|m+1,s=>max 0 (xD (cs.getD m []) ps ss (oS cs ps ss m) m s-dn (xD (cs.getD m []) ps ss (oS cs ps ss m) m) s)
theorem J7(x:Nat->Int):∀n,0<=dn x n|0=>Za8 _|n+1=>by show 0<=max 0 _;lia
structure Ε(cs ps ss:PK)(m:Nat)(K:PK):Prop where
 ok:∀r∈K,ŀ ps r
 sm:∀s:Nat,s<3->aP (aY ps K s)=oS cs ps ss m s
 len:K.length<=240*m
def aO(cs ps ss:PK)(m:Nat):Nat->Int|0=>0|n+1=>aO cs ps ss m n+oS cs ps ss m n
theorem j6:∀{ps K:PK},(∀r∈K,0<=aZ ps r/\aZ ps r<3)->aP K=aP (aY ps K (0:Nat))+aP (aY ps K (1:Nat))+aP (aY ps K (2:Nat))
 |_,[],_=>rfl|ps,r::K,h=>by
  have ih:=j6 λq hq=>h q (.tail _ hq);have h0:=h r (.head _);have e:∀s:Nat,aP (aY ps (r::K) s)=aP (aY ps K s)+if aZ ps r=s then fl r 3 else 0:=λs=>by
   have:r::K=[r]++K:=rfl;rw[this,ie,gr,ig (s:=aZ ps r) (λq hq=>by rw[Ū.mp hq])];by_cases z:aZ ps r=s;.rw[È z.symm,È z];show fl r 3+0+_=_;lia
   .rw[Æ λw=>z w.symm,Æ z];show 0+_=_;lia
  have es:aP (r::K)=fl r 3+aP K:=rfl;rw[e,e,e,es,ih];split<;>split<;>split<;>lia
def cap(ps ow:PK):Nat->Nat|0=>0|n+1=>cap ps ow n+(80+(aY ps ow n).length)
theorem Eu(ps ow:PK)(h:a<=b):cap ps ow a<=cap ps ow b:=by induction h with|refl=>exact Ø _;|step _ ih=>exact ĺ ih (Nat.le_add_right ..)
theorem uf(ps:PK):∀ow,cap ps ow 3<=240+ow.length
 |[]=>Ø _|r::ow=>by
  have ih:=uf ps ow;have e:∀s:Int,(aY ps (r::ow) s).length=(aY ps ow s).length+if aZ ps r=s then 1 else 0:=λs=>by
   have:r::ow=[r]++ow:=rfl;rw[this,ie,ì,ig (s:=aZ ps r) (λq hq=>by rw[Ū.mp hq])];by_cases z:aZ ps r=s;.rw[È z.symm,È z];exact Nat.add_comm ..
   .rw[Æ λw=>z w.symm,Æ z];exact Nat.zero_add _
  have c:∀ow:PK,cap ps ow 3=0+(80+(aY ps ow (0:Nat)).length)+(80+(aY ps ow (1:Nat)).length)+(80+(aY ps ow (2:Nat)).length):=λ_=>rfl;rw[c]at ih⊢;rw[e,e,e,Ī];split<;>split<;>split<;>lia
theorem ŀ.sort{ps:PK}(okp:∀r∈ps,č r)(o:ŀ ps r):0<=aZ ps r/\aZ ps r<3:=by obtain⟨p,_,ep,op⟩:=fK okp o.n0 o.n1;unfold aZ;rw[ep];exact op.2.2.1
theorem Ε.all{cs ps ss K:PK}(okp:∀r∈ps,č r)(h:Ε cs ps ss m K):aP K=aO cs ps ss m 3:=by rw[j6 λr hr=>(h.ok r hr).sort okp,h.sm 0 Z3,h.sm 1 Z3,h.sm 2 Z3];show _=0+oS cs ps ss m 0+oS cs ps ss m 1+oS cs ps ss m 2;rw[Int.zero_add]
end K52
open K52P (Þ)
namespace K52
open PySem L2
structure YI(ps:PK)(X:Nat->Int)(N:Nat->Nat)(i:Nat)(G K:PK)(L:PP):Prop where
 g:∀r∈G,ŀ ps r
 k:∀r∈K,ŀ ps r
 gl:G.length<=N i
 kl:K.length<=N i
 ll:L.length=i
 sm:∀s:Nat,aP (aY ps K s)=if s<i then max 0 (X s-dn X s)else 0
theorem YI.step(h:YI ps X N i G K L){cl:PK}(dA:∀r∈cl,ŀ ps r/\aZ ps r=i)(hl:N i+cl.length<=N (i+1))(hX:X i=aP cl-(w-dn X i))(v:Z0o w cl G' K')(l:Int):YI ps X N (i+1) (G++G') (K++K') (L++[l])/\w-aP G'=dn X (i+1):=by
 have gk:∀r∈G',ŀ ps r:=λr hr=>by obtain⟨q,hq,p⟩:=v.gp r hr;exact(zq p (dA q hq).1).1
 have kk:∀r∈K',ŀ ps r/\aZ ps r=i:=λr hr=>by obtain⟨q,hq,p⟩:=v.kp r hr;obtain⟨a,b⟩:=zq p (dA q hq).1;exact⟨a,b.trans (dA q hq).2⟩
 have h1:=v.gl;have h2:=v.kl;have h3:=h.gl;have h4:=h.kl;have es:aP K'=max 0 (X i-dn X i):=by rw[v.ks];lia
 refine⟨⟨λr hr=>(ē.mp hr).elim (h.g r) (gk r),λr hr=>(ē.mp hr).elim (h.k r) λz=>(kk r z).1,by rw[ì];lia,by rw[ì];lia,by rw[ì,h.ll];rfl,λs=>?_⟩,?_⟩
 .rw[ie,gr,h.sm s,ig (λr hr=>(kk r hr).2)];by_cases z:s=i;.rw[Æ Z1,È Z1,È Z1,es,z];lia
  .rw[Æ (show¬(s:Int)=i by lia)];show _+0=_;rw[Int.add_zero];by_cases y:s<i;.rw[È y,È Z1]
   .rw[Æ y,Æ Z1]
 .show _=max 0 (dn X i-X i);rw[v.gs];lia
theorem xO{a b:PP}(h:a.Perm b):a.sum=b.sum:=by induction h with|nil=>rfl;|cons x _ ih=>rw[ĳ,ĳ,ih];|swap x y l=>rw[ĳ,ĳ,ĳ,ĳ];lia;|trans _ _ h1 h2=>exact h1.trans h2
theorem YI.perm(h:YI ps X N i G K L)(pg:G'.Perm G)(pk:K'.Perm K):YI ps X N i G' K' L:=⟨λr hr=>h.g r (pg.mem_iff.mp hr),λr hr=>h.k r (pk.mem_iff.mp hr),by rw[pg.length_eq];exact h.gl,by rw[pk.length_eq];exact h.kl,h.ll,λs=>by rw[<-h.sm s];exact xO ((pk.filter _).map _)⟩
def vInt:V->Int|.int i=>i|_=>0
def j7(H:Hp)(a:Addr):PP:=match H a with|some (.tup xs)=>xs.map vInt|_=>[]
theorem zr(e:H a=some (.tup (r.map V.int))):j7 H a=r:=by unfold j7;rw[e];show(r.map V.int).map vInt=r;rw[ħ];exact List.map_id _
theorem nJ:∀{xs:List V}{rs:PK},â H xs rs->∃ads:þ,xs=ads.map V.ref/\rs=ads.map (j7 H)/\∀a∈ads,H a=some (.tup ((j7 H a).map V.int))
 |[],[],_=>⟨[],rfl,rfl,λa ha=>(by cases ha)⟩|[],_::_,h=>by have:=h.1;simp at this;|_::_,[],h=>by have:=h.1;simp at this;|x::xs,r::rs,h=>by
  obtain⟨t,e1,e2⟩:=h.2 0 r rfl;rw[List.getElem?_cons_zero]at e1;cases e1;obtain⟨ads,f1,f2,f3⟩:=nJ (xs:=xs) (rs:=rs) ⟨by have:=h.1;simpa using this,λi q e=>by obtain⟨u,g1,g2⟩:=h.2 (i+1) q (by rw[Za4];exact e);rw[Za4]at g1;exact⟨u,g1,g2⟩⟩;have er:=zr e2;refine⟨t::ads,by rw[f1];rfl,by rw[f2,ě,er,<-f2],λa ha=>?_⟩;rcases Ġ.mp ha with z|z;.rw[z,er];exact e2
  .exact f3 a z
theorem xP{l':þ}(h:∀a∈l',H' a=some (.tup ((j7 H a).map V.int))):â H' (l'.map V.ref) (l'.map (j7 H)):=by refine⟨by rw[Ð,Ð],λi r e=>?_⟩;rw[ý]at e;cases z:l'[i]? with|none=>rw[z]at e;cases e;|some a=>rw[z]at e;cases e;exact⟨a,by rw[ý,z];rfl,h a (Κ z)⟩
inductive δ(vs:List V)(H:Hp)(Q:VK):Prop|mk:∀bk y lo ac xc cs ap xp ps ar xs ss xo ow,(vs=[.ref bk,.int y,.ref lo])->(H bk=some (.tup [.ref ac,.ref ap,.ref ar]))->(Ã H ac xc cs)->((∀r∈cs,r.length=3/\∀x∈r,0<=x))->(0<=y)->(y<cs.length)->(Ã H ap xp ps)->(ps.length<=10)->((∀r∈ps,č r))->(Ã H ar xs ss)->(ss.length<=12)->((∀s∈ss,s.length=5))->(un ps ss=none)->(H lo=some (.lst xo))->(â H xo ow)->(Ε cs ps ss y.toNat ow)->(ow.length<=24000)->(∀t g k tl xg xk G K L H',À H H'->H' t=some (.tup [.ref g,.ref k,.ref tl])->H g=none->H k=none->(g≠sysModules/\k≠sysModules)->H' g=some (.lst xg)->â H' xg G->(∀r∈G,ŀ ps r)->G.length<=240*(y.toNat+1)->H' k=some (.lst xk)->â H' xk K->Ε cs ps ss (y.toNat+1) K->L.length=3->H' tl=some (.tup ((L:PP).map V.int))->Q (.ref t) H')->δ  vs H Q
def Ex:Sp:=λvs H Q _=>δ  vs H Q
theorem Hw(h:un ps ss=none)(h5:∀s∈ss,s.length=5):∀s∈ss,Η s:=λs hs=>by obtain⟨j,hj,e⟩:=Zar hs;have:=xN h j hj;rw[Ú hj,e]at this;exact kY (h5 s hs) this
theorem eV{tb:TS}(R:Hp->Prop)(h:R H)(g:∀H,R H->tb D σ H):tb D σ H:=g H h
theorem ndZ:(["row","promises","sort"]:ç).Nodup:=by decide+kernel
theorem ď:Á ["book","year","owed","clips","promises","sales","gifts","lacking","left","down","sort","wool","claims","ahead","given","lacked"] ["book","year","owed"] (aD (top 59)):=ù
theorem Hy(F:Û K "year_given" "year_given" (top 59) f fd)(T:Mg mg)(N:Nums mg)(Tr:mg "range"=none)(Ts:mg "sorted"=none)(c1:ã P w K mg base 2 "claims_in" ["promises","sales","sort","year"] vQ)(c2:ã P w K mg base 8 "sort_given" ["wool","claims","owed"] Ep)(c3:ã P w K mg base 1 "sacks_of" ["rows"] zf):Í P w K mg base Ý 9 f fd ["book","year","owed"] Ex:=by
 refine F.oq ď λai A outer s H vs Q E hr h=>?_;obtain⟨bk,y,lo,ac,xc,cs,ap,xp,ps,ar,xs,ss,xo,ow,rfl,eb,rc,okc,y0,y1,rp,lp,okp,rs,ls,h5,hu,eo,rh,rq,S8,q⟩:=h;have OS:=rq.ok;obtain⟨t3,e3⟩:=N.sorts;refine K52P.ok_b (aN ⟨cO (pv 0) (bC rfl (au (Î 3 ď.nd) (au (bN (i:=4) ď.nd rfl (Or.inr rfl)) (au (Î 5 ď.nd) aW))))⟩ (aN (fQ 6 ď.nd (fj cj)) (aN (fQ 7 ď.nd (fj cj)) (aN (fQ 8 ď.nd (fj cj)) (aN (fQ 9 ď.nd tu) (aN ⟨bZ ĥ rfl (d7 rfl Tr (aA (bM (v:=.int 3) rfl e3 ⟨_,rfl⟩) ao)) (bN (i:=10) ď.nd rfl (Or.inr rfl)) (jR (aN (fQ 11 ď.nd (jT bL (qP cB (qP cB ⟨pv 3⟩ ⟨pv 1⟩ (λ_ _=>rfl)) ⟨pv 10⟩ (λ_ _=>rfl)) ⟨pv 9⟩)) (aN (fQ 12 ď.nd ⟨aJ c1 hr (aA (pv 4) (aA (pv 5) (aA (pv 10) (aA (pv 1) ao))))⟩) (aN ⟨gM (i:=13) ["row","promises","sort"] [none,some 4,some 10] rfl ď.nd rfl (Or.inl rfl) (di (pv 2)) (λC fp Z7 s₂ Ï=>⟨Î 0 ndZ,fD (bf mz (pX (K52P.ix_tupK (K:=K) rfl) (pX (K52P.ix_tupK (K:=K) rfl) (pv 1) (pX (K52P.ix_tupK (K:=K) rfl) (pv 0) aB)) aB) (pv 2) (bh _)),pv 0⟩) (λC=>cI (cI trivial)) ⟨rfl,rfl,rfl,rfl⟩⟩ (aN ⟨cO (aJ c2 hr (aA (pv 11) (aA (pv 12) (aA (pv 13) ao)))) (bC rfl (au (Î 14 ď.nd) (au (Î 15 ď.nd) aW)))⟩ (aN (fQ 9 ď.nd (jT du ⟨pv 11⟩ ⟨aJ c3 hr (aA (pv 14) ao)⟩)) (aN ⟨oE (i:=6) ď.nd rfl (Or.inl rfl) (pv 14) tK⟩ (aN ⟨oE (i:=7) ď.nd rfl (Or.inl rfl) (pv 15) tK⟩ (bW ⟨cA (gK ό Ϲ Ϻ d9 (pv 8) (aA (pv 9) ao))⟩)))))))))⟩ (bW (fZ (iw (bJ ⟨aM fJ rfl Ts Þ (aA (pv 6) ao)⟩ (bJ ⟨aM fJ rfl Ts Þ (aA (pv 7) ao)⟩ (bJ ⟨bB bF rfl T.tuple Ó (aA (pv 8) ao)⟩ cj)))))))))))) ?_;refine aH ?_;refine⟨_,rfl,bk,_,rfl,Ê.of eb,rfl,_,_,rfl,_,_,rfl,_,_,rfl,rfl,?_⟩;dsimp only;refine aH (aU ?_);refine⟨zL,λlg ui=>?_⟩;refine aG ?_;dsimp only;refine aH (aU ?_);refine⟨zL,λlk oP=>?_⟩;refine aG ?_;dsimp only;refine aH (aU ?_);refine⟨zL,λll fR=>?_⟩;refine aG ?_;dsimp only;refine aH (aU ?_);refine aG ?_;dsimp only;have s1:=À.upd (o:=.lst []) ui;have s2:=À.upd (o:=.lst []) oP;have s3:=À.upd (o:=.lst []) fR;have Tf:H lg=none:=ui;have lI:H lk=none:=s1.free oP;have Tg:H ll=none:=(s1.trans s2).free fR;have OT:lg≠lk:=λz=>by rw[<-z,aj]at oP;cases oP
 have OU:lk≠ll:=λz=>by rw[<-z,aj]at fR;cases fR
 have OV:lg≠ll:=λz=>by rw[<-z,s2 _ _ aj]at fR;cases fR
 refine eV (λH1=>À H H1/\H1 lg=some (.lst [])/\H1 lk=some (.lst [])/\H1 ll=some (.lst [])) ⟨(s1.trans s2).trans s3,s3 _ _ (s2 _ _ aj),s3 _ _ aj,aj⟩ λH1=>?_;rintro⟨k1,CU,y8,Ĺ⟩;clear s1 s2 s3 ui oP fR;obtain⟨m,rfl⟩:∃m:Nat,y=m:=⟨y.toNat,Z1⟩;rw[Ľ]at rq q;have LO:m<cs.length:=Z1;obtain⟨tc,D6,rL⟩:=gP rc y0 (show cs[m]?=some cs[m]from Ö LO);have Th:cs.getD m []=cs[m]:=Ú LO;have D7:=okc _ (Č LO);have q:∀t g k tl xg xk G K L H',À H H'->H' t=some (.tup [.ref g,.ref k,.ref tl])->H g=none->H k=none->(g≠sysModules/\k≠sysModules)->H' g=some (.lst xg)->â H' xg G->H' k=some (.lst xk)->â H' xk K->YI ps (xD cs[m] ps ss (oS cs ps ss m) m) (cap ps ow) 3 G K L->H' tl=some (.tup ((L:PP).map V.int))->Q (.ref t) H':=λt g k tl xg xk G K L H' a b c d e f u v w z x=>q t g k tl xg xk G K L H' a b c d e f u z.g (by have:=z.gl;have:=uf ps ow;have:=rq.len;lia) v w ⟨z.k,λs hs=>by rw[z.sm s,È hs];show _=max 0 (xD (cs.getD m []) ps ss (oS cs ps ss m) m s-_);rw[Th],by have:=z.kl;have:=uf ps ow;have:=rq.len;lia⟩ z.ll x;have hX:∀s:Nat,s<3->xD cs[m] ps ss (oS cs ps ss m) m s=aP (dB ps ss s m++aY ps ow s)-cs[m].getD s 0:=λs hs=>by rw[gr,rq.sm s hs];rfl
 generalize xD cs[m] ps ss (oS cs ps ss m) m=X at q hX;generalize cs[m]=c at q rL D7 hX;have cy:=Hw hu h5;refine aH ?_;refine⟨3,rfl,by decide,by decide,?_⟩;refine cU (lo:=0) (λi σ Hc=>∃lP lh kH fx fy fA xg xk G K L,σ=[some (.ref bk),some (.int m),some (.ref lo),some (.ref ac),some (.ref ap),some (.ref ar),some (.ref lg),some (.ref lk),some (.ref ll),some (.int (dn X i)),lP,lh,kH,fx,fy,fA]/\À H Hc/\Hc lg=some (.lst xg)/\â Hc xg G/\Hc lk=some (.lst xk)/\â Hc xk K/\Hc ll=some (.lst (L.map V.int))/\YI ps X (cap ps ow) i G K L) ?_ ?_ ?_;.exact⟨none,none,none,none,none,none,[],[],[],[],[],rfl,k1,CU,â.nil,y8,â.nil,Ĺ,⟨λ_ h=>(nomatch h),λ_ h=>(nomatch h),Ě _,Ě _,rfl,λs=>rfl⟩⟩
 .rintro i σ Hc hi⟨lP,lh,kH,fx,fy,fA,xg,xk,G,KK,L,rfl,k,eg,elg,ek,iP,el,yi⟩;have hi:i<3:=hi;refine aG ?_;have z0:(0:Int)+(i:Int)=i:=Z1;rw[z0];refine Ej λDe FX=>?_;have LP:(c.map V.int)[i]?=some (.int (c.getD i 0)):=by have dS:i<c.length:=Z1;rw[ý,Ğ,Ö dS];rfl
  refine aH (aU ?_);refine⟨_,rfl,_,rfl,ac,xc,m,.ref tc,rfl,rfl,Ê.of (k _ _ rc.e),D6,_,rfl,tc,_,i,.int (c.getD i 0),rfl,rfl,Ê.of (k _ _ rL),dU LP,_,rfl,_,_,rfl,rfl,?_⟩;refine aG ?_;dsimp only;have YJ:=J7 X i;have cn:=ue D7.2 i;refine aH (aU ?_);refine⟨_,rfl,_,rfl,_,rfl,_,rfl,ap,xp,ps,ar,xs,ss,i,m,rfl,rp.same k,lp,okp,rs.same k,ls,cy,λlc Ti H2 s2 YK D0 LS=>?_⟩;refine aG ?_;dsimp only;have k2:=k.trans s2;refine aH ?_;refine⟨_,rfl,lo,rfl,⟨_,É.of (k2 _ _ eo)⟩,dR ow.length (λj ys σ Hj=>À H2 Hj/\(∃o1,σ=[o1,some (.ref ap),some (.int i)])/\â Hj ys (aY ps (ow.take j) i)) ⟨À.refl _,⟨_,rfl⟩,â.nil⟩ Z6 ?_ ?_⟩
  .rintro j ys σ Hj hj hy⟨sc,⟨o1,rfl⟩,kK⟩;have kj:=k2.trans sc;have ko:É K Hj lo xo:=É.of (kj _ _ eo);obtain⟨tr,ex,ff⟩:=rh.2 j ow[j] (Ö hj);have oj:=OS _ (Č hj);have o4:=oj.l;have o5:=oj.n0;have LU:=ff;rw[eU o4]at ff;obtain⟨p,hp,ep,op⟩:=fK okp o5 oj.n1;obtain⟨tp,ip,fh⟩:=gP rp o5 hp;rw[dW op.1]at fh;have bX:aY ps (ow.take (j+1)) i=aY ps (ow.take j) i++(if fl p 1=i then[ow[j]]else[]):=by
    rw[Ĝ,Ö hj];unfold aY aZ;rw[show(some ow[j]).toList=[ow[j]]from rfl,Zat];congr 1;by_cases h:fl p 1=i;.rw[È h,zBf (by rw[ep];exact ñ h)];rfl
    .rw[Æ h,zBe (by rw[ep,ă];exact h)];rfl
   refine⟨⟨_,_,ko,ex⟩,λx H' yv R hR=>?_⟩;obtain⟨rfl,yv⟩:=yv;have yv:=yv _ ko;rw[ex]at yv;cases yv;refine aG ?_;refine⟨_,rfl,_,rfl,tr,_,1,.int (fl ow[j] 1),rfl,rfl,Ê.of (kj _ _ ff),rfl,ap,xp,_,.ref tp,rfl,rfl,Ê.of (kj _ _ rp.e),ip,tp,_,1,.int (fl p 1),rfl,rfl,Ê.of (kj _ _ fh),rfl,_,rfl,rfl,_,rfl,?_⟩;by_cases h:fl p 1=i;.rw[ñ (by rw[h])];refine cg ⟨_,rfl,hR _ _ _ (by rw[ì];show ys.length+1<=j+1;lia) ⟨sc,⟨_,rfl⟩,?_⟩⟩;rw[bX,È h];exact kK.app (â.one (kj _ _ LU))
   .rw[Ŋ (λz=>h (by injection z))];refine bH (hR _ _ _ Z1 ⟨sc,⟨_,rfl⟩,?_⟩);rw[bX,Æ h,Į];exact kK
  rintro ya σ Hj hy⟨sc,_,tN⟩;rw[Ĩ]at tN;refine⟨⟨_,É.of (sc _ _ (k2 _ _ eo)),by rw[rh.1];exact Ø _⟩,λla yk=>?_⟩;have sa:=sc.updR (o:=.lst ya) yk;have OW:=aj (H:=Hj) (a:=la) (o:=.lst ya);have tN:=tN.same (À.upd (o:=.lst ya) yk);generalize upd Hj la (.lst ya)=H3 at sa OW tN⊢;have k3:=k2.trans sa;have sH:=s2.trans sa;dsimp only;have dA:=rD (sort:=i) (year:=m) hu h5 okp;have tS:=pN (ss:=ss) (sort:=i) (year:=m) lp;have FY:=Et (sort:=i) OS;have YL:=BR ps ow i;refine aH ?_;refine⟨_,rfl,_,rfl,_,rfl,c.getD i 0+dn X i,lc,Ti,dB ps ss i m,la,ya,aY ps ow i,rfl,sa _ _ D0,LS.same sa,λr hr=>⟨(dA r hr).1.l,(dA r hr).1.s0,(dA r hr).1.s1⟩,tS,Z1,OW,tN,λr hr=>⟨(FY r hr).1.l,Int.le_trans Z3 (FY r hr).1.s0⟩,Z1,λt g kk mM rS GG K' H4 s4 gv et ng nk OX y9 Tj D8=>⟨t,_,rfl,Ê.of et,rfl,_,_,rfl,_,_,rfl,rfl,?_⟩⟩;have k4:=k3.trans s4;have Tq:=sH.trans s4;obtain⟨F0,ed⟩:=yi.step (λr hr=>(ē.mp hr).elim (dA r) (FY r)) (by show _<=cap ps ow i+(80+_);rw[ì];lia) (by rw[hX i hi];lia) gv (c.getD i 0+dn X i-aP GG);have l3:=ĺ (Eu ps ow (show i+1<=3 from hi)) (uf ps ow);have gl:=ĺ F0.gl l3;have kl:=ĺ F0.kl l3;have g4:∀r∈GG,r.length=4:=λr hr=>(F0.g r (ň _ hr)).l;rw[ì]at gl kl;rw[<-ed]at FX;have yl:=yi.ll;clear gv yi FY dA;dsimp only;refine aH (aU ?_);refine⟨_,rfl,_,rfl,g,mM,GG,rfl,OX,y9,g4,Z1,λH5 s5=>⟨_,_,rfl,rfl,?_⟩⟩;refine aG ?_;dsimp only;have k5:=k4.trans s5;have D9:=Tq.trans s5;have YM:g≠lg:=(az (sH _ _ eg) ng).symm;have Tt:kk≠lg:=(az (sH _ _ eg) nk).symm;have OY:=D9 _ _ eg;have Tu:=D9 _ _ ek;have el5:=D9 _ _ el;refine aH ?_;refine⟨_,rfl,_,rfl,lg,g,xg,mM,rfl,rfl,OY,s5 _ _ OX,by rw[elg.1,y9.1,sizeLine_eq];lia,?_⟩;dsimp only;have LV:∀b z,H5 b=some (.tup z)->upd H5 lg (.lst (xg++mM)) b=some (.tup z):=λb z e=>by rw[aq λw=>by rw[w,OY]at e;cases e];exact e
  have k6:À H (upd H5 lg (.lst (xg++mM))):=λb o e=>by rw[aq (az e Tf)];exact k5 _ _ e
  have OZ:=aj (H:=H5) (a:=lg) (o:=.lst (xg++mM));have Ee:=((elg.same D9).app (y9.same s5)).keep LV;have LW:upd H5 lg (.lst (xg++mM)) lk=some (.lst xk):=by rw[aq OT.symm];exact Tu
  have EA:upd H5 lg (.lst (xg++mM)) kk=some (.lst rS):=by rw[aq Tt];exact s5 _ _ Tj
  have O0:upd H5 lg (.lst (xg++mM)) ll=some (.lst (L.map V.int)):=by rw[aq OV.symm];exact el5
  have EB:=(iP.same D9).keep LV;have uj:=(D8.same s5).keep LV;generalize upd H5 lg (.lst (xg++mM))=H6 at k6 OZ Ee LW EA O0 EB uj⊢;refine aH ?_;refine⟨_,rfl,_,rfl,lk,kk,xk,rS,rfl,rfl,LW,EA,by rw[iP.1,D8.1,sizeLine_eq];lia,?_⟩;dsimp only;have Pa:∀b z,H6 b=some (.tup z)->upd H6 lk (.lst (xk++rS)) b=some (.tup z):=λb z e=>by rw[aq λw=>by rw[w,LW]at e;cases e];exact e
  have k7:À H (upd H6 lk (.lst (xk++rS))):=λb o e=>by rw[aq (az e lI)];exact k6 _ _ e
  have Pb:upd H6 lk (.lst (xk++rS)) lg=some (.lst (xg++mM)):=by rw[aq OT];exact OZ
  have EC:=Ee.keep Pa;have Pc:=aj (H:=H6) (a:=lk) (o:=.lst (xk++rS));have ED:=(EB.app uj).keep Pa;have F1:upd H6 lk (.lst (xk++rS)) ll=some (.lst (L.map V.int)):=by rw[aq OU.symm];exact O0
  generalize upd H6 lk (.lst (xk++rS))=H7 at k7 Pb EC Pc ED F1⊢;refine⟨_,rfl,.inl ⟨rfl,_,É.of F1⟩,_,rfl,ll,_,_,rfl,rfl,F1,by rw[Ð,yl,sizeLine_eq];lia,?_⟩;have Pd:∀{o:HO}b z,H7 b=some (.tup z)->upd H7 ll o b=some (.tup z):=λb z e=>by rw[aq λw=>by rw[w,F1]at e;cases e];exact e
  refine FX _ _ ⟨_,_,_,_,_,_,xg++mM,xk++rS,_,_,_,rfl,λb o e=>?_,?_,EC.keep Pd,?_,ED.keep Pd,?_,F0⟩;.rw[aq (az e Tg)];exact k7 _ _ e
  .rw[aq OV];exact Pb
  .rw[aq OU];exact Pc
  .rw[aj,ë];rfl
 .rintro σ Hc⟨lP,lh,kH,fx,fy,fA,xg,xk,G,KK,L,rfl,k,eg,elg,ek,iP,el,yi⟩;obtain⟨ag,Tw,Pe,Pf⟩:=nJ elg;obtain⟨ak,Tx,JY,Pg⟩:=nJ iP;subst Tw Tx;dsimp only;have nn:∀{rs:PK}{ads:þ},rs=ads.map (j7 Hc)->(∀r∈rs,ŀ ps r)->∀a∈ads,j7 Hc a≠[]:=λ{rs ads}h h4 a ha z=>by have:=(h4 (j7 Hc a) (by rw[h];exact List.mem_map_of_mem ha)).l;rw[z]at this;cases this
  refine⟨_,rfl,lg,ag,j7 Hc,rfl,É.of eg,λa ha=>⟨Ê.of (Pf a ha),nn Pe yi.g a ha⟩,λg l1 hg F2 Ph=>?_⟩;have sg:=À.upd (o:=.lst (l1.map V.ref)) hg;refine⟨_,rfl,lk,ak,j7 Hc,rfl,É.of (sg _ _ ek),λa ha=>⟨Ê.of (sg _ _ (Pg a ha)),nn JY yi.k a ha⟩,λkk l2 hk TB Pj=>?_⟩;have sk:=sg.updR (o:=.lst (l2.map V.ref)) hk;refine⟨_,rfl,ll,_,rfl,.inl ⟨É.of (sk _ _ el),λtl F3=>?_⟩⟩;have sl:=sk.updR (o:=.tup (L.map V.int)) F3;refine⟨zL,λt ht=>?_⟩;have st:=sl.updR (o:=.tup [.ref g,.ref kk,.ref tl]) ht;have u1:=À.upd (o:=.lst (l2.map V.ref)) hk;have u2:=À.upd (o:=.tup (L.map V.int)) F3;have u3:=À.upd (o:=.tup [.ref g,.ref kk,.ref tl]) ht;refine q t g kk tl _ _ _ _ _ _ (k.trans st) aj (k.free hg) (k.free (sg.free hk)) ⟨F2,TB⟩ (u3 _ _ (u2 _ _ (u1 _ _ aj))) (xP λa ha=>st _ _ (Pf a (Ph.mem_iff.mp ha))) (u3 _ _ (u2 _ _ aj)) (xP λa ha=>st _ _ (Pg a (Pj.mem_iff.mp ha))) (yi.perm ?_ ?_) (u3 _ _ aj);.rw[Pe];exact Ph.map _
  .rw[JY];exact Pj.map _
def Ç(r:PP):PP:=[fl r 0,fl r 1,fl r 2]
def dh(p:PP×Int):PP:=[fl p.1 0,fl p.1 1,fl p.1 2,fl p.1 3-p.2]
def gH(p:PP×Int):PP:=[fl p.1 0,fl p.1 1,fl p.1 2,p.2]
theorem xQ:∀{k:Nat}{r:PP},r∈iD ps ss sort year k->∃(j h:Nat)(x:Int),j<k/\r=[year,j,h,x]
 |0,r,hr=>nomatch hr|k+1,r,hr=>by
  rcases ē.mp (show r∈iD ps ss sort year k++iI ps ss sort year k from hr)with z|z;.obtain⟨j,h,x,a,b⟩:=xQ z;exact⟨j,h,x,Z1,b⟩
  .unfold iI at z;split at z;.obtain⟨q,hq,rfl⟩:=è.mp z;unfold dZ at hq;obtain⟨h,hh,rfl⟩:=è.mp hq;exact⟨k,h,_,Z1,rfl⟩
   .cases z
theorem J8:∀k,((iD ps ss sort year k).map Ç).Nodup
 |0=>List.nodup_nil|k+1=>by
  show((iD ps ss sort year k++iI ps ss sort year k).map Ç).Nodup;rw[ë,Zbc];refine⟨J8 k,?_,λa ha b hb e=>?_⟩
  .unfold iI;split;.unfold dZ;rw[ħ,ħ];refine List.Pairwise.map _ (R:=λa b=>a≠b) (λa b h e=>h ?_) (List.nodup_range.filter _);have e:[year,(k:Int),(a:Int)]=[year,(k:Int),(b:Int)]:=e;injection e with _ e;injection e with _ e;injection e with e;lia
   .exact List.nodup_nil
  .subst e;obtain⟨r,hr,e1⟩:=è.mp ha;obtain⟨j,h,x,a1,rfl⟩:=xQ hr;obtain⟨r',hJ,e2⟩:=è.mp hb;unfold iI at hJ;split at hJ;.obtain⟨q,hq,rfl⟩:=è.mp hJ;rw[<-e1]at e2;have e2:[year,(k:Int),_]=[year,(j:Int),(h:Int)]:=e2;injection e2 with _ e2;injection e2 with e2;lia
   .cases hJ
structure ClOk(ps:PK)(y:Int)(n:Nat)(cl:PK):Prop where
 ok:∀r∈cl,ŀ ps r/\aZ ps r=n
 yr:∀r∈cl,fl r 0=y
 nd:(cl.map Ç).Nodup
 len:cl.length<=80
theorem Mw(hu:un ps ss=none)(h5:∀s∈ss,s.length=5)(okp:∀r∈ps,č r)(hl:ps.length<=10):ClOk ps y n (dB ps ss n y):=⟨rD hu h5 okp,λr hr=>by obtain⟨j,h,x,_,rfl⟩:=xQ hr;rfl,J8 _,pN hl⟩
structure Stg(ps:PK)(X o:Nat->Int)(y:Int)(n:Nat)(M G:PK):Prop where
 kd:(M.map Ç).Nodup
 ok:∀r∈M,r.length=4/\0<=fl r 1/\fl r 1<ps.length/\0<=fl r 3/\fl r 3<=99
 yr:∀r∈M,fl r 0<y\/(fl r 0=y/\aZ ps r<n)sm:∀s:Nat,s<3->aP (aY ps M s)=if s<n then max 0 (X s-dn X s)else o s
 g4:∀r∈G,r.length=4
 len:M.length<=240*y.toNat+80*n
 glen:G.length<=n*(240*y.toNat+400)
def é(ps M:PK)(n:Nat):PK:=M.filter λr=>!decide (aZ ps r=n)
theorem fV{S:PK}{m:PP}{f:PP×Int->PP}(hk:∀p,Ç (f p)=Ç p.1)(hl:m.length=S.length):((S.zip m).map f).map Ç=S.map Ç:=by
 rw[ħ];have:(Ç∘f)=Ç∘Prod.fst:=by funext p;exact hk p
 rw[this,<-ħ,List.map_fst_zip Z1]
theorem zu{m:PP}(hl:m.length=S.length):aP ((S.zip m).map dh)=aP S-m.sum:=by rw[<-(uc hl).2];unfold aP ü;rw[ħ];rfl
theorem Stg.step(g:Stg ps X o y n M G)(h3:n<3){w:Int}{sh mg:PP}(dA:ClOk ps y n cl)(pS:S.Perm (aY ps M n))(hX:X n=aP cl+o n-(w-dn X n))(hw:0<=w)(es:Ń w cl sh)(em:Ń (w-sh.sum) S mg):Stg ps X o y (n+1) (é ps M n++(S.zip mg).map dh++(cl.zip sh).map dh) (G++(cl.zip sh).map gH++(S.zip mg).map gH)/\w-sh.sum-mg.sum=dn X (n+1):=by
 have hE:∀r∈S,r∈M/\aZ ps r=n:=λr hr=>by obtain⟨a,b⟩:=Ũ.mp (pS.mem_iff.mp hr);exact⟨a,ŋ b⟩
 have AS:=es.len;have Pk:=em.len;have YN:=dA.len;have hS:aP S=o n:=by have:=g.sm n h3;rw[Æ (Θ n)]at this;rw[<-this];exact xO (pS.map _)
 have s1:=es.sum;have s2:=em.sum;have c0:=gG λr hr=>ŀ.nn (λr hr=>(dA.ok r hr).1) r hr;have o0:=gG λr hr=>(g.ok r (hE r hr).1).2.2.2.1;have pm:(é ps M n++S).Perm M:=(List.Perm.append_left _ pS).trans (List.perm_append_comm.trans (List.filter_append_perm (λr=>decide (aZ ps r=n)) M));have e1:=pm.length_eq;rw[ì]at e1;refine⟨⟨?_,?_,?_,λs hs=>?_,?_,?_,?_⟩,?_⟩
 .have p1:(é ps M n++(S.zip mg).map dh).map Ç|>.Perm (M.map Ç):=by rw[ë,fV (f:=dh) (λ_=>rfl) Pk,<-ë];exact pm.map _
  rw[ë,Zbc,fV (f:=dh) (λ_=>rfl) AS];refine⟨p1.nodup_iff.mpr g.kd,dA.nd,λa ha b hb e=>?_⟩;subst e;obtain⟨r,hr,e1⟩:=è.mp (p1.mem_iff.mp ha);obtain⟨q,hq,e2⟩:=è.mp hb;have a1:=dA.yr q hq;have a2:=(dA.ok q hq).2;rw[<-e1]at e2;unfold Ç at e2;injection e2 with e3 e2;injection e2 with e4 e2;have:aZ ps r=aZ ps q:=by unfold aZ;rw[e4]
  rcases g.yr r hr with z|z<;>lia
 .intro r hr;rcases ē.mp hr with hr|hr
  .rcases ē.mp hr with hr|hr;.exact g.ok r (Ũ.mp hr).1
   .obtain⟨p,hp,rfl⟩:=è.mp hr;obtain⟨k1,k2,k3,k4,k5⟩:=g.ok _ (hE _ (ϟ (show(p.1,p.2)∈_ from hp)).1).1;exact⟨rfl,k2,k3,Int.sub_nonneg_of_le (em.bd p hp).2,Int.le_trans (Int.sub_le_self _ (em.bd p hp).1) k5⟩
  .obtain⟨p,hp,rfl⟩:=è.mp hr;have k:=(dA.ok _ (ϟ (show(p.1,p.2)∈_ from hp)).1).1;exact⟨rfl,k.n0,k.n1,Int.sub_nonneg_of_le (es.bd p hp).2,Int.le_trans (Int.sub_le_self _ (es.bd p hp).1) k.s1⟩
 .intro r hr;rcases ē.mp hr with hr|hr
  .rcases ē.mp hr with hr|hr
   .rcases g.yr r (Ũ.mp hr).1 with z|z;.exact .inl z
    .exact .inr ⟨z.1,Z1⟩
   .obtain⟨p,hp,rfl⟩:=è.mp hr;rcases g.yr p.1 (hE _ (ϟ (show(p.1,p.2)∈_ from hp)).1).1 with z|z;.exact .inl z
    .exact .inr ⟨z.1,by show aZ ps p.1<_;lia⟩
  .obtain⟨p,hp,rfl⟩:=è.mp hr;have h1:=(ϟ (show(p.1,p.2)∈_ from hp)).1;have k2:=(dA.ok _ h1).2;exact .inr ⟨(dA.yr p.1 h1:),by show aZ ps p.1<_;lia⟩
 .have a:aP (aY ps (é ps M n) s)=if s=n then 0 else aP (aY ps M s):=by
   unfold aY é;rw[List.filter_filter];split;.rename_i z;rw[List.filter_eq_nil_iff.mpr λr _ e=>by rw[ġ,Bool.not_eq_true',ă,decide_eq_false_iff_not,z]at e;exact e.2 e.1];rfl
   .rename_i z;congr 1;refine List.filter_congr λr _=>?_;by_cases e:aZ ps r=s;.rw[ñ e,Ŋ Z1];rfl
    .rw[Ŋ e];rfl
  have b:aY ps ((S.zip mg).map dh) s=if(s:Int)=n then(S.zip mg).map dh else[]:=ig (λr hr=>by obtain⟨p,hp,rfl⟩:=è.mp hr;exact(hE p.1 (ϟ (show(p.1,p.2)∈_ from hp)).1).2) s;have c:aY ps ((cl.zip sh).map dh) s=if(s:Int)=n then(cl.zip sh).map dh else[]:=ig (λr hr=>by obtain⟨p,hp,rfl⟩:=è.mp hr;exact(dA.ok p.1 (ϟ (show(p.1,p.2)∈_ from hp)).1).2) s;rw[ie,ie,gr,gr,a,b,c];by_cases z:s=n;.rw[È z,È Z1,È Z1,È Z1,zu Pk,zu AS,z];lia
  .rw[Æ z,Æ Z1,Æ Z1,g.sm s hs];show _+0+0=_;rw[Int.add_zero,Int.add_zero];by_cases u:s<n;.rw[È u,È Z1]
   .rw[Æ u,Æ Z1]
 .intro r hr;rcases ē.mp hr with hr|hr
  .rcases ē.mp hr with hr|hr;.exact g.g4 r hr
   .obtain⟨p,hp,rfl⟩:=è.mp hr;rfl
  .obtain⟨p,hp,rfl⟩:=è.mp hr;rfl
 .rw[ì,ì,Ð,Ð,ŭ,ŭ];have:=g.len;lia
 .rw[ì,ì,Ð,Ð,ŭ,ŭ];have:=g.len;have:=g.glen;rw[Nat.succ_mul];lia
 .show _=max 0 (dn X n-X n);lia
def ó(r:PP):List Key×V:=((Ç r).map Sum.inl,.int (fl r 3))
theorem nM:∀{a b:PP},(a.map (Sum.inl:Int->Key))=b.map Sum.inl->a=b|[],[],_=>rfl|[],_::_,h=>by simp at h;|_::_,[],h=>by simp at h;|x::a,y::b,h=>by rw[ě,ě]at h;injection h with h1 h2;injection h1 with h1;rw[h1,nM h2]
theorem ug{M:PK}(h:(M.map Ç).Nodup):((M.map ó).map (·.1)).Nodup:=by rw[ħ];have:((λx:List Key×V=>x.1)∘ó)=(λk:PP=>(k.map Sum.inl:List Key))∘Ç:=rfl;rw[this,<-ħ];exact List.Pairwise.map _ (λa b h e=>h (nM e)) h
theorem pO[DecidableEq κ]{k:κ}{v:V}:∀{kvs:List (κ×V)},(kvs.map (·.1)).Nodup->(k,v)∈kvs->cD kvs k=some v
 |[],_,h=>by cases h;|p::kvs,nd,h=>by
  rw[ě,Zba]at nd;rcases Ġ.mp h with z|z;.rw[<-z];exact cV rfl
  .rw[cW λe=>nd.1 (e▸è.mpr ⟨_,z,rfl⟩)];exact pO nd.2 z
def ĭ(H:Hp)(d:Addr)(M:PK):Prop:=∃Mo:PK,H d=some (.dT (Mo.map ó))/\Mo.Perm M
theorem ĭ.get{r:PP}(h:ĭ H d M)(nd:(M.map Ç).Nodup)(hr:r∈M)(eb:H b=some (.tup ((Ç r).map V.int))):Ć H d (.ref b) (some (.int (fl r 3))):=by obtain⟨Mo,e,pm⟩:=h;have:=pO (ug ((pm.map _).nodup_iff.mpr nd)) (è.mpr ⟨r,pm.mem_iff.mpr hr,rfl⟩);rw[<-this];exact Ć.t e (by rw[eb,ħ];rfl)
def Ey(r:PP)(x:Int)(q:PP):PP:=if Ç q=Ç r then[fl r 0,fl r 1,fl r 2,x]else q
theorem BV{Mo A B:PK}{r:PP}(pm:Mo.Perm (A++r::B))(nd:((A++r::B).map Ç).Nodup):∃AU:PK,ð (Mo.map ó) ((Ç r).map Sum.inl) (.int x)=AU.map ó/\AU.Perm (A++[fl r 0,fl r 1,fl r 2,x]::B):=by
 refine⟨Mo.map (Ey r x),?_,?_⟩
 .unfold ð;rw[È (List.any_eq_true.mpr ⟨ó r,è.mpr ⟨r,pm.mem_iff.mpr (ē.mpr (.inr (.head _))),rfl⟩,ñ rfl⟩),ħ,ħ];refine Zbf λq _=>?_;show(if(ó q).1=_ then((ó q).1,V.int x)else ó q)=ó (Ey r x q);unfold Ey;by_cases e:Ç q=Ç r;.rw[È e,È (show(ó q).1=(Ç r).map Sum.inl by rw[<-e];rfl)];show((Ç q).map Sum.inl,V.int x)=((Ç r).map Sum.inl,V.int x);rw[e]
  .rw[Æ e];exact Æ λz=>e (nM z)
 .refine(pm.map _).trans ?_;rw[ë,ě,Zbc,Zba]at nd;obtain⟨_,⟨n1,_⟩,n2⟩:=nd;have keep:∀l:PK,(∀q∈l,Ç q≠Ç r)->l.map (Ey r x)=l:=λl hl=>by refine(Zbf λq hq=>?_).trans (List.map_id l);exact Æ (hl q hq)
  rw[ë,ě,keep A λq hq e=>n2 _ (è.mpr ⟨q,hq,rfl⟩) _ (.head _) e,keep B λq hq e=>n1 (by rw[<-e];exact è.mpr ⟨q,hq,rfl⟩),show Ey r x r=[fl r 0,fl r 1,fl r 2,x]from È rfl]
def vU(acc h:Nat):Nat:=((((acc+h*14029467366897019727)%2^64)*2^31)%2^64+((acc+h*14029467366897019727)%2^64)/2^33)*11400714785074694791%2^64
def K6(acc:Nat)(h:Int):Nat:=vU acc (h%((2^64:Nat):Int)).toNat
def mZ(acc:Nat):Int:=if acc==2^64-1 then 1546275796 else if acc<2^63 then acc else(acc:Int)-(2^64:Nat)
def hLen(n:Nat):Nat:=n^^^(2870177450012600261^^^3527539)
theorem Mx(hs:PP):Builtin.Tuple.tupleHashOf hs=mZ ((hs.foldl K6 2870177450012600261+hLen hs.length)%2^64):=rfl
theorem pP{acc k:Nat}(h:k<100):K6 acc (k:Int)=vU acc k:=by unfold K6;rw[Int.emod_eq_of_lt Z1 Z1,Ľ]
def xR(y n h:Nat):Nat:=(vU (vU (vU 2870177450012600261 y) n) h+hLen 3)%2^64
theorem Ez{y n h:Nat}(hy:y<100)(hn:n<100)(hh:h<100):Builtin.Tuple.tupleHashOf [(y:Int),(n:Int),(h:Int)]=mZ (xR y n h):=by rw[Mx,List.foldl_cons,List.foldl_cons,List.foldl_cons,List.foldl_nil,pP hy,pP hn,pP hh];rfl
theorem EY:∀k:Fin 100,hashInt ((k.1:Nat):Int)=(k.1:Int):=by decide+kernel
def hOf(ks:PP):Int:=reduceHash (Builtin.Tuple.tupleHashOf ks)
theorem xT(n:a≠2^64-1):mZ a=if a<2^63 then(a:Int)else(a:Int)-(2^64:Nat):=by unfold mZ;rw[Æ (by simpa using n)]
theorem zx(h:a<2^64)(n:a≠2^64-1):reduceHash (mZ a)=mZ a:=by
 have b:-(2^63:Int)<=mZ a/\mZ a<2^63/\mZ a≠-1:=by rw[xT n];split<;>lia
 generalize mZ a=x at b;unfold reduceHash;rw[È (by rw[ġ,ă,ă];exact⟨b.1,b.2.1⟩),Æ (by simpa using b.2.2)]
theorem HB(ha:a<2^64)(na:a≠2^64-1)(hb:b<2^64)(nb:b≠2^64-1)(e:mZ a=mZ b):a=b:=by rw[xT na,xT nb]at e;split at e<;>split at e<;>lia
def apart(acc:Nat):List Nat->Bool|[]=>true|a::l=>match acc.testBit a with|true=>false|false=>apart (acc|||2^a) l
theorem vV:∀{l:List Nat}{acc:Nat},apart acc l=true->l.Nodup/\∀a∈l,acc.testBit a=false
 |[],_,_=>⟨List.nodup_nil,λa h=>by cases h⟩|a::l,acc,h=>by
  unfold apart at h;split at h;.cases h
  .rename_i e;obtain⟨h1,h2⟩:=vV h;refine⟨Zba.mpr ⟨λhm=>?_,h1⟩,λb hb=>?_⟩;.have:=h2 a hm;rw[Nat.testBit_or,Nat.testBit_two_pow_self,Bool.or_true]at this;cases this
   .rcases Ġ.mp hb with z|z;.rw[z];exact e
    .have:=h2 b z;rw[Nat.testBit_or,Bool.or_eq_false_iff]at this;exact this.1
def K7(y:Nat):List Nat:=(List.range 80).map λj=>(xR y (j/8) (j%8))%870
def tops(y:Nat):Bool:=(List.range 80).all λj=>!(xR y (j/8) (j%8)==2^64-1)
theorem K9:∀y,y<100->apart 0 (K7 y)=true:=by decide+kernel
theorem Ka:∀y,y<100->tops y=true:=by decide+kernel
theorem uh(y n h:Nat):xR y n h<2^64:=Nat.mod_lt _ Z3
theorem HF{y n h n' h':Nat}(hy:y<100)(hn:n<10)(hh:h<8)(AE:n'<10)(Pl:h'<8)(e:hOf [(y:Int),(n:Int),(h:Int)]=hOf [(y:Int),(n':Int),(h':Int)]):n=n'/\h=h':=by
 have top:=Ő.mp (Ka y hy);have nt:∀n h,n<10->h<8->xR y n h≠2^64-1:=λn h hn hh=>by have:=top (8*n+h) (ϕ.mpr Z1);rw[show(8*n+h)/8=n by lia,show(8*n+h)%8=h by lia]at this;simpa using this
 unfold hOf at e;rw[Ez Z1 Z1 Z1,Ez Z1 Z1 Z1,zx (uh ..) (nt n h hn hh),zx (uh ..) (nt n' h' AE Pl)]at e;have e:=HB (uh ..) (nt n h hn hh) (uh ..) (nt n' h' AE Pl) e;have nd:(K7 y).Nodup:=(vV (K9 y hy)).1;unfold K7 at nd;have inj:∀i j,i<80->j<80->xR y (i/8) (i%8)=xR y (j/8) (j%8)->i=j:=λi j hi hj e=>by
  have nd:=List.pairwise_iff_getElem.mp nd;rcases Nat.lt_trichotomy i j with z|z|z;.have:=nd i j (by simpa using hi) (by simpa using hj) z;simp only[List.getElem_map,List.getElem_range]at this;exact absurd (by rw[e]) this
  .exact z
  .have:=nd j i (by simpa using hj) (by simpa using hi) z;simp only[List.getElem_map,List.getElem_range]at this;exact absurd (by rw[e]) this
 have:=inj (8*n+h) (8*n'+h') Z1 Z1 (by rw[show(8*n+h)/8=n by lia,show(8*n+h)%8=h by lia,show(8*n'+h')/8=n' by lia,show(8*n'+h')%8=h' by lia];exact e);lia
theorem zF(y0:0<=y)(y1:y<100)(h:fl r 0=y/\0<=fl r 1/\fl r 1<10/\0<=fl r 2/\fl r 2<8):reduceHash (Builtin.Tuple.tupleHashOf ((ó r).1.map (rP w)))=hOf [((y.toNat:Nat):Int),(((fl r 1).toNat:Nat):Int),(((fl r 2).toNat:Nat):Int)]:=by
 obtain⟨a,b,c,d,f⟩:=h;have el:(ó r).1.map (rP w)=[hashInt (fl r 0),hashInt (fl r 1),hashInt (fl r 2)]:=rfl;have h0:hashInt (fl r 0)=((y.toNat:Nat):Int):=by have:=EY ⟨y.toNat,Z1⟩;rw[show((y.toNat:Nat):Int)=fl r 0 by lia]at this⊢;exact this
 have h1:hashInt (fl r 1)=(((fl r 1).toNat:Nat):Int):=by have:=EY ⟨(fl r 1).toNat,Z1⟩;rw[show(((fl r 1).toNat:Nat):Int)=fl r 1 by lia]at this⊢;exact this
 have h2:hashInt (fl r 2)=(((fl r 2).toNat:Nat):Int):=by have:=EY ⟨(fl r 2).toNat,Z1⟩;rw[show(((fl r 2).toNat:Nat):Int)=fl r 2 by lia]at this⊢;exact this
 unfold hOf;rw[el,h0,h1,h2]
theorem Kc{f:List Key×V->Int}{L:PK}(nd:(L.map Ç).Nodup)(h:∀r∈L,∀q∈L,f (ó r)=f (ó q)->Ç r=Ç q):((L.map ó).map f).Nodup:=by rw[ħ];unfold List.Nodup at nd⊢;rw[List.pairwise_map]at nd⊢;exact nd.imp_of_mem λ{r q}hr hq n e=>n (h r hr q hq e)
theorem Kd{L:PK}(y0:0<=y)(y1:y<100)(h:∀r∈L,fl r 0=y/\0<=fl r 1/\fl r 1<10/\0<=fl r 2/\fl r 2<8)(nd:(L.map Ç).Nodup)(w:World):((L.map ó).map λp=>reduceHash (Builtin.Tuple.tupleHashOf (p.1.map (rP w)))).Nodup:=by refine Kc nd λr hr q hq e=>?_;rw[zF y0 y1 (h r hr),zF y0 y1 (h q hq)]at e;obtain⟨a,b,c,d,f⟩:=h r hr;obtain⟨a',b',c',d',f'⟩:=h q hq;obtain⟨e1,e2⟩:=HF Z1 Z1 Z1 Z1 Z1 e;unfold Ç;rw[a,a',show fl r 1=fl q 1 by lia,show fl r 2=fl q 2 by lia]
structure Lk(cs ps ss:PK)(y:Nat)(M:PK):Prop where
 kd:(M.map Ç).Nodup
 ok:∀r∈M,r.length=4/\0<=fl r 1/\fl r 1<ps.length/\0<=fl r 3/\fl r 3<=99
 yr:∀r∈M,fl r 0<y
 sm:∀s:Nat,s<3->aP (aY ps M s)=oS cs ps ss y s
 len:M.length<=240*y
theorem Lk.start(g:Lk cs ps ss y M)(X:Nat->Int):Stg ps X (oS cs ps ss y) y 0 M []:=⟨g.kd,g.ok,λr hr=>.inl (g.yr r hr),λs hs=>g.sm s hs,λr hr=>(nomatch hr),by have:=g.len;lia,Ě _⟩
theorem Stg.next(g:Stg ps (xD (cs.getD y []) ps ss (oS cs ps ss y) y) (oS cs ps ss y) y 3 M G):Lk cs ps ss (y+1) M:=by
 refine⟨g.kd,g.ok,λr hr=>?_,λs hs=>?_,by have:=g.len;lia⟩;.rcases g.yr r hr with z|z<;>lia
 .rw[g.sm s hs,È hs];rfl
end K52
namespace K52P
open PySem L2
theorem xU{ws:PP}{Fin:List V->Hp->Prop}(f:Int->Int)(ep:H0 p=some (.lst (ws.map V.int)))(hl:ws.length<sizeLine)(kC:∀z Q,z∈ws->Q (.int (f z)) H0->te (dP.set 0 (some (.int z))) H0 Q)(fin:Fin ((ws.map f).map V.int) H0):jN (Itl K p) (bQ 0) uF te Fin dP H0:=by
 refine cY ws.length (λi ys σ H=>H=H0/\(∀o,σ.set 0 o=dP.set 0 o)/\ys=((ws.take i).map f).map V.int) ⟨rfl,λ_=>rfl,rfl⟩ hl ?_ ?_
 .rintro i ys σ H hi hy⟨rfl,gI,rfl⟩;have hz:(ws.map V.int)[i]?=some (.int ws[i]):=by rw[ý,Ö hi];rfl
  refine⟨⟨_,_,É.of ep,hz⟩,λv H' y' R hR=>?_⟩;obtain⟨rfl,y'⟩:=y';have hv:=y' _ (É.of ep);rw[hz]at hv;cases hv;show te (σ.set 0 (some (.int ws[i]))) _ _;rw[gI];refine kC ws[i] _ (Č hi) (hR _ _ _ ⟨rfl,λo=>by rw[List.set_set],?_⟩);rw[Ĝ,Ö hi,ë,ë];rfl
 .rintro ys σ H hy⟨rfl,gI,rfl⟩;refine⟨⟨_,É.of ep,by rw[Ð];exact Ø _⟩,?_⟩;rw[Ĩ];exact fin
inductive ř(vs:List V)(H:Hp)(Q:VK):Prop|mk:∀n p ws,(vs=[.int n,.ref p])->(H p=some (.lst (ws.map V.int)))->(OkW ws)->(0<=n)->(n<=ws.sum)->(∀H' q ps,PtOk n ws ps->À H H'->H q=none->H' q=some (.lst (ps.map V.int))->Q (.ref q) H')->ř  vs H Q
def spLParts:Sp:=λvs H Q _=>ř  vs H Q
section
theorem O7:([Τ,ϊ,ABa]:ç).Nodup:=by decide+kernel
theorem My:(["_law_at",Τ,ϊ,ABa]:ç).Nodup:=by decide+kernel
theorem ϑ:Á [ϊ,AAw,ABa,ϋ,"_law_order","_law_rest","_law_at"] [ϊ,AAw] (aD (top 83)):=ù
theorem ok_lparted(F:Û K "_law_parted" "_law_parted" (top 83) f fd)(Ts:mg "sum"=none)(Te:mg "enumerate"=none)(To:mg "sorted"=none):Í P w K mg base Ý 1 f fd [ϊ,AAw] spLParts:=by
 refine F.oq ϑ λai A outer s H vs Q E hr h=>?_;obtain⟨n,p,ws,rfl,ep,ok,n0,n1,q⟩:=h;refine⟨_,aC (lB (i:=2) ϑ.nd rfl (Or.inr rfl) (aM (cX rfl) rfl Ts à (aA (pv 1) ao))) (aC (gM (i:=3) [Τ,ϊ,ABa] [none,some 0,some 2] rfl ϑ.nd rfl (Or.inl rfl) (di (pv 1)) (λC fp Z7 s₂ Ï=>⟨Î 0 O7,bR,aQ je (aQ fY (pv 1) (pv 0)) (pv 2)⟩) (λC=>cI (cI trivial)) ⟨rfl,rfl,rfl,rfl⟩) (aC (ć 4 ϑ.nd (aM iz rfl To Þ (aA (bI (g:=mQ K 2 (cH (bQ 0) (cH (bQ 1) ou))) ["_law_at",Τ,ϊ,ABa] [none,none,some 0,some 2] rfl (ZT.pi_enum false rfl Te (aA (pv 1) ao)) (λC fp Z7 s₂ Ï=>⟨fH rfl rfl (au (Î 0 My) (au (Î 1 My) aW)),bR,bO (aA (aQ du aB (aQ gQ (aQ fY (pv 2) (pv 1)) (pv 3))) (aA (pv 0) ao))⟩) (λC=>cI (cI trivial)) ⟨rfl,rfl,rfl,rfl⟩) ao))) (aC (bZ ĥ rfl (di (iK yz (pv 4) jK (jL (aQ du (pv 0) (aM (cX rfl) rfl Ts à (aA (pv 3) ao)))))) (bC rfl (au (Î 5 ϑ.nd) (au (Î 6 ϑ.nd) aW))) (aF (cO (aQ bL (pX bV (pv 3) (pv 6)) aB) (oA (pv 3) (pv 6) Ā)))) (aF (aR (pv 3)))))),?_⟩;have hp:=ok.pos;have ht:=ok.top;have tS:=El ok;refine aX λc_ av=>?_;refine⟨_,rfl,p,ws,rfl,.inl (É.of ep),?_⟩;refine av _ _ ?_;clear av c_;try dsimp only
 refine aX λc_ av=>?_;refine⟨_,rfl,p,rfl,⟨_,É.of ep⟩,xU (λz=>n*z/ws.sum) ep tS (λz Q hz h=>⟨_,rfl,_,rfl,_,_,rfl,rfl,.inl ⟨Z1,Z1⟩,_,rfl,_,_,rfl,rfl,⟨Z1,Z1⟩,h⟩) ?_⟩;rw[show ws.map (λz=>n*z/ws.sum)=fs n ws from rfl];intro l1 dQ;have s1:=À.upd (o:=.lst ((fs n ws).map V.int)) dQ;have Ĺ:=aj (H:=H) (a:=l1) (o:=.lst ((fs n ws).map V.int));have yA:H l1=none:=dQ;generalize upd H l1 _=H1 at s1 Ĺ⊢;clear dQ;refine av _ _ ?_;clear av c_;try dsimp only
 have LX:=s1 _ _ ep;refine aX λc_ av=>?_;refine⟨_,rfl,p,_,rfl,É.of LX,cY ws.length (λi ys σ Hc=>À H1 Hc/\(∃o1 o2,σ=[o1,o2,some (.int n),some (.int ws.sum)])/\∃ts:þ,ys=ts.map V.ref/\∀j,j<i->∃a v,ts[j]?=some a/\Hc a=some (.tup [.int v,.int (j:Int)])) ⟨À.refl H1,⟨_,_,rfl⟩,[],rfl,λj hj=>absurd hj (Ϩ _)⟩ tS ?_ ?_⟩
 .rintro i ys σ Hc hi hy⟨AV,⟨o1,o2,rfl⟩,ts,rfl,mf⟩;rw[Ð]at hy;have ko:É K Hc p (ws.map V.int):=É.of (AV _ _ LX);have hx:(ws.map V.int)[i]?=some (.int ws[i]):=by rw[ý,Ö hi];rfl
  refine⟨⟨_,_,ko,hx⟩,λv H' y R hR=>?_⟩;obtain⟨T,nT,rfl,y⟩:=y;obtain⟨x',cm,rfl⟩:=y _ ko;rw[hx]at cm;cases cm;have s2:=AV.updR (o:=.tup [.int (i:Int),.int ws[i]]) nT;refine⟨T,_,rfl,Ê.of aj,rfl,_,_,rfl,_,_,rfl,rfl,_,rfl,_,rfl,_,_,rfl,rfl,.inl ⟨Z1,Z1⟩,_,rfl,_,_,rfl,rfl,(by show 0<ws.sum;lia),_,_,rfl,rfl,_,rfl,zL,λt ht=>?_⟩;refine hR _ _ _ ⟨s2.updR ht,⟨_,_,rfl⟩,ts++[t],by rw[ë];rfl,λj hj=>?_⟩;by_cases e:j<i;.obtain⟨a,v,h1,h2⟩:=mf j e;exact⟨a,v,by rw[Ϸ Z1];exact h1,À.upd ht _ _ (À.upd nT _ _ h2)⟩
  .have e:j=i:=Z1;subst e;exact⟨t,_,by rw[ϸ Z1,hy,Nat.sub_self];rfl,aj⟩
 rintro ys σ Hc hy⟨AV,_,ts,rfl,mf⟩;rw[Ð]at hy;refine⟨⟨_,É.of (AV _ _ LX),by rw[Ð];exact Ø _⟩,λD hD=>?_⟩;have s2:=AV.updR (o:=.lst (ts.map V.ref)) hD;have hG:∀j,j<ws.length->∃a v,ts[j]?=some a/\upd Hc D (.lst (ts.map V.ref)) a=some (.tup [.int v,.int (j:Int)]):=λj hj=>by obtain⟨a,v,h1,h2⟩:=mf j hj;exact⟨a,v,h1,À.upd hD _ _ h2⟩
 have eD:=aj (H:=Hc) (a:=D) (o:=.lst (ts.map V.ref));generalize upd Hc D (.lst (ts.map V.ref))=H2 at s2 hG eD⊢;clear mf hD AV;have LY:∀a∈ts,∃v,H2 a=some (.tup [.int v,.int (dG H2 a:Int)])/\Ę H2 a=[v,(dG H2 a:Int)]:=λa ha=>by
  obtain⟨j,hj,e⟩:=Zar ha;obtain⟨b,v,h1,h2⟩:=hG j Z1;rw[Ö hj]at h1;injection h1 with h1;rw[<-h1,e]at h2;have er:Ę H2 a=[v,(j:Int)]:=by unfold Ę;rw[h2]
  have es:dG H2 a=j:=by unfold dG;rw[h2];exact Ľ j
  rw[er,es];exact⟨v,h2,rfl⟩
 refine⟨D,ts,Ę H2,rfl,É.of eD,λa ha=>?_,λq' l' hq pm=>?_⟩;.obtain⟨v,e,er⟩:=LY a ha;rw[er];exact⟨Ê.of e,by simp⟩
 have sn:∀a∈l',∃v,H2 a=some (.tup [.int v,.int (dG H2 a:Int)]):=λa ha=>by obtain⟨v,e,_⟩:=LY a (pm.mem_iff.mp ha);exact⟨v,e⟩
 have ord:(l'.map (dG H2)).Perm (List.range ws.length):=by
  refine(pm.map _).trans (List.Perm.of_eq (List.ext_getElem? λj=>?_));by_cases hj:j<ws.length;.obtain⟨a,v,h1,h2⟩:=hG j hj;rw[ý,h1,Zbg hj];show some (dG H2 a)=some j;unfold dG;rw[h2];exact congrArg some (Ľ j)
  .rw[Zan (by rw[Ð];lia),Zan (by rw[List.length_range];lia)]
 have s3:=s2.updR (o:=.lst (l'.map V.ref)) hq;have SW:l'.length=ws.length:=by rw[pm.length_eq,hy]
 have rg:=aj (H:=H2) (a:=q') (o:=.lst (l'.map V.ref));have tP:∀a∈l',∃v,upd H2 q' (.lst (l'.map V.ref)) a=some (.tup [.int v,.int (dG H2 a:Int)]):=λa ha=>by obtain⟨v,e⟩:=sn a ha;exact⟨v,À.upd hq _ _ e⟩
 generalize dG H2=sd at ord tP;generalize upd H2 q' (.lst (l'.map V.ref))=H3 at s3 rg tP⊢;clear hq sn LY hG eD s2;refine av _ _ ?_;clear av c_;try dsimp only
 have rV:=s3 _ _ Ĺ;have SX:=zg (n:=n) ok;have SY:=J0 (n:=n) ok;refine aH ?_;refine⟨_,rfl,_,rfl,_,rfl,l1,fs n ws,rfl,.inl (É.of rV),_,_,rfl,rfl,_,rfl,q',_,rfl,É.of rg,λl4 fk=>⟨l4,rfl,⟨_,É.of aj⟩,?_⟩⟩;have yT:ju (l'.map V.ref) none (some (lf n ws))=(l'.take (lf n ws).toNat).map V.ref:=by rw[List.map_take,<-gC (i:=(lf n ws).toNat) (by rw[Ð];lia),show((lf n ws).toNat:Int)=lf n ws by lia]
 rw[show n-(fs n ws).sum=lf n ws from rfl]at*;rw[yT];have inr:∀a∈l'.take (lf n ws).toNat,sd a<ws.length:=λa ha=>ϕ.mp (ord.mem_iff.mp (è.mpr ⟨a,Zaq ha,rfl⟩));have fin:=J1 ok n0 n1 (pk:=(l'.take (lf n ws).toNat).map sd) (by rw[List.map_take];exact(ord.nodup_iff.mpr List.nodup_range).sublist (List.take_sublist _ _)) (λi hi=>by obtain⟨a,ha,rfl⟩:=è.mp hi;exact inr a ha) (by rw[Ð,Ė];lia);have LZ:∀a∈l'.take (lf n ws).toNat,∃v,H3 a=some (.tup [.int v,.int (sd a:Int)]):=λa ha=>tP a (Zaq ha);generalize l'.take (lf n ws).toNat=pk at fin inr LZ fk⊢;have s4:=(s1.trans s3).updR (o:=.lst (pk.map V.ref)) fk;have el4:=aj (H:=H3) (a:=l4) (o:=.lst (pk.map V.ref));have mB:=À.upd (o:=.lst (pk.map V.ref)) fk _ _ rV;have n14:l4≠l1:=λz=>by rw[z,rV]at fk;cases fk
 have EE:∀a∈pk,∃v,upd H3 l4 (.lst (pk.map V.ref)) a=some (.tup [.int v,.int (sd a:Int)]):=λa ha=>by obtain⟨v,e⟩:=LZ a ha;exact⟨v,À.upd fk _ _ e⟩
 generalize upd H3 l4 (.lst (pk.map V.ref))=H4 at s4 el4 mB EE⊢;clear fk LZ tP rg rV s3;refine gU (xs:=pk.map V.ref) (λi σ Hc=>∃o5 o6,σ=[some (.int n),some (.ref p),some (.int ws.sum),some (.ref l1),some (.ref q'),o5,o6]/\À H Hc/\Hc l4=some (.lst (pk.map V.ref))/\Hc l1=some (.lst ((dO (fs n ws) ((pk.take i).map sd)).map V.int))/\∀a∈pk,∃v,Hc a=some (.tup [.int v,.int (sd a:Int)])) ?_ ?_ ?_ ?_;.exact⟨none,none,rfl,s4,el4,mB,EE⟩
 .rintro i σ Hc hi⟨o5,o6,rfl,s5,e4,e1,sk⟩;exact É.of e4
 .rintro i v σ Hc hv⟨o5,o6,rfl,s5,e4,e1,sk⟩;rw[ý]at hv;cases hj:pk[i]? with|none=>rw[hj]at hv;cases hv;|some a=>
   rw[hj]at hv;cases hv;have ha:=Κ hj;obtain⟨vr,TC⟩:=sk a ha;have kp:∀o,À H (upd Hc l1 o):=λo b u e=>by rw[aq (az e yA)];exact s5 _ _ e
   have aE:sd a<(dO (fs n ws) ((pk.take i).map sd)).length:=by rw[jl,pL];exact inr a ha
   have hx:((dO (fs n ws) ((pk.take i).map sd)).map V.int)[((sd a:Nat):Int).toNat]?=some (.int ((dO (fs n ws) ((pk.take i).map sd)).getD (sd a) 0)):=by rw[Ľ,ý,Ö aE,Ğ,Ö aE];rfl
   refine⟨a,_,rfl,Ê.of TC,rfl,_,_,rfl,_,_,rfl,rfl,?_⟩;dsimp only;refine⟨_,rfl,_,rfl,l1,_,(sd a:Int),_,rfl,rfl,É.of e1,dU (by rw[<-Ľ (sd a)];exact hx),_,_,rfl,rfl,_,rfl,_,rfl,l1,_,(sd a:Int),sd a,rfl,rfl,e1,zj (by rw[Ð];exact aE),?_⟩;refine⟨_,_,rfl,kp _,by rw[aq n14];exact e4,?_,λb hb=>?_⟩;.rw[aj,Ĝ,hj,show(some a).toList=[a]from rfl,ë,show[a].map sd=[sd a]from rfl,pK,List.map_set]
   .obtain⟨v,e⟩:=sk b hb;exact⟨v,by rw[aq λz=>by rw[z,e1]at e;cases e];exact e⟩
 .rintro σ Hc⟨o5,o6,rfl,s5,e4,e1,sk⟩;rw[Ð,Ĩ]at e1;dsimp only;exact⟨_,rfl,q _ l1 _ fin s5 yA e1⟩
end
end K52P
namespace K52
open PySem L2
abbrev ky(n y:Int):List Key:=[.inl n,.inl y]
def Ņ(kv:List (Key×V)):Prop:=∀p∈kv,∃h,p.1=.inl h/\0<=h/\h<8
theorem Ņ.put(g:Ņ kv)(h0:0<=h)(h8:h<8)(v:V):Ņ (ð kv (.inl h) v):=by
 intro p hp;unfold ð at hp;split at hp
 .obtain⟨q,hq,rfl⟩:=è.mp hp;split;.exact g q hq
  .exact g q hq
 .rcases ē.mp hp with z|z;.exact g p z
  .rw[Ū.mp z];exact⟨h,rfl,h0,h8⟩
structure ğ(fo:Addr)(H0 H:Hp)(dm:Int->Int->Prop)(f:Int->Int->Int->Int)(b:Int->Int->Nat)(kvs:List (List Key×V)):Prop where
 sm:À H0 H
 nf:H0 fo=none
 e:H fo=some (.dT kvs)g:∀n y,dm n y->∃d kv,cD kvs (ky n y)=some (.ref d)/\H d=some (.dK kv)/\(kv.length<=b n y/\Ņ kv)/\∀h,0<=h->h<8->(cD kv (.inl h)).getD (.int 0)=.int (f n y h)no:∀n y,¬dm n y->cD kvs (ky n y)=none
 i:∀n y n' y' d,cD kvs (ky n y)=some (.ref d)->cD kvs (ky n' y')=some (.ref d)->n=n'/\y=y'
 fr:∀n y d,cD kvs (ky n y)=some (.ref d)->H0 d=none/\d≠fo/\∃o,H d=some o
theorem ğ.new(g:ğ fo H0 H dm f b kvs)(hp:H p=none):ğ fo H0 (upd H p o) dm f b kvs:=⟨g.sm.updR hp,g.nf,À.upd hp _ _ g.e,λn y h=>by obtain⟨d,kv,e1,e2,r⟩:=g.g n y h;exact⟨d,kv,e1,À.upd hp _ _ e2,r⟩,g.no,g.i,λn y d h=>by obtain⟨e1,e2,o',e3⟩:=g.fr n y d h;exact⟨e1,e2,o',À.upd hp _ _ e3⟩⟩
theorem ğ.same(g:ğ fo H0 H dm f b kvs)(s:À H H'):ğ fo H0 H' dm f b kvs:=⟨g.sm.trans s,g.nf,s _ _ g.e,λn y h=>by obtain⟨d,kv,e1,e2,r⟩:=g.g n y h;exact⟨d,kv,e1,s _ _ e2,r⟩,g.no,g.i,λn y d h=>by obtain⟨e1,e2,o',e3⟩:=g.fr n y d h;exact⟨e1,e2,o',s _ _ e3⟩⟩
theorem xV(h:ky n y=ky n' y'):n=n'/\y=y':=by injection h with h1 h2;injection h2 with h2 _;injection h1 with h1;injection h2 with h2;exact⟨h1,h2⟩
theorem ğ.wr(g:ğ fo H0 H dm f b kvs)(hv:cD kvs (ky N Y)=some (.ref d))(h1:(AW.length<=b' N Y/\Ņ AW)/\∀h,0<=h->h<8->(cD AW (.inl h)).getD (.int 0)=.int (f' N Y h))(h2:∀n y,dm n y->¬(n=N/\y=Y)->b n y<=b' n y/\∀h,0<=h->h<8->f' n y h=f n y h):ğ fo H0 (upd H d (.dK AW)) dm f' b' kvs:=by
 obtain⟨w1,w2,_⟩:=g.fr _ _ _ hv;refine⟨λc o e=>by rw[aq (az e w1)];exact g.sm _ _ e,g.nf,by rw[aq w2.symm];exact g.e,λn y hd=>?_,g.no,g.i,λn y d' hd=>?_⟩
 .by_cases hk:n=N/\y=Y;.obtain⟨rfl,rfl⟩:=hk;exact⟨d,AW,hv,aj,h1⟩
  .obtain⟨d',kv,q1,q2,q3,q4⟩:=g.g n y hd;have nd:d'≠d:=λz=>hk (g.i _ _ _ _ _ (z▸q1) hv);obtain⟨k1,k2⟩:=h2 n y hd hk;exact⟨d',kv,q1,by rw[aq nd];exact q2,⟨ĺ q3.1 k1,q3.2⟩,λh z1 z2=>by rw[k2 h z1 z2];exact q4 h z1 z2⟩
 .obtain⟨w3,w4,o,w5⟩:=g.fr n y d' hd;by_cases mv:d'=d;.exact⟨w3,w4,.dK AW,by rw[mv];exact aj⟩
  .exact⟨w3,w4,o,by rw[aq mv];exact w5⟩
theorem ğ.cast(g:ğ fo H0 H dm f b kvs)(h2:∀n y,dm n y->b n y<=b' n y/\∀h,0<=h->h<8->f' n y h=f n y h):ğ fo H0 H dm f' b' kvs:=⟨g.sm,g.nf,g.e,λn y hd=>by obtain⟨d',kv,q1,q2,q3,q4⟩:=g.g n y hd;obtain⟨k1,k2⟩:=h2 n y hd;exact⟨d',kv,q1,q2,⟨ĺ q3.1 k1,q3.2⟩,λh z1 z2=>by rw[k2 h z1 z2];exact q4 h z1 z2⟩,g.no,g.i,g.fr⟩
def ũ(ps:PK)(n y:Int):Prop:=0<=n/\n<ps.length/\fl (ps.getD n.toNat []) 2<=y/\y<=fl (ps.getD n.toNat []) 3
def f0(ps:PK)(n y h:Int):Int:=if h=fl (ps.getD n.toNat []) 0 then fl (ps.getD n.toNat []) 4 else 0
inductive ž(vs:List V)(H:Hp)(Q:VK):Prop|mk:∀ap xp ps,(vs=[.ref ap])->(Ã H ap xp ps)->(ps.length<=10)->((∀r∈ps,č r))->(∀fo H' kvs,ğ fo H H' (ũ ps) (f0 ps) (λ_ _=>1) kvs->Q (.ref fo) H')->ž  vs H Q
def zG:Sp:=λvs H Q _=>ž  vs H Q
theorem ė:Á [Z4,ϋ,ϛ,AAu,ϡ,"_law_first","_law_last",ϊ,"_law_price",Υ] [Z4] (aD (top 76)):=ù
theorem Fb(F:Û K "_law_begun" "_law_begun" (top 76) f fd)(Te:mg "enumerate"=none)(Tr:mg "range"=none):Í P w K mg base Ý 1 f fd [Z4] zG:=by
 refine F.oq ė λai A outer s H vs Q E hr h=>?_;obtain⟨ap,xp,ps,rfl,rp,lp,okp,q⟩:=h;refine⟨_,aC (ć 1 ė.nd oR) (aC (bZ ĥ rfl (ZT.pi_enum true rfl Te (aA (pv 0) ao)) (bC rfl (au (Î 2 ė.nd) (au (bC rfl (au (Î 3 ė.nd) (au (Î 4 ė.nd) (au (Î 5 ė.nd) (au (Î 6 ė.nd) (au (Î 7 ė.nd) (au (Î 8 ė.nd) aW))))))) aW))) (aF (bZ ĥ rfl (jd rfl Tr (aA (pv 5) (aA (aQ bL (pv 6) aB) ao))) (Î 9 ė.nd) (aF (nA (eO hr) (pv 1) (bO (aA (pv 2) (aA (pv 9) ao))) (Gu (Dj (pv 3) (pv 7) Gs) rfl rfl Z2 Z3) rfl))))) (aF (aR (pv 1)))),?_⟩;refine aH (aU ?_);refine λfo Pm=>?_;refine aG ?_;dsimp only;refine aH ?_;have d0:ğ fo H (upd H fo (.dT [])) (λ_ _=>False) (f0 ps) (λ_ _=>1) []:=⟨À.upd Pm,Pm,aj,λ_ _ z=>z.elim,λ_ _ _=>rfl,λ_ _ _ _ _ z=>(by cases z),λ_ _ _ z=>(by cases z)⟩;generalize upd H fo (.dT [])=H1 at d0⊢;refine⟨_,rfl,ap,xp,rfl,Ê.of (d0.sm _ _ rp.e),?_⟩;refine ZT.for_enum true (xs:=xp) (λi σ Hc=>∃x2 x3 x4 x5 x6 x7 x8 x9 kvs,σ=[some (.ref ap),some (.ref fo),x2,x3,x4,x5,x6,x7,x8,x9]/\ğ fo H Hc (λn y=>ũ ps n y/\n<i) (f0 ps) (λ_ _=>1) kvs/\kvs.length<=20*i) ?_ ?_ ?_ ?_;.exact⟨none,none,none,none,none,none,none,none,[],rfl,⟨d0.sm,d0.nf,d0.e,λn y z=>by have:=z.1.1;have:=z.2;lia,λn y _=>d0.no n y id,d0.i,d0.fr⟩,Ø _⟩
 .rintro i σ Hc hi⟨x2,x3,x4,x5,x6,x7,x8,x9,kvs,rfl,dt,lk⟩;exact Ê.of (dt.sm _ _ rp.e)
 .rintro i x σ Hc T0 hx⟨x2,x3,x4,x5,x6,x7,x8,x9,kvs,rfl,dt,lk⟩nT;have hi:i<ps.length:=by have:=(ĩ.mp hx).1;rw[rp.l]at this;exact this
  obtain⟨tr,fE,ff⟩:=rp.g i ps[i] (Ö hi);have:x=.ref tr:=by rw[hx]at fE;exact ŉ fE
  subst this;have op:=okp ps[i] (Č hi);have ep:ps.getD ((i:Int)).toNat []=ps[i]:=by rw[Ľ];exact Ú hi
  have dT:=dt.new (o:=.tup [V.int i,V.ref tr]) nT;generalize YO:ps[i]=p at ff op ep;have Pn:=dT.sm _ _ ff;rw[dW op.1]at Pn;obtain⟨_,⟨a1,a2⟩,_,⟨c1,c2,c3⟩,⟨e1,e2⟩,_⟩:=op;refine⟨T0,_,rfl,Ê.of aj,rfl,_,_,rfl,_,_,rfl,?_⟩;refine⟨tr,_,rfl,Ê.of Pn,rfl,_,_,rfl,_,_,rfl,_,_,rfl,_,_,rfl,_,_,rfl,_,_,rfl,rfl,rfl,?_⟩;refine⟨_,rfl,_,rfl,_,_,rfl,rfl,fl p 2,fl p 3+1,rfl,⟨Z1,Z1,Z1,Z1⟩,?_⟩;generalize upd Hc T0 (.tup [V.int i,V.ref tr])=H2 at dT⊢;refine cU (lo:=fl p 2) (n:=(fl p 3+1-fl p 2).toNat) (λj σ Hj=>∃x9 kvs,σ=[some (.ref ap),some (.ref fo),some (.int i),some (.int (fl p 0)),some (.int (fl p 1)),some (.int (fl p 2)),some (.int (fl p 3)),some (.int (fl p 4)),some (.int (fl p 5)),x9]/\ğ fo H Hj (λn y=>ũ ps n y/\(n<i\/(n=i/\y<fl p 2+j))) (f0 ps) (λ_ _=>1) kvs/\kvs.length<=20*i+j) ?_ ?_ ?_;.exact⟨x9,kvs,rfl,⟨dT.sm,dT.nf,dT.e,λn y z=>dT.g n y ⟨z.1,by
    rcases z.2 with z2|⟨z2,z3⟩;.exact z2
    .obtain⟨_,_,w1,_⟩:=z.1;rw[z2,ep]at w1;lia⟩,λn y z=>dT.no n y λz'=>z ⟨z'.1,.inl z'.2⟩,dT.i,dT.fr⟩,lk⟩
  .rintro j σ Hj hj⟨x9,kvs,rfl,dj,lj⟩;refine aG ?_;refine λp1 mP=>?_;refine⟨_,rfl,_,rfl,aj,[(.inl (fl p 0),.int (fl p 4))],rfl,(by show 1<=15;decide),?_⟩;have hD:∀b o,Hj b=some o->upd (upd Hj p1 (.dK [])) p1 (.dK (iT [] [(.inl (fl p 0),.int (fl p 4))])) b=some o:=λb o e=>by rw[aq (az e mP),aq (az e mP)];exact e
   have AI:upd (upd Hj p1 (.dK [])) p1 (.dK (iT [] [(.inl (fl p 0),.int (fl p 4))])) p1=some (.dK [(.inl (fl p 0),.int (fl p 4))]):=aj;generalize upd (upd Hj p1 (.dK [])) p1 (.dK (iT [] [(.inl (fl p 0),.int (fl p 4))]))=HD at hD AI⊢;have Po:p1≠fo:=λz=>by rw[z,dj.e]at mP;cases mP
   refine⟨_,rfl,_,rfl,_,rfl,zL,λt ht=>⟨fo,_,rfl,ĸ.t (k:=ky i (fl p 2+j)) (À.upd ht _ _ (hD _ _ dj.e)) aj Z6,?_⟩⟩;have kp:∀b o,Hj b=some o->b≠fo->upd (upd HD t (.tup [V.int i,V.int (fl p 2+j)])) fo (.dT (ð kvs (ky i (fl p 2+j)) (.ref p1))) b=some o:=λb o e ne=>by rw[aq ne];exact À.upd ht _ _ (hD _ _ e)
   have EF:upd (upd HD t (.tup [V.int i,V.int (fl p 2+j)])) fo (.dT (ð kvs (ky i (fl p 2+j)) (.ref p1))) p1=some (.dK [(.inl (fl p 0),.int (fl p 4))]):=by rw[aq Po];exact À.upd ht _ _ AI
   have TF:H p1=none:=dj.sm.free mP;refine⟨_,_,rfl,⟨λb o e=>kp b o (dj.sm _ _ e) (az e dj.nf),dj.nf,aj,λn y z=>?_,λn y z=>?_,λn y n' y' d z z'=>?_,λn y d z=>?_⟩,?_⟩
   .by_cases hk:ky n y=ky i (fl p 2+j)
    .obtain⟨rfl,rfl⟩:=xV hk;refine⟨p1,_,by rw[fP,È rfl],EF,⟨Ø _,λp hp=>⟨fl _ 0,by rw[Ū.mp hp],a1,Z1⟩⟩,λh h0 h8=>?_⟩;unfold f0;rw[ep];by_cases hh:h=fl p 0;.rw[È hh,cV (show(Sum.inl (fl p 0):Key)=.inl h by rw[hh])];rfl
     .rw[Æ hh,cW (λz=>hh (by injection z with z;exact z.symm))];rfl
    .have hd:ũ ps n y/\(n<i\/(n=i/\y<fl p 2+j)):=⟨z.1,by
      rcases z.2 with z2|⟨z2,z3⟩;.exact .inl z2
      .refine .inr ⟨z2,?_⟩;have:y≠fl p 2+j:=λw=>hk (by rw[z2,w]);lia⟩;obtain⟨d,kv,q1,q2,q3⟩:=dj.g n y hd;exact⟨d,kv,by rw[fP,Æ hk];exact q1,kp _ _ q2 (dj.fr n y d q1).2.1,q3⟩
   .have hk:¬ky n y=ky i (fl p 2+j):=λw=>by obtain⟨rfl,rfl⟩:=xV w;exact z ⟨⟨Z1,Z1,by rw[ep];lia,by rw[ep];lia⟩,.inr ⟨rfl,Z1⟩⟩
    rw[fP,Æ hk];exact dj.no n y λz'=>z ⟨z'.1,z'.2.elim .inl λw=>.inr ⟨w.1,Z1⟩⟩
   .rw[fP]at z z';have old:∀n y,cD kvs (ky n y)=some (.ref p1)->False:=λn y w=>by obtain⟨_,_,o,w3⟩:=dj.fr n y p1 w;rw[mP]at w3;cases w3
    by_cases h1:ky n y=ky i (fl p 2+j)
    .rw[È h1]at z;by_cases h2:ky n' y'=ky i (fl p 2+j);.exact xV (h1.trans h2.symm)
     .rw[Æ h2]at z';injection z with z;injection z with z;rw[<-z]at z';exact(old _ _ z').elim
    .rw[Æ h1]at z;by_cases h2:ky n' y'=ky i (fl p 2+j);.rw[È h2]at z';injection z' with z';injection z' with z';rw[<-z']at z;exact(old _ _ z).elim
     .rw[Æ h2]at z';exact dj.i _ _ _ _ _ z z'
   .rw[fP]at z;by_cases h1:ky n y=ky i (fl p 2+j);.rw[È h1]at z;injection z with z;injection z with z;rw[<-z];exact⟨TF,Po,_,EF⟩
    .rw[Æ h1]at z;obtain⟨w1,w2,o,w3⟩:=dj.fr n y d z;exact⟨w1,w2,o,kp _ _ w3 w2⟩
   .have:=cZ kvs (ky i (fl p 2+j)) (V.ref p1);lia
  .rintro σ Hj⟨x9,kvs,rfl,dj,lj⟩;refine⟨_,_,_,_,_,_,_,_,kvs,rfl,⟨dj.sm,dj.nf,dj.e,λn y z=>dj.g n y ⟨z.1,?_⟩,λn y z=>dj.no n y λz'=>z ⟨z'.1,z'.2.elim (λw=>by lia) λw=>by lia⟩,dj.i,dj.fr⟩,Z1⟩;by_cases hn:n<i;.exact .inl hn
   .have e9:n=i:=by have:=z.2;lia
    refine .inr ⟨e9,?_⟩;obtain⟨_,_,_,w1⟩:=z.1;rw[e9,ep]at w1;lia
 .rintro σ Hc⟨x2,x3,x4,x5,x6,x7,x8,x9,kvs,rfl,dt,lk⟩;refine⟨_,rfl,q fo Hc kvs ⟨dt.sm,dt.nf,dt.e,λn y z=>dt.g n y ⟨z,?_⟩,λn y z=>dt.no n y λz'=>z z'.1,dt.i,dt.fr⟩⟩;rw[rp.l];exact z.2.1
def pQ(ps:PK)(f:Int->Int->Int->Int)(s:PP):Bool:=mX ps s&&(years (fl s 4) (fl (jn ps s) 3)).all λy=>decide (fl s 3<=f (fl s 0) y (fl s 1))
inductive Ś(vs:List V)(H:Hp)(Q:VK):Prop|mk:∀ap xp ps fo H0 f b kvs t s,(vs=[.ref ap,.ref fo,.ref t])->(Ã H ap xp ps)->((∀r∈ps,č r))->(ğ fo H0 H (ũ ps) f b kvs)->(H t=some (.tup (s.map V.int)))->(s.length=5)->(∀H',À H H'->Q (.bl (pQ ps f s)) H')->Ś  vs H Q
def vW:Sp:=λvs H Q _=>Ś  vs H Q
theorem HJ{ns:PP}(h1:M∈ns)(h2:∀a∈ns,M<=a):decide (k<=M)=ns.all λa=>decide (k<=a):=by rw[Zbi,ă,Ő];exact⟨λh a ha=>ñ (Int.le_trans h (h2 a ha)),λh=>ŋ (h M h1)⟩
theorem Mz(a:Ev σ H ta (.int i))(b:Ev σ H tb (.int j)):Ev σ H (ώ rEq ta tb) (.bl (decide (i=j))):=λQ q=>a _ (b _ ⟨rfl,by have ed:decide (V.int i=V.int j)=decide (i=j):=decide_eq_decide.mpr ⟨λz=>by injection z,λz=>by rw[z]⟩;rw[ed];exact q⟩)
theorem ľ:Á [Z4,ļ,ϙ,ϛ,AAz,"_law_buyer",ϊ,Υ,"_law_first","_law_last"] [Z4,ļ,ϙ] (aD (top 77)):=ù
theorem O9:([Τ,ļ,ϛ,AAz]:ç).Nodup:=by decide+kernel
theorem BW(F:Û K "_law_holds" "_law_holds" (top 77) f fd)(T:Mg mg)(Tr:mg "range"=none)(Tm:mg "min"=none):Í P w K mg base Ý 1 f fd [Z4,ļ,ϙ] vW:=by refine F.oq ľ λai A outer s H vs Q E hr h=>?_;obtain⟨ap,xp,ps,fo,H0,g,b,kvs,t,r,rfl,rp,okp,dt,et,h5,q⟩:=h;refine⟨_,aC (cO (pv 2) (bC rfl (au (bN (i:=3) ľ.nd rfl (Or.inr rfl)) (au (bN (i:=4) ľ.nd rfl (Or.inr rfl)) (au (Î 5 ľ.nd) (au (Î 6 ľ.nd) (au (Î 7 ľ.nd) aW))))))) (aC (cG (PW.pt (o9 (cC (gw bT jJ aB (pv 3) (aM bu rfl T.len PySem.boot_len (aA (pv 0) ao)))) (o9 (cC (gw bT bT aB (pv 4) aB)) (o9 (cC (gw bT bT aB (pv 5) aB)) (o7 (bf mz (pv 4) (pv 5) (bh _))))))) (aF (aR jG)) bj) (aC (Cz (i:=8) (j:=9) rfl ľ.nd rfl rfl Z3 rfl rfl (aA (pX cB (pX cB (pv 0) (pv 3)) aB) (aA (pX cB (pX cB (pv 0) (pv 3)) aB) ao)) rfl) (aC (cG (PW.pt (o9 (cC (gw bT bT aB (pv 6) aB)) (o7 (cC (gw bT bT (pv 8) (pv 7) (pv 9)))))) (aF (aR jG)) bj) (aF (aR (jf uC (aM (qp rfl) rfl Tm ģ (aA (bI [Τ,ļ,ϛ,AAz] [none,some 1,some 3,some 4] rfl (jd rfl Tr (aA (pv 7) (aA (aQ bL (pv 9) aB) ao))) (λC fp Z7 s₂ Ï=>⟨Î 0 O9,bR,oV (eO hr) (fG (eO hr) (pv 1) (bO (aA (pv 2) (aA (pv 0) ao))) (λ_ _=>rfl)) (pv 3) aB (by constructor<;>rfl)⟩) (λC=>cI (cI (cI trivial))) ⟨rfl,rfl,rfl,rfl⟩) ao)) (pv 6) (bh _))))))),?_⟩;have fin:=q;unfold pQ mX at fin;rw[j4 h5]at et;refine aH ?_;refine⟨_,rfl,t,_,rfl,Ê.of et,rfl,_,_,rfl,_,_,rfl,_,_,rfl,_,_,rfl,_,_,rfl,rfl,?_⟩;dsimp only;refine aH ?_;refine cz (p:=λi j=>decide (i<=j)) (q:=λi j=>decide (i<j)) (i:=0) (j:=fl r 0) (k:=(xp.length:Int)) gn (eF rfl) (λQ h=>⟨_,rfl,ap,xp,rfl,.inr (Ê.of rp.e),h⟩) _ ⟨_,rfl,?_⟩;rw[rp.l];cases e1:(decide (0<=fl r 0)&&decide (fl r 0<ps.length))with|false=>rw[e1]at fin;exact cg (cg (fin H (À.refl H)));|true=>rw[e1]at fin;refine bH ?_;refine cz (p:=λi j=>decide (i<=j)) (q:=λi j=>decide (i<=j)) (i:=0) (j:=fl r 1) (k:=7) gn (eF rfl) gn _ ⟨_,rfl,?_⟩;dsimp only;rw[show decide (fl r 1<=7)=decide (fl r 1<8)from decide_eq_decide.mpr Z1];cases e2:(decide (0<=fl r 1)&&decide (fl r 1<8))with|false=>rw[e2]at fin;exact cg (cg (fin H (À.refl H)));|true=>rw[e2]at fin;refine bH ?_;refine cz (p:=λi j=>decide (i<=j)) (q:=λi j=>decide (i<=j)) (i:=0) (j:=fl r 2) (k:=7) gn (eF rfl) gn _ ⟨_,rfl,?_⟩;dsimp only;rw[show decide (fl r 2<=7)=decide (fl r 2<8)from decide_eq_decide.mpr Z1];cases e3:(decide (0<=fl r 2)&&decide (fl r 2<8))with|false=>rw[e3]at fin;exact cg (cg (fin H (À.refl H)));|true=>rw[e3]at fin;refine bH ?_;refine Mz (i:=fl r 1) (j:=fl r 2) (eF rfl) (eF rfl) _ ⟨_,rfl,?_⟩;cases e4:decide (fl r 1=fl r 2)with|true=>rw[e4]at fin;exact cg (fin H (À.refl H));|false=>rw[e4]at fin;refine bH (eQ ?_);dsimp only;refine aH ?_;rw[ġ,ă,ă]at e1 e2;obtain⟨p,hp,ep,op⟩:=fK okp e1.1 e1.2;have yB:jn ps r=p:=ep;rw[yB]at fin;obtain⟨tp,ip,fh⟩:=gP rp e1.1 hp;rw[dW op.1]at fh;obtain⟨_,_,_,⟨g1,g2,g3⟩,_⟩:=id op;refine⟨_,rfl,_,rfl,ap,xp,_,.ref tp,rfl,rfl,Ê.of rp.e,ip,tp,_,2,.int (fl p 2),rfl,rfl,Ê.of fh,rfl,?_⟩;refine⟨_,rfl,_,rfl,ap,xp,_,.ref tp,rfl,rfl,Ê.of rp.e,ip,tp,_,3,.int (fl p 3),rfl,rfl,Ê.of fh,rfl,?_⟩;refine⟨_,_,rfl,?_⟩;dsimp only;refine aH ?_;refine cz (p:=λi j=>decide (i<=j)) (q:=λi j=>decide (i<=j)) (i:=1) (j:=fl r 3) (k:=99) gn (eF rfl) gn _ ⟨_,rfl,?_⟩;dsimp only;cases e5:(decide (1<=fl r 3)&&decide (fl r 3<=99))with|false=>rw[e5]at fin;exact cg (cg (fin H (À.refl H)));|true=>rw[e5]at fin;refine bH ?_;refine cz (p:=λi j=>decide (i<=j)) (q:=λi j=>decide (i<=j)) (i:=fl p 2) (j:=fl r 4) (k:=fl p 3) (eF rfl) (eF rfl) (eF rfl) _ ⟨_,rfl,?_⟩;dsimp only;cases e6:(decide (fl p 2<=fl r 4)&&decide (fl r 4<=fl p 3))with|false=>rw[e6]at fin;exact cg (fin H (À.refl H));|true=>
 rw[e6]at fin;rw[ġ,ă,ă]at e6;refine bH (eQ ?_);dsimp only;refine⟨_,rfl,_,rfl,_,_,rfl,rfl,fl r 4,fl p 3+1,rfl,⟨Z1,Z1,Z1,Z1⟩,?_⟩;refine vJ (λys Hc=>À H Hc/\ys=((years (fl r 4) (fl p 3)).take ys.length).map λy=>V.int (g (fl r 0) y (fl r 1))) ⟨À.refl _,rfl⟩ Z6 ?_ ?_
 .rintro i ys Hc Qc hi hy⟨sc,ey⟩qc;refine⟨_,rfl,_,rfl,_,rfl,zL,λk hk=>?_⟩;have sk:=sc.updR (o:=.tup [V.int (fl r 0),V.int (fl r 4+i)]) hk;have dk:=dt.same sk;obtain⟨d,kv,q1,q2,q3,q4⟩:=dk.g (fl r 0) (fl r 4+i) ⟨e1.1,e1.2,by rw[ep];lia,by rw[ep];lia⟩;refine⟨fo,.ref d,rfl,by rw[<-q1];exact Ć.t dk.e aj,?_⟩;refine⟨d,rfl,.inl ⟨kv,.inl q2⟩,_,rfl,_,Ć.k (k:=.inl (fl r 1)) q2,?_⟩;rw[q4 _ e2.1 e2.2];refine qc _ _ ⟨sk,?_⟩;have hx:(years (fl r 4) (fl p 3))[ys.length]?=some (fl r 4+(i:Int)):=by rw[hy];exact mj hi
  exact rm ey hx
 .rintro ys Hc hy⟨sc,ey⟩D hD;rw[ϩ (by rw[lZ,hy];exact Ø _)]at ey;refine⟨D,(years (fl r 4) (fl p 3)).map λy=>g (fl r 0) y (fl r 1),rfl,É.of (by rw[ħ];rw[ey];exact aj),?_,λM h1 h2=>⟨_,rfl,_,_,rfl,rfl,?_⟩⟩;.intro z;have:=congrArg List.length z;rw[Ð,lZ,List.length_nil]at this;lia
  .have em:=HJ (k:=fl r 3) h1 h2;rw[List.all_map]at em;show Q (.bl (decide (fl r 3<=M))) _;rw[em];exact fin _ (sc.updR hD)
def dl(s:PP)(h:Int):Int:=(if h=fl s 2 then fl s 3 else 0)-(if h=fl s 1 then fl s 3 else 0)
def fS(f:Int->Int->Int->Int)(s:PP)(n y h:Int):Int:=if n=fl s 0/\fl s 4<=y then f n y h+dl s h else f n y h
theorem HN:upd (upd H d a) d b=upd H d b:=by
 funext c;by_cases h:c=d;.subst h;rw[aj,aj]
 .rw[aq h,aq h,aq h]
theorem vX(hl:L.length=8)(i0:0<=i)(i1:i<8)(h0:0<=h)(h1:h<8):(jF L i v).getD h.toNat 0=L.getD h.toNat 0+(if h=i then v else 0):=by
 unfold jF;rw[Ğ,List.getElem?_set];by_cases hh:h=i;.subst hh;rw[È rfl,È rfl,È Z1];rfl
 .rw[Æ Z1,Æ hh,<-Ğ];lia
theorem BX(hl:L.length=8)(ok:Η s)(h0:0<=h)(h1:h<8):(å n y L s).getD h.toNat 0=if n=fl s 0/\fl s 4<=y then L.getD h.toNat 0+dl s h else L.getD h.toNat 0:=by
 obtain⟨_,⟨a1,a2⟩,b1,b2⟩:=ok;unfold å dl;by_cases hc:fl s 0=n/\fl s 4<=y;.rw[È hc,È ⟨hc.1.symm,hc.2⟩,vX (by rw[j0];exact hl) b1 b2 h0 h1,vX hl a1 a2 h0 h1];split<;>split<;>lia
 .rw[Æ hc,Æ λz=>hc ⟨z.1.symm,z.2⟩]
theorem BZ(kD:fl p 2<=y/\y<=fl p 3)(ok:Η s)(h0:0<=h)(h1:h<8):(bA p (ss++[s]) n y).getD h.toNat 0=if n=fl s 0/\fl s 4<=y then(bA p ss n y).getD h.toNat 0+dl s h else(bA p ss n y).getD h.toNat 0:=by
 have hl:=fB p ss n y;have e:bA p (ss++[s]) n y=å n y (bA p ss n y) s:=by unfold bA;rw[È kD,È kD,List.foldl_append];rfl
 rw[e,BX hl ok h0 h1]
inductive ι(vs:List V)(H:Hp)(Q:VK):Prop|mk:∀ap xp ps fo H0 f b kvs t s,(vs=[.ref ap,.ref fo,.ref t])->(Ã H ap xp ps)->((∀r∈ps,č r))->(ğ fo H0 H (ũ ps) f (λ_ _=>b) kvs)->(b<=1000)->(H t=some (.tup (s.map V.int)))->(s.length=5)->(pQ ps f s=true)->(∀H',ğ fo H0 H' (ũ ps) (fS f s) (λ_ _=>b+2) kvs->Q .non H')->ι  vs H Q
def Fd:Sp:=λvs H Q _=>ι  vs H Q
theorem İ:Á [Z4,ļ,ϙ,ϛ,AAz,"_law_buyer",ϊ,Υ,Τ,ABb] [Z4,ļ,ϙ] (aD (top 78)):=ù
theorem HQ(F:Û K "_law_sell" "_law_sell" (top 78) f fd)(Tr:mg "range"=none):Í P w K mg base Ý 1 f fd [Z4,ļ,ϙ] Fd:=by
 refine F.oq İ λai A outer s H vs Q E hr h=>?_;obtain⟨ap,xp,ps,fo,H0,g,b,kvs,t,r,rfl,rp,okp,dt,hb,et,h5,hh,q⟩:=h;refine⟨_,aC (cO (pv 2) (bC rfl (au (Î 3 İ.nd) (au (Î 4 İ.nd) (au (Î 5 İ.nd) (au (Î 6 İ.nd) (au (Î 7 İ.nd) aW))))))) (aF (bZ ĥ rfl (jd rfl Tr (aA (pv 7) (aA (aQ bL (pX cB (pX cB (pv 0) (pv 3)) aB) aB) ao))) (Î 8 İ.nd) (aC (ć 9 İ.nd (fG (eO hr) (pv 1) (bO (aA (pv 3) (aA (pv 8) ao))) (λ_ _=>rfl))) (aC (nA (eO hr) (pv 9) (pv 4) (aQ du (fG (eO hr) (pv 9) (pv 4) (λ_ _=>rfl)) (pv 6)) rfl) (aF (nA (eO hr) (pv 9) (pv 5) (aQ bL (oV (eO hr) (pv 9) (pv 5) aB (by constructor<;>rfl)) (pv 6)) rfl)))))),?_⟩;rw[j4 h5]at et;unfold pQ mX at hh;simp only[Bool.and_eq_true,ă,Bool.not_eq_true',decide_eq_false_iff_not]at hh;obtain⟨⟨⟨n0,n1⟩,⟨a1,a2⟩,⟨b1,b2⟩,LN,⟨k1,k2⟩,y0,y1⟩,hy⟩:=hh;obtain⟨p,hp,ep,op⟩:=fK okp n0 n1;have yB:jn ps r=p:=ep;rw[yB]at y0 y1 hy;obtain⟨tp,ip,fh⟩:=gP rp n0 hp;rw[dW op.1]at fh;obtain⟨_,_,_,⟨g1,g2,g3⟩,_⟩:=id op;refine aH ?_;refine⟨_,rfl,t,_,rfl,Ê.of et,rfl,_,_,rfl,_,_,rfl,_,_,rfl,_,_,rfl,_,_,rfl,rfl,?_⟩;dsimp only;refine⟨_,rfl,_,rfl,_,rfl,ap,xp,_,.ref tp,rfl,rfl,Ê.of rp.e,ip,tp,_,3,.int (fl p 3),rfl,rfl,Ê.of fh,rfl,_,_,rfl,rfl,fl r 4,fl p 3+1,rfl,⟨Z1,Z1,Z1,Z1⟩,?_⟩;refine cU (lo:=fl r 4) (n:=(fl p 3+1-fl r 4).toNat) (λj σ Hj=>∃x8 x9,σ=[some (.ref ap),some (.ref fo),some (.ref t),some (.int (fl r 0)),some (.int (fl r 1)),some (.int (fl r 2)),some (.int (fl r 3)),some (.int (fl r 4)),x8,x9]/\ğ fo H0 Hj (ũ ps) (λn y h=>if n=fl r 0/\fl r 4<=y/\y<fl r 4+j then g n y h+dl r h else g n y h) (λn y=>if n=fl r 0/\fl r 4<=y/\y<fl r 4+j then b+2 else b) kvs) ?_ ?_ ?_;.refine⟨none,none,rfl,dt.cast λn y hd=>?_⟩;rw[Æ Z1];exact⟨Ø _,λh _ _=>by rw[Æ Z1]⟩
 .rintro j σ Hj hj⟨x8,x9,rfl,dj⟩;refine aG (aH ?_);refine aU ?_;refine⟨_,rfl,_,rfl,_,rfl,zL,λk hk=>?_⟩;have dk:=dj.new (o:=.tup [V.int (fl r 0),V.int (fl r 4+j)]) hk;have ek:upd Hj k (.tup [V.int (fl r 0),V.int (fl r 4+j)]) k=some (.tup ((ky (fl r 0) (fl r 4+j)).map kV)):=aj;generalize upd Hj k (.tup [V.int (fl r 0),V.int (fl r 4+j)])=H1 at dk ek⊢;have L5:ũ ps (fl r 0) (fl r 4+j):=⟨n0,n1,by rw[ep];lia,by rw[ep];lia⟩;obtain⟨d,kv,q1,q2,⟨q3,qk⟩,q4⟩:=dk.g _ _ L5;rw[Æ Z1]at q3;refine⟨fo,.ref d,rfl,by rw[<-q1];exact Ć.t dk.e ek,?_⟩;refine aG ?_;dsimp only;have kM:=q4 (fl r 1) a1 a2;rw[Æ Z1]at kM;have kF:fl r 3<=g (fl r 0) (fl r 4+j) (fl r 1):=by have:=Ő.mp hy (fl r 4+j) (Κ (mj hj));exact ŋ this
  have L6:cD kv (.inl (fl r 1))=some (.int (g (fl r 0) (fl r 4+j) (fl r 1))):=by cases ev:cD kv (.inl (fl r 1))with|none=>rw[ev]at kM;injection kM with kM;lia;|some v=>rw[ev]at kM;exact congrArg some kM
  have EG:=q4 (fl r 2) b1 b2;rw[Æ Z1]at EG;refine aH ?_;refine⟨_,rfl,_,rfl,d,_,rfl,by rw[<-L6];exact Ć.k (k:=.inl (fl r 1)) q2,_,rfl,_,_,rfl,rfl,_,rfl,_,rfl,d,_,rfl,ĸ.k (k:=.inl (fl r 1)) q2 Z6,?_⟩;dsimp only;have YQ:=cZ kv (.inl (fl r 1)) (V.int (g (fl r 0) (fl r 4+j) (fl r 1)-fl r 3));have vb:(cD (ð kv (.inl (fl r 1)) (V.int (g (fl r 0) (fl r 4+j) (fl r 1)-fl r 3))) (.inl (fl r 2))).getD (.int 0)=.int (g (fl r 0) (fl r 4+j) (fl r 2)):=by rw[fP,Æ (λz=>LN (by injection z with z;exact z.symm))];exact EG
  refine⟨_,rfl,d,rfl,.inl ⟨_,.inl aj⟩,_,rfl,_,Ć.k (k:=.inl (fl r 2)) aj,_,rfl,_,_,vb,rfl,_,rfl,_,rfl,d,_,rfl,ĸ.k (k:=.inl (fl r 2)) aj Z6,?_⟩;have YR:=cZ (ð kv (.inl (fl r 1)) (V.int (g (fl r 0) (fl r 4+j) (fl r 1)-fl r 3))) (.inl (fl r 2)) (V.int (g (fl r 0) (fl r 4+j) (fl r 2)+fl r 3));refine⟨_,_,rfl,?_⟩;rw[HN];refine dk.wr q1 ⟨⟨?_,(qk.put a1 a2 _).put b1 b2 _⟩,λh h0 h8=>?_⟩ λn y hd gE=>⟨?_,λh h0 h8=>?_⟩;.rw[È ⟨rfl,Z1,Z1⟩];exact ĺ (cZ _ _ _) (Nat.succ_le_succ (ĺ (cZ _ _ _) (Nat.succ_le_succ q3)))
  .rw[È ⟨rfl,Z1,Z1⟩,fP];unfold dl;by_cases iE:h=fl r 2;.rw[È (by rw[iE]),È iE,Æ (λz=>LN (z.symm.trans iE))];show V.int _=V.int _;rw[iE];congr 1;lia
   .rw[Æ (λz=>iE (by injection z)),Æ iE,fP];by_cases lT:h=fl r 1;.rw[È (by rw[lT]),È lT];show V.int _=V.int _;rw[lT];congr 1;lia
    .rw[Æ (λz=>lT (by injection z)),Æ lT];have:=q4 h h0 h8;rw[Æ Z1]at this;rw[this];congr 1;lia
  .split<;>split<;>lia
  .by_cases hc:n=fl r 0/\fl r 4<=y/\y<fl r 4+j;.rw[È hc,È ⟨hc.1,hc.2.1,Z1⟩]
   .rw[Æ hc,Æ λz=>hc ⟨z.1,z.2.1,by have:y≠fl r 4+j:=λw=>gE ⟨z.1,w⟩;lia⟩]
 .rintro σ Hj⟨x8,x9,rfl,dj⟩;refine q Hj (dj.cast λn y hd=>⟨by split<;>lia,λh h0 h8=>?_⟩);unfold fS;by_cases hc:n=fl r 0/\fl r 4<=y
  .have:y<=fl p 3:=by have:=hd.2.2.2;rw[hc.1,ep]at this;exact this
   rw[È hc,È ⟨hc.1,hc.2,Z1⟩]
  .rw[Æ hc,Æ λz=>hc ⟨z.1,z.2.1⟩]
structure Ş(bb:Bool)(H:Hp)(a:Addr)(xs:List V)(rs:PK):Prop where
 e:H a=some (if bb=true then .tup xs else .lst xs)l:xs.length=rs.length
 g:∀(i:Nat)(r:PP),rs[i]?=some r->∃t,xs[i]?=some (V.ref t)/\H t=some (.tup (r.map V.int))
theorem Ã.b(h:Ã H a xs rs):Ş true H a xs rs:=⟨h.e,h.l,h.g⟩
theorem Ş.same(h:Ş bb H a xs rs)(s:À H H'):Ş bb H' a xs rs:=⟨s _ _ h.e,h.l,λi r e=>by obtain⟨t,e1,e2⟩:=h.g i r e;exact⟨t,e1,s _ _ e2⟩⟩
theorem sqB(h:H a=some (if bb=true then .tup xs else .lst xs)):ZT.SQ bb K H a xs:=by cases bb with|true=>exact Ê.of h;|false=>exact É.of h
inductive Ŷ(vs:List V)(H:Hp)(Q:VK):Prop|mk:∀ap xp ps,∀bb:Bool,∀ar xs ss,(vs=[.ref ap,.ref ar])->(Ã H ap xp ps)->(ps.length<=10)->((∀r∈ps,č r))->(Ş bb H ar xs ss)->(ss.length<=100)->((∀s∈ss,s.length=5))->(∀t fo H',À H H'->H' t=some (.tup [.ref fo,ϻ (un ps ss)])->(un ps ss=none->∃b kvs,ğ fo H H' (ũ ps) (λn y h=>(bA (ps.getD n.toNat []) ss n y).getD h.toNat 0) b kvs)->Q (.ref t) H')->Ŷ  vs H Q
def ul:Sp:=λvs H Q _=>Ŷ  vs H Q
inductive θ(vs:List V)(H:Hp)(Q:VK):Prop|mk:∀ap xp ps ar xs ss,(vs=[.ref ap,.ref ar])->(Ã H ap xp ps)->(ps.length<=10)->((∀r∈ps,č r))->(Ã H ar xs ss)->(ss.length<=100)->((∀s∈ss,s.length=5))->(∀t fo H',À H H'->H' t=some (.tup [.ref fo,ϻ (un ps ss)])->Q (.ref t) H')->θ  vs H Q
def Fe:Sp:=λvs H Q _=>θ  vs H Q
theorem Ff(ok:č (ps.getD n.toNat []))(kD:fl (ps.getD n.toNat []) 2<=y/\y<=fl (ps.getD n.toNat []) 3)(h0:0<=h)(h8:h<8):(bA (ps.getD n.toNat []) [] n y).getD h.toNat 0=f0 ps n y h:=by
 unfold bA f0;rw[È kD];generalize ps.getD n.toNat []=p at ok;obtain⟨_,⟨a1,a2⟩,_⟩:=ok;show(đ p).getD h.toNat 0=_;unfold đ;rw[Ğ,List.getElem?_set];by_cases hh:h=fl p 0;.rw[È (by rw[hh]),È (by rw[Zbb];lia),È hh];rfl
 .rw[Æ Z1,Æ hh,Zbk,È Z1];rfl
theorem Φ:Á [Z4,ŧ,ļ,"_law_at",ϙ] [Z4,ŧ] (aD (top 79)):=ù
theorem vY(F:Û K "_law_sold" "_law_sold" (top 79) f fd)(Te:mg "enumerate"=none)(c1:ã P w K mg base 1 "_law_begun" [Z4] zG)(c2:ã P w K mg base 1 "_law_holds" [Z4,ļ,ϙ] vW)(c3:ã P w K mg base 1 "_law_sell" [Z4,ļ,ϙ] Fd):Í P w K mg base Ý 2 f fd [Z4,ŧ] ul:=by
 refine F.oq Φ λai A outer s H vs Q E hr h=>?_;obtain⟨ap,xp,ps,bb,ar,xs,ss,rfl,rp,lp,okp,rs,ls,cy,q⟩:=h;refine⟨_,aC (ć 2 Φ.nd (aJ c1 hr (aA (pv 0) ao))) (aC (bZ ĥ rfl (ZT.pi_enum bb rfl Te (aA (pv 1) ao)) (bC rfl (au (Î 3 Φ.nd) (au (Î 4 Φ.nd) aW))) (aC (cG (cC (dH (aJ c2 hr (aA (pv 0) (aA (pv 2) (aA (pv 4) ao)))))) (aF (aR (bO (aA (pv 2) (aA (pv 3) ao))))) bj) (aF (cA (aJ c3 hr (aA (pv 0) (aA (pv 2) (aA (pv 4) ao)))))))) (aF (aR (bO (aA (pv 2) (aA fW ao)))))),?_⟩;refine aH (aU ?_);refine⟨_,rfl,ap,xp,ps,rfl,rp,lp,okp,λfo H1 kvs d1=>?_⟩;refine aG ?_;dsimp only;refine aH ?_;refine⟨_,rfl,ar,xs,rfl,sqB (d1.sm _ _ rs.e),?_⟩;have TH:∀n y,ũ ps n y->č (ps.getD n.toNat []):=λn y hd=>by obtain⟨p,_,e2,e3⟩:=fK okp hd.1 hd.2.1;rw[e2];exact e3
 refine ZT.for_enum bb (xs:=xs) (λi σ Hc=>∃x3 x4,σ=[some (.ref ap),some (.ref ar),some (.ref fo),x3,x4]/\ğ fo H Hc (ũ ps) (λn y h=>(bA (ps.getD n.toNat []) (ss.take i) n y).getD h.toNat 0) (λ_ _=>1+2*i) kvs/\∀j,j<i->cF ps (ss.take j) (ss.getD j [])=true) ?_ ?_ ?_ ?_;.exact⟨none,none,rfl,d1.cast λn y hd=>⟨Ø _,λh h0 h8=>Ff (TH n y hd) hd.2.2 h0 h8⟩,λj hj=>absurd hj (Ϩ _)⟩
 .rintro i σ Hc hi⟨x3,x4,rfl,dt,hh⟩;exact sqB (dt.sm _ _ rs.e)
 .rintro i x σ Hc T0 hx⟨x3,x4,rfl,dt,hh⟩nT;have hi:i<ss.length:=by have:=(ĩ.mp hx).1;rw[rs.l]at this;exact this
  obtain⟨tr,fE,ff⟩:=rs.g i ss[i] (Ö hi);have:x=.ref tr:=by rw[hx]at fE;exact ŉ fE
  subst this;have h5:=cy ss[i] (Č hi);have dT:=dt.new (o:=.tup [V.int i,V.ref tr]) nT;have eT:upd Hc T0 (.tup [V.int i,V.ref tr]) T0=some (.tup [V.int i,V.ref tr]):=aj;generalize upd Hc T0 (.tup [V.int i,V.ref tr])=H2 at dT eT⊢;refine⟨T0,_,rfl,Ê.of eT,rfl,_,_,rfl,_,_,rfl,rfl,?_⟩;refine aH ?_;refine⟨_,rfl,_,rfl,_,rfl,ap,xp,ps,fo,H,_,_,kvs,tr,ss[i],rfl,rp.same dT.sm,okp,dT,dT.sm _ _ ff,h5,λH3 s3=>⟨_,rfl,?_⟩⟩;have d3:=dT.same s3;have L7:pQ ps (λn y h=>(bA (ps.getD n.toNat []) (ss.take i) n y).getD h.toNat 0) ss[i]=cF ps (ss.take i) ss[i]:=rfl
  cases eh:cF ps (ss.take i) ss[i]with|false=>
   rw[L7,eh];refine cg ⟨_,rfl,_,rfl,zL,λt ht=>q t fo _ (d3.sm.updR ht) ?_ λz=>?_⟩;.rw[tX hh hi (by rw[Ú hi];exact eh)];exact aj
   .rw[tX hh hi (by rw[Ú hi];exact eh)]at z;cases z;|true=>
   rw[L7,eh];refine bH (eQ ?_);refine⟨_,rfl,_,rfl,_,rfl,ap,xp,ps,fo,H,_,1+2*i,kvs,tr,ss[i],rfl,rp.same d3.sm,okp,d3,Z1,d3.sm _ _ ff,h5,L7.trans eh,λH4 d4=>?_⟩;have bX:ss.take (i+1)=ss.take i++[ss[i]]:=by rw[Ĝ,Ö hi];rfl
   refine⟨_,_,rfl,d4.cast λn y hd=>⟨Z1,λh h0 h8=>?_⟩,λj hj=>?_⟩;.rw[bX,BZ hd.2.2 (kY h5 eh) h0 h8];rfl
   .rcases Nat.lt_succ_iff_lt_or_eq.mp hj with z|z;.exact hh j z
    .rw[z,Ú hi];exact eh
 .rintro σ Hc⟨x3,x4,rfl,dt,hh⟩;refine⟨_,rfl,zL,λt ht=>q t fo _ (dt.sm.updR ht) ?_ λ_=>?_⟩;.rw[tY λj hj=>hh j (by rw[rs.l];exact hj)];exact aj
  .rw[show xs.length=ss.length from rs.l,Ĩ]at dt;exact⟨_,kvs,dt.new ht⟩
theorem HR(F:Í P w K mg base Ý 2 f fd [Z4,ŧ] ul):Í P w K mg base Ý 2 f fd [Z4,ŧ] Fe:=by refine F.imp λvs H Q E h=>?_;obtain⟨ap,xp,ps,ar,xs,ss,rfl,rp,lp,okp,rs,ls,cy,q⟩:=h;exact⟨ap,xp,ps,true,ar,xs,ss,rfl,rp,lp,okp,rs.b,ls,cy,λt fo H' s e _=>q t fo H' s e⟩
def MF(st:Addr)(H:Hp)(n:Int)(v:V)(H':Hp):Prop:=∃ps,Ι st H H'/\jm H' st/\Ò (λ_=>False) H' v (bU ps)/\(ps.length:Int)<=n/\∀r∈ps,č r
inductive ŗ(vs:List V)(H:Hp)(Q:VK):Prop|mk:∀st n y,(vs=[.ref st,.int n,.int y])->(jm H st)->(1<=n)->(n<=10)->(0<=y)->(y<=1000)->(∀v H',MF st H n v H'->Q v H')->ŗ  vs H Q
def vZ:Sp:=λvs H Q _=>ŗ  vs H Q
theorem um(F:Û K ABc ABc (top 75) f fd)(T:Mg mg)(Tr:mg "range"=none)(Tm:mg "min"=none)(c1:ã P w K mg base 1 AAt [ċ,AAr] lV):Í P w K mg base Ý 2 f fd [ċ,Š,AAo] vZ:=by
 refine F.oq Ξ λai A outer s H vs Q E hr h=>?_;obtain⟨st,n,y,rfl,eW,n1,n2,y1,y2,q⟩:=h;refine⟨_,aC (Cz (i:=3) (j:=4) rfl Ξ.nd rfl rfl Z3 rfl rfl (aA (cP ao) (aA (pX bV (cP (jQ (by repeat constructor))) (aJ c1 hr (aA (pv 0) (aA aB ao)))) ao)) rfl) (aC (bZ ĥ rfl (d7 rfl Tr (aA (aJ c1 hr (aA (pv 0) (aA (aQ bL (pv 1) aB) ao))) ao)) (Î 5 Ξ.nd) (aC (ć 6 Ξ.nd (aJ c1 hr (aA (pv 0) (aA (aM (gW rfl) rfl Tm ģ (aA aB (aA (aQ bL (pv 2) aB) ao))) ao)))) (aC (ć 7 Ξ.nd (aM (gW rfl) rfl Tm ģ (aA aB (aA (aQ bL (pv 6) (aJ c1 hr (aA (pv 0) (aA (pX bV (cP (jQ (by repeat constructor))) (aJ c1 hr (aA (pv 0) (aA aB ao)))) ao)))) ao)))) (aC (ć 8 Ξ.nd (pX bV (yF (sZ aB (sZ aB (sZ (aJ c1 hr (aA (pv 0) (aA aB ao))) (sZ (aQ wH aB aB) cj))))) (aJ c1 hr (aA (pv 0) (aA aB ao))))) (aC (ć 9 Ξ.nd (pX bV (yF (sZ aB (sZ aB (sZ aB (sZ (aJ c1 hr (aA (pv 0) (aA aB ao))) cj))))) (aJ c1 hr (aA (pv 0) (aA aB ao))))) (aF (cA (gK ό Ϲ Ϻ d9 (pv 3) (aA (uT (iw (bJ ⟨pv 9⟩ (bJ ⟨aJ c1 hr (aA (pv 0) (aA aB ao))⟩ (bJ ⟨pv 6⟩ (bJ ⟨pv 7⟩ (bJ ⟨aQ bL aB (aJ c1 hr (aA (pv 0) (aA (pv 4) ao)))⟩ (bJ ⟨pv 8⟩ cj)))))))) ao))))))))) (aF (aR (bB bF rfl T.tuple Ó (aA (pv 3) ao))))),?_⟩;obtain⟨a,b,es,h1,h2,h3⟩:=id eW;refine aH ?_;refine⟨zL,λp3 fq=>?_⟩;have hU:p3≠st:=λz=>by rw[z,es]at fq;cases fq
 have g0:Mk3 st p3 [] [] H (upd H p3 (.lst [])):=⟨λb' o' e' _=>À.upd fq _ _ e',⟨a,b,À.upd fq _ _ es,h1,h2,h3⟩,aj,.nil⟩;refine⟨zL,λp hp=>?_⟩;have g1:=g0.new (o:=.lst (([3,12,99]:PP).map V.int)) hp;have np:p≠st:=λz=>by obtain⟨x,y,e7,_⟩:=g0.sa;rw[z,e7]at hp;cases hp
 refine⟨_,rfl,st,3,rfl,g1.sa,by decide,by decide,λr a1 b1 r0 r1 k1 k2 k3=>?_⟩;obtain⟨wd,hw,w1,w2⟩:∃wd:Int,ŏ (([3,12,99]:PP).map V.int) r=some (.int wd)/\1<=wd/\wd<=99:=by
  have:r=0\/r=1\/r=2:=Z1;rcases this with rfl|rfl|rfl;.exact⟨3,rfl,by decide,by decide⟩
  .exact⟨12,rfl,by decide,by decide⟩
  .exact⟨99,rfl,by decide,by decide⟩
 refine⟨p,_,r,.int wd,rfl,rfl,É.of (by rw[aq np];exact aj),hw,_,_,rfl,?_⟩;have g2:=g1.take hU k1 k2 k3;dsimp only;refine aH ?_;refine⟨_,rfl,_,rfl,_,_,rfl,rfl,st,n+1,rfl,g2.sa,Z1,Z1,λr2 a2 b2 x0 x1 z1 z2 z3=>⟨r2,rfl,Z1,Z1,?_⟩⟩;have g3:=g2.take hU z1 z2 z3;refine cU (lo:=0) (n:=r2.toNat) (λi σ H'=>∃xs ds x5 x6 x7 x8 x9,σ=[some (.ref st),some (.int n),some (.int y),some (.ref p3),some (.int wd),x5,x6,x7,x8,x9]/\Mk3 st p3 xs ds H H'/\(∃rs:PK,ds=rs.map cu/\rs.length=i/\∀r∈rs,č r)/\xs.length=i) ?_ ?_ ?_;.exact⟨[],[],none,none,none,none,none,rfl,g3,⟨[],rfl,rfl,λ_ h=>nomatch h⟩,rfl⟩
 .rintro i σ H' hi⟨xs,ds,x5,x6,x7,x8,x9,rfl,g,⟨rs,L8,Pp,L9⟩,hl⟩;have EH:∀{Hc:Hp}{c:Addr},Mk3 st p3 xs ds H Hc->Hc c=none->c≠st:=λ{Hc c}gc hc z=>by obtain⟨x,y,e7,_⟩:=gc.sa;rw[z,e7]at hc;cases hc
  refine aG (aH ?_);refine aU ?_;refine⟨_,rfl,_,rfl,_,_,rfl,rfl,_,_,rfl,st,_,rfl,g.sa,by split<;>lia,by split<;>lia,λf1 a3 b3 o0 o1 o2 o3 o4=>?_⟩;have g4:=g.take hU o2 o3 o4;have f2:f1<20:=by split at o1<;>lia
  refine aG ?_;dsimp only;refine aH (aU ?_);refine⟨_,rfl,_,rfl,zL,λp5 AX=>?_⟩;have n5:=EH g4 AX;have g5:=g4.new (o:=.lst (([1,4,20]:PP).map V.int)) AX;refine⟨_,rfl,st,3,rfl,g5.sa,by decide,by decide,λr4 a4 b4 q0 q1 q2 q3 q4=>?_⟩;obtain⟨w5,TJ,w6,w7⟩:∃w5:Int,ŏ (([1,4,20]:PP).map V.int) r4=some (.int w5)/\1<=w5/\w5<=20:=by
   have:r4=0\/r4=1\/r4=2:=Z1;rcases this with rfl|rfl|rfl;.exact⟨1,rfl,by decide,by decide⟩
   .exact⟨4,rfl,by decide,by decide⟩
   .exact⟨20,rfl,by decide,by decide⟩
  have g6:=g5.take hU q2 q3 q4;refine⟨p5,_,r4,.int w5,rfl,rfl,É.of (by rw[aq n5];exact aj),TJ,st,w5,rfl,g6.sa,w6,Z1,λr5 a5 b5 s0 s1 s2 s3 s4=>⟨_,_,rfl,rfl,_,_,rfl,?_⟩⟩;have g7:=g6.take hU s2 s3 s4;refine aG ?_;dsimp only;refine aH (aU ?_);refine⟨_,rfl,st,1000,rfl,g7.sa,by decide,by decide,λr6 a6 b6 t0 t1 t2 t3 t4=>⟨_,_,rfl,rfl,⟨by decide,by decide,by decide⟩,zL,λp6 AY=>?_⟩⟩;have g8:=g7.take hU t2 t3 t4;have n6:=EH g8 AY;have g9:=g8.new (o:=.lst [V.int 0,V.int 1,V.int r6,V.int (10^(6:Int).toNat)]) AY;refine⟨_,rfl,st,4,rfl,g9.sa,by decide,by decide,λr7 a7 b7 u0 u1 u2 u3 u4=>?_⟩;obtain⟨pr,TK,TL,TN⟩:∃pr:Int,ŏ [V.int 0,V.int 1,V.int r6,V.int (10^(6:Int).toNat)] r7=some (.int pr)/\0<=pr/\pr<=1000000:=by
   have:r7=0\/r7=1\/r7=2\/r7=3:=Z1;rcases this with rfl|rfl|rfl|rfl;.exact⟨0,rfl,by decide,by decide⟩
   .exact⟨1,rfl,by decide,by decide⟩
   .exact⟨r6,rfl,t0,Z1⟩
   .exact⟨_,rfl,by decide,by decide⟩
  have ga:=g9.take hU u2 u3 u4;refine⟨p6,_,r7,.int pr,rfl,rfl,É.of (by rw[aq n6];exact aj),TK,?_⟩;refine aG ?_;dsimp only;refine aH (aU ?_);refine⟨_,rfl,st,8,rfl,ga.sa,by decide,by decide,λr8 a8 b8 v0 v1 v2 v3 v4=>⟨zL,λp7 AZ=>?_⟩⟩;have gb:=ga.take hU v2 v3 v4;have n7:=EH gb AZ;have gc:=gb.new (o:=.lst [V.int 0,V.int 1,V.int 2,V.int r8]) AZ;refine⟨_,rfl,st,4,rfl,gc.sa,by decide,by decide,λr9 a9 b9 y0 y3 y4 y5 y6=>?_⟩;obtain⟨ho,TQ,TR,qa⟩:∃ho:Int,ŏ [V.int 0,V.int 1,V.int 2,V.int r8] r9=some (.int ho)/\0<=ho/\ho<8:=by
   have:r9=0\/r9=1\/r9=2\/r9=3:=Z1;rcases this with rfl|rfl|rfl|rfl;.exact⟨0,rfl,by decide,by decide⟩
   .exact⟨1,rfl,by decide,by decide⟩
   .exact⟨2,rfl,by decide,by decide⟩
   .exact⟨r8,rfl,v0,v1⟩
  have gd:=gc.take hU y4 y5 y6;refine⟨p7,_,r9,.int ho,rfl,rfl,É.of (by rw[aq n7];exact aj),TQ,?_⟩;refine aG ?_;dsimp only;refine⟨_,rfl,.inl ⟨rfl,_,É.of gd.e3⟩,?_⟩;refine⟨_,rfl,_,rfl,st,3,rfl,gd.sa,by decide,by decide,λra aa ba c0 c1 c2 c3 c4=>?_⟩;have ge:=gd.take hU c2 c3 c4;refine⟨_,rfl,_,rfl,_,rfl,_,rfl,st,wd,rfl,ge.sa,w1,Z1,λrb ab bb d0 d1 d2 d3 d4=>⟨_,_,rfl,rfl,_,rfl,zL,λl oQ=>?_⟩⟩;have gf:=ge.take hU d2 d3 d4;have gg:=gf.new (o:=.tup [V.int ho,V.int ra,V.int f1,V.int (if f1+r5<19 then f1+r5 else 19),V.int (1+rb),V.int pr]) oQ;have DZ:l≠p3:=λz=>by rw[z,gf.e3]at oQ;cases oQ
  refine⟨p3,xs,.ref l,rfl,rfl,gg.e3,by rw[hl,sizeLine_eq];lia,?_⟩;refine⟨xs++[.ref l],ds++[.tuple [.int ho,.int ra,.int f1,.int (if f1+r5<19 then f1+r5 else 19),.int (1+rb),.int pr]],_,_,_,_,_,rfl,⟨λb' o' e' ne=>?_,?_,aj,?_⟩,?_,by rw[ì,hl];rfl⟩;.have:b'≠p3:=az e' fq;rw[aq this];exact gg.bt b' o' e' ne
  .obtain⟨x,y',e7,k⟩:=gg.sa;exact⟨x,y',by rw[aq hU.symm];exact e7,k⟩
  .refine Å.append (gg.ts.keep (λc l' e'=>?_) (λ_ _ z _=>z.elim) λ_ _ z _=>z.elim) (.cons (.tup (by rw[aq DZ];exact aj) (.cons (.int _) (.cons (.int _) (.cons (.int _) (.cons (.int _) (.cons (.int _) (.cons (.int _) .nil))))))) .nil);have:c≠p3:=λz=>by rw[z,gg.e3]at e';cases e'
   rw[aq this];exact e'
  .refine⟨rs++[[ho,ra,f1,(if f1+r5<19 then f1+r5 else 19),1+rb,pr]],by rw[L8,ë];rfl,by rw[ì,Pp];rfl,λr hr=>?_⟩;rcases ē.mp hr with z|z;.exact L9 r z
   .rw[Ū.mp z];have lb:f1<=(if f1+r5<19 then f1+r5 else 19)/\(if f1+r5<19 then f1+r5 else 19)<=19:=by split<;>lia
    exact⟨rfl,⟨TR,qa⟩,⟨c0,c1⟩,⟨o0,lb.1,lb.2⟩,⟨(by show 1<=1+rb;lia),(by show 1+rb<=99;lia)⟩,TL,TN⟩
 .rintro σ H'⟨xs,ds,x5,x6,x7,x8,x9,rfl,g,⟨rs,L8,Pp,L9⟩,hl⟩;refine⟨_,rfl,p3,xs,rfl,.inl ⟨É.of g.e3,λl oQ=>?_⟩⟩;have g':=g.new (o:=.tup xs) oQ;rw[L8]at g';exact q _ _ ⟨rs,g'.bt,g'.sa,.tup aj (g'.ts.keep (λ_ _ e=>e) (λ_ _ z _=>z.elim) λ_ _ z _=>z.elim),Z1,L9⟩
theorem zH:Ē X (binaryOp .Add) (λx y H Q=>∃a b xs ys,x=.ref a/\y=.ref b/\H a=some (.tup xs)/\H b=some (.tup ys)/\ys≠[]/\xs.length+ys.length<=sizeLine/\∀c H',À H H'->H' c=some (.tup (xs++ys))->Q (.ref c) H'):=by intro Z7 s σ H x y v u Q I rx ry h;obtain⟨a,b,xs,ys,rfl,rfl,ha,hb,hy,hz,q⟩:=h;refine Dp Z7 s σ H _ _ v u Q I rx ry ⟨a,b,xs,ys,rfl,rfl,Ê.of ha,Ê.of hb,hy,hz,λe=>q b H (À.refl H) (by rw[e];exact hb),λ_ p hp=>q p _ (À.upd hp) aj⟩
theorem zJ:SlR X (λx lo hi H Q=>∃a xs,x=.ref a/\H a=some (.tup xs)/\∀c H',À H H'->H' c=some (.tup (ju xs lo hi))->Q (.ref c) H'):=by intro Z7 s σ H x v vl vu lo hi sl Q I rx hs pl pu h;obtain⟨a,xs,rfl,ha,q⟩:=h;refine yG Z7 s σ H _ v vl vu lo hi sl Q I rx hs pl pu ⟨a,xs,rfl,Ê.of ha,λhw=>q a H (À.refl H) ?_,λ_ p hp=>q p _ (À.upd hp) aj⟩;rw[ha];unfold ju;rw[hw.1,hw.2,List.drop_zero,Nat.sub_zero,Ĩ]
theorem Dr.rows(g:Dr st H H')(h0:jm H st)(r:Ã H a xs rs):Ã H' a xs rs:=by obtain⟨x,y,e,_⟩:=h0;exact r.keep λb l e'=>g.bt _ _ e' λz=>by rw[z,e]at e';cases e'
theorem Ca:bootBuiltins "max"=some (.builtin "max"):=by decide+kernel
theorem rE{r:PP}(h:Ã H a xs rs)(et:H t=some (.tup (r.map V.int)))(eb:H b=some (.tup (xs++[V.ref t]))):Ã H b (xs++[V.ref t]) (rs++[r]):=by
 refine⟨eb,by rw[ì,ì,h.l];rfl,λi r' e=>?_⟩;by_cases hi:i<rs.length;.rw[Ϸ hi]at e;rw[Ϸ (by rw[h.l];exact hi)];exact h.g i r' e
 .rw[ϸ Z1]at e;rw[ϸ (by rw[h.l];lia),h.l];cases hj:i-rs.length with|zero=>rw[hj]at e;injection e with e;subst e;exact⟨t,rfl,et⟩;|succ k=>rw[hj]at e;simp at e
def smR(s:PP):Prop:=s.length=5/\∀i∈s,-10<=i/\i<=2000000
inductive ϭ(vs:List V)(H:Hp)(Q:VK):Prop|mk:∀st ap xp ps,(vs=[.ref st,.ref ap])->(jm H st)->(Ã H ap xp ps)->(ps.length<=10)->((∀r∈ps,č r))->(∀t s H',Dr st H H'->H' t=some (.tup (s.map V.int))->smR s->Q (.ref t) H')->ϭ  vs H Q
def J9:Sp:=λvs H Q _=>ϭ  vs H Q
theorem Đ:Á [ċ,Z4,ϛ,AAu,ϡ,"_law_first","_law_last",ϊ,"_law_price",AAz,"_law_buyer",Υ] [ċ,Z4] (aD (top 80)):=ù
theorem Ke(F:Û K ABd ABd (top 80) f fd)(T:Mg mg)(Tm:mg "max"=none)(c1:ã P w K mg base 1 AAt [ċ,AAr] lV):Í P w K mg base Ý 2 f fd [ċ,Z4] J9:=by
 refine F.oq Đ λai A outer s H vs Q E hr h=>?_;obtain⟨st,ap,xp,ps,rfl,eW,rp,lp,okp,q⟩:=h;refine⟨_,aC (ć 2 Đ.nd (aJ c1 hr (aA (pv 0) (aA (aM (qC rfl) rfl Tm Ca (aA aB (aA (aM bu rfl T.len PySem.boot_len (aA (pv 1) ao)) ao))) ao)))) (aC (cO (pX cB (aQ zH (pv 1) (bO (aA (bO (jQ (by repeat constructor))) ao))) (pv 2)) (bC rfl (au (Î 3 Đ.nd) (au (Î 4 Đ.nd) (au (Î 5 Đ.nd) (au (Î 6 Đ.nd) (au (Î 7 Đ.nd) (au (Î 8 Đ.nd) aW)))))))) (aC (ć 9 Đ.nd (pX bV (cP (aA (pv 3) (aA (pv 3) (aA (aJ c1 hr (aA (pv 0) (aA aB ao))) ao)))) (aJ c1 hr (aA (pv 0) (aA aB ao))))) (aC (ć 10 Đ.nd (aQ gQ (aQ bL (aQ bL (pv 9) aB) (aJ c1 hr (aA (pv 0) (aA aB ao)))) aB)) (aC (ć 11 Đ.nd (aQ bL (pv 5) (aJ c1 hr (aA (pv 0) (aA (aQ bL (aQ du (pv 6) (pv 5)) aB) ao))))) (aF (aR (uT (iw (bJ ⟨pv 2⟩ (bJ ⟨pv 9⟩ (bJ ⟨pv 10⟩ (bJ ⟨aQ bL aB (aJ c1 hr (aA (pv 0) (aA (pv 7) ao)))⟩ (bJ ⟨pv 11⟩ cj))))))))))))),?_⟩;have g0:Dr st H H:=⟨Ι.refl,eW⟩;have YS:xp.length<=10:=by rw[rp.l];exact lp
 refine aH (aU ?_);refine⟨_,rfl,_,rfl,ap,xp,rfl,.inr (Ê.of rp.e),_,_,rfl,st,_,rfl,eW,?_,?_,λr1 a1 b1 r0 rn k1 k2 k3=>?_⟩;.split<;>lia
 .split<;>lia
 have g1:=g0.take k1 k2 k3;have kN:=g1.rows eW rp;have YT:r1.toNat<xp.length+1:=by split at rn<;>lia
 generalize upd H st (.lst [.int a1,.int b1])=H1 at g1 kN⊢;refine aG ?_;dsimp only;refine aH ?_;refine⟨_,rfl,zL,λt0 Pq=>⟨zL,λt1 pb=>?_⟩⟩;have g2:=(g1.new (o:=.tup (([0,0,0,3,9,0]:PP).map V.int)) Pq).new (o:=.tup [V.ref t0]) pb;have m2:À H1 (upd (upd H1 t0 (.tup (([0,0,0,3,9,0]:PP).map V.int))) t1 (.tup [V.ref t0])):=(À.upd Pq).updR pb;have F4:=À.upd (o:=.tup [V.ref t0]) pb t0 (.tup (([0,0,0,3,9,0]:PP).map V.int)) aj;have Pr:upd (upd H1 t0 (.tup (([0,0,0,3,9,0]:PP).map V.int))) t1 (.tup [V.ref t0]) t1=some (.tup [V.ref t0]):=aj;generalize upd (upd H1 t0 (.tup (([0,0,0,3,9,0]:PP).map V.int))) t1 (.tup [V.ref t0])=H2 at g2 m2 F4 Pr⊢;refine⟨ap,t1,xp,_,rfl,rfl,m2 _ _ kN.e,Pr,by simp,by rw[sizeLine_eq];show xp.length+1<=_;lia,λc H3 s3 ec=>?_⟩;have g3:=g2.same s3;have F5:=rE ((kN.same m2).same s3) (s3 _ _ F4) ec;have Mb:∀r∈ps++[[0,0,0,3,9,0]],č r:=λr hr=>by
  rcases ē.mp hr with z|z;.exact okp r z
  .rw[Ū.mp z];exact⟨rfl,by decide,by decide,by decide,by decide,by decide⟩
 obtain⟨p,hp,_,op⟩:=fK (n:=r1) Mb r0 (by rw[ì,<-rp.l];show r1<((xp.length+1:Nat):Int);lia);obtain⟨tp,ip,fh⟩:=gP F5 r0 hp;rw[dW op.1]at fh;obtain⟨_,⟨p1,p2⟩,_,⟨p3,p4,p5⟩,⟨p6,p7⟩,_⟩:=id op;refine⟨_,rfl,c,_,r1,.ref tp,rfl,rfl,Ê.of ec,ip,?_⟩;refine⟨tp,_,rfl,Ê.of fh,rfl,_,_,rfl,_,_,rfl,_,_,rfl,_,_,rfl,_,_,rfl,_,_,rfl,rfl,?_⟩;dsimp only;refine aH (aU ?_);refine⟨_,rfl,_,rfl,_,rfl,st,8,rfl,g3.sa,by decide,by decide,λr2 a2 b2 i0 i1 k4 k5 k6=>⟨zL,λl1 dQ=>?_⟩⟩;have g4:=(g3.take k4 k5 k6).new (o:=.lst [V.int (fl p 0),V.int (fl p 0),V.int r2]) dQ;have n4:=(g3.take k4 k5 k6).ne dQ;refine⟨_,rfl,st,3,rfl,g4.sa,by decide,by decide,λr3 a3 b3 i2 i3 k7 k8 k9=>?_⟩;obtain⟨sl,TU,YU,kz⟩:∃sl:Int,ŏ [V.int (fl p 0),V.int (fl p 0),V.int r2] r3=some (.int sl)/\0<=sl/\sl<8:=by
  have:r3=0\/r3=1\/r3=2:=Z1;rcases this with rfl|rfl|rfl;.exact⟨_,rfl,p1,p2⟩
  .exact⟨_,rfl,p1,p2⟩
  .exact⟨_,rfl,i0,i1⟩
 have g5:=g4.take k7 k8 k9;refine⟨l1,_,r3,.int sl,rfl,rfl,É.of (by rw[aq n4];exact aj),TU,?_⟩;refine aG ?_;dsimp only;refine aH (aU ?_);refine⟨_,rfl,_,_,rfl,rfl,_,rfl,st,7,rfl,g5.sa,by decide,by decide,λr4 a4 b4 i4 i5 m1 TV m3=>⟨_,_,rfl,rfl,_,_,rfl,rfl,(by show(0:Int)<8;decide),?_⟩⟩;have g6:=g5.take m1 TV m3;refine aG ?_;dsimp only;refine aH (aU ?_);refine⟨_,rfl,_,rfl,_,rfl,_,rfl,_,_,rfl,rfl,_,_,rfl,rfl,st,_,rfl,g6.sa,Z1,Z1,λr5 a5 b5 i6 i7 m4 m5 m6=>⟨_,_,rfl,rfl,?_⟩⟩;have g7:=g6.take m4 m5 m6;refine aG ?_;dsimp only;refine⟨_,rfl,_,rfl,_,rfl,_,rfl,_,rfl,st,_,rfl,g7.sa,p6,Z1,λr6 a6 b6 i8 i9 m7 m8 m9=>⟨_,_,rfl,rfl,_,rfl,zL,λt ht=>?_⟩⟩;have g8:=g7.take m7 m8 m9;refine q t [r1,sl,(sl+1+r4)%8,1+r6,fl p 2+r5] _ (g8.new ht) aj ⟨rfl,λi hi=>?_⟩;simp only[List.mem_cons,List.not_mem_nil,or_false]at hi;have e8:0<=(sl+1+r4)%8/\(sl+1+r4)%8<8:=⟨Zbh _ Z3,Za7 _ Z3⟩;lia
theorem Ű:Á [ċ,Z4,Š,ϋ,"_law_turn","_law_more"] [ċ,Z4,Š] (aD (top 81)):=ù
theorem Ϥ:Á [ċ,AAo,Š,ŧ,AAq,Z4] [ċ,AAo,Š,ŧ] (aD (top 82)):=ù
theorem pR:∀{a b:PP},a.Pairwise (·<·)->b.Pairwise (·<·)->(∀x,x∈a↔x∈b)->a=b
 |[],[],_,_,_=>rfl|[],y::b,_,_,h=>absurd ((h y).mpr (.head _)) Z2|x::a,[],_,_,h=>absurd ((h x).mp (.head _)) Z2|x::a,y::b,ha,hb,h=>by
  obtain⟨Pt,TX⟩:=List.pairwise_cons.mp ha;obtain⟨kf,iE⟩:=List.pairwise_cons.mp hb;have e:x=y:=by
   rcases Ġ.mp ((h x).mp (.head _))with z|z;.exact z
   .rcases Ġ.mp ((h y).mpr (.head _))with z'|z';.exact z'.symm
    .have:=Pt y z';have:=kf x z;lia
  subst e;rw[pR TX iE λz=>⟨λhz=>?_,λhz=>?_⟩]
  .rcases Ġ.mp ((h z).mp (.tail _ hz))with w|w;.have:=Pt z hz;lia
   .exact w
  .rcases Ġ.mp ((h z).mpr (.tail _ hz))with w|w;.have:=kf z hz;lia
   .exact w
def gJ(p:Key×V):Int:=match p.1 with|.inl h=>h|.inr _=>0
theorem lu:∀{kv:List (Key×V)},Ņ kv->(kv.map λp=>kV p.1)=(kv.map gJ).map V.int/\kv.map (·.1)=(kv.map gJ).map Sum.inl
 |[],_=>⟨rfl,rfl⟩|p::kv,g=>by
  obtain⟨h,e,_⟩:=g p (.head _);obtain⟨i1,i2⟩:=lu λq hq=>g q (.tail _ hq);have ei:gJ p=h:=by unfold gJ;rw[e]
  refine⟨?_,?_⟩;.rw[ě,ě,ě,i1,ei,e];rfl
  .rw[ě,ě,ě,i2,ei,e]
theorem Fg(hm:h∈kv.map gJ)(g:Ņ kv):(cD kv (.inl h)).isSome=true:=by rw[<-fO,List.any_eq_true];obtain⟨p,hp,e⟩:=è.mp hm;obtain⟨h',e',_⟩:=g p hp;refine⟨p,hp,ñ ?_⟩;rw[e',<-e];unfold gJ;rw[e']
theorem HS(hs:(cD kv (.inl h)).isSome=true):h∈kv.map gJ:=by rw[<-fO,List.any_eq_true]at hs;obtain⟨p,hp,e⟩:=hs;have e:=ŋ e;refine è.mpr ⟨p,hp,?_⟩;unfold gJ;rw[e]
theorem Fi{L ns:PP}(hL:L.length=8)(g:Ņ kv)(nd:(kv.map (·.1)).Nodup)(hv:∀h,0<=h->h<8->(cD kv (.inl h)).getD (.int 0)=.int (L.getD h.toNat 0))(pm:ns.Perm (kv.map gJ))(so:ns.Pairwise (·<=·)):(ns.filter λh=>decide (0<L.getD h.toNat 0)).map (λh=>[h,L.getD h.toNat 0])=dZ L 8:=by
 have Mc:(kv.map gJ).Nodup:=by rw[(lu g).2]at nd;exact(List.pairwise_map.mp nd).imp λ{a b}h e=>h (by rw[e])
 have Md:ns.Nodup:=pm.nodup_iff.mpr Mc;have lt:ns.Pairwise (·<·):=(so.and Md).imp λ{a b}h=>by have h1:a<=b:=h.1;have h2:a≠b:=h.2;lia
 have eq:(ns.filter λh=>decide (0<L.getD h.toNat 0))=(((List.range 8).filter λh=>decide (0<L.getD h 0)).map λ(h:Nat)=>(h:Int)):=by
  refine pR (lt.filter _) ?_ λx=>?_;.rw[List.pairwise_map];exact(List.pairwise_lt_range.filter _).imp λ{a b}h=>by lia
  .rw[Ũ,è,pm.mem_iff];constructor
   .rintro⟨h1,h2⟩;obtain⟨p,hp,e⟩:=è.mp h1;obtain⟨h,e',h0,h8⟩:=g p hp;have ex:x=h:=by rw[<-e];unfold gJ;rw[e']
    refine⟨x.toNat,Ũ.mpr ⟨ϕ.mpr Z1,h2⟩,Z1⟩
   .rintro⟨k,hk,rfl⟩;obtain⟨h1,h2⟩:=Ũ.mp hk;have h1:=ϕ.mp h1;have h2:=ŋ h2;refine⟨HS ?_,ñ (by rw[Ľ];exact h2)⟩;have:=hv (k:Int) Z1 Z1;rw[Ľ]at this;cases z:cD kv (.inl (k:Int))with|some v=>rfl;|none=>rw[z]at this;injection this with this;lia
 rw[eq,ħ];unfold dZ;refine Zbf λk _=>?_;show[(k:Int),L.getD ((k:Int)).toNat 0]=_;rw[Ľ]
theorem Fj:∀{l:PP}{a:Int}{k:Nat},l.Pairwise (·<·)->(∀x∈l,a<=x/\x<a+k)->l.length<=k
 |[],_,_,_,_=>Ě _|x::l,a,0,h,g=>by have:=g x (.head _);lia;|x::l,a,k+1,h,g=>by
  obtain⟨h1,h2⟩:=List.pairwise_cons.mp h;have gx:=g x (.head _);have:=Fj (a:=a+1) (k:=k) h2 λy hy=>by have:=g y (.tail _ hy);have:=h1 y hy;lia
  rw[Ī];lia
theorem zK{ns:PP}(g:Ņ kv)(nd:(kv.map (·.1)).Nodup)(pm:ns.Perm (kv.map gJ))(so:ns.Pairwise (·<=·)):ns.length<=8:=by
 have Mc:(kv.map gJ).Nodup:=by rw[(lu g).2]at nd;exact(List.pairwise_map.mp nd).imp λ{a b}h e=>h (by rw[e])
 have Md:ns.Nodup:=pm.nodup_iff.mpr Mc;have lt:ns.Pairwise (·<·):=(so.and Md).imp λ{a b}h=>by have h1:a<=b:=h.1;have h2:a≠b:=h.2;lia
 refine Fj (a:=0) (k:=8) lt λx hx=>?_;obtain⟨p,hp,e⟩:=è.mp (pm.mem_iff.mp hx);obtain⟨h,e',h0,h8⟩:=g p hp;have ex:x=h:=by rw[<-e];unfold gJ;rw[e']
 lia
theorem Fl(g:Ņ kv)(nd:(kv.map (·.1)).Nodup):(kv.map gJ).length<=8:=by
 have pm:=List.mergeSort_perm (kv.map gJ) (λa b=>decide (a<=b));have so:((kv.map gJ).mergeSort λa b=>decide (a<=b)).Pairwise (·<=·):=(List.pairwise_mergeSort (le:=λa b=>decide (a<=b)) (λa b c h1 h2=>by simp only[ă]at*;lia) (λa b=>by simp only[Bool.or_eq_true,ă];lia) _).imp λ{a b}h=>by simpa using h
 rw[<-pm.length_eq];exact zK g nd pm so
def pU(L ns:PP):PK:=(ns.filter λh=>decide (0<L.getD h.toNat 0)).map λh=>[h,L.getD h.toNat 0]
theorem mO(L ns:PP)(x:Int):pU L (ns++[x])=pU L ns++(if 0<L.getD x.toNat 0 then[[x,L.getD x.toNat 0]]else[]):=by
 unfold pU;rw[Zat,ë];congr 1;by_cases h:0<L.getD x.toNat 0;.rw[È h,zBf (p:=λ(h:Int)=>decide (0<L.getD h.toNat 0)) (ñ h)];rfl
 .rw[Æ h,zBe (p:=λ(h:Int)=>decide (0<L.getD h.toNat 0)) (by rw[ă];exact h)];rfl
def rF(ps ss:PK)(n y h:Int):Int:=(bA (ps.getD n.toNat []) ss n y).getD h.toNat 0
inductive ł(vs:List V)(H:Hp)(Q:VK):Prop|mk:∀ap xp ps fo H0 b kvs ss sort year,(vs=[.ref ap,.ref fo,.int sort,.int year])->(Ã H ap xp ps)->(ps.length<=10)->((∀r∈ps,č r))->(ğ fo H0 H (ũ ps) (rF ps ss) b kvs)->(∀l xl H',À H H'->H l=none->H' l=some (.lst xl)->â H' xl ((dB ps ss sort year).map List.tail)->Q (.ref l) H')->ł  vs H Q
def rG:Sp:=λvs H Q _=>ł  vs H Q
theorem Cd(ps ss:PK)(sort year:Int)(i:Nat):((iD ps ss sort year i).map List.tail).length<=8*i:=by rw[Ð];exact lq ps ss sort year i
theorem xW:bootBuiltins "list"=some (.type "list"):=by decide+kernel
theorem Oa:([AAu,ϛ,ABb]:ç).Nodup:=by decide+kernel
theorem ϣ:Á [Z4,ļ,ϡ,Υ,ϋ,ϛ,"_law_promise",ABb] [Z4,ļ,ϡ,Υ] (aD (top 84)):=ù
theorem xX(F:Û K "_law_claims" "_law_claims" (top 84) f fd)(Te:mg "enumerate"=none)(Tl:mg "list"=none)(Ts:mg "sorted"=none):Í P w K mg base Ý 1 f fd [Z4,ļ,ϡ,Υ] rG:=by
 refine F.oq ϣ λai A outer s H vs Q E hr h=>?_;obtain⟨ap,xp,ps,fo,H0,b,kvs,ss,sort,year,rfl,rp,lp,okp,dt,q⟩:=h;refine⟨_,aC (ć 4 ϣ.nd (cP ao)) (aC (bZ ĥ rfl (ZT.pi_enum true rfl Te (aA (pv 0) ao)) (bC rfl (au (bN (i:=5) ϣ.nd rfl (Or.inr rfl)) (au (Î 6 ϣ.nd) aW))) (aC (lB (i:=7) ϣ.nd rfl (Or.inr rfl) (oV (eO hr) (pv 1) (bO (aA (pv 5) (aA (pv 3) ao))) Dm (by constructor<;>rfl))) (aF (cG (bf mz (pX cB (pv 6) aB) (pv 2) (bh _)) (aF (cA (gK ό PySem.F.slot_list_extend PySem.F.type_list_extend An (pv 4) (aA (bI [AAu,ϛ,ABb] [none,some 5,some 7] rfl (di (aM tM rfl Ts Þ (aA (bB (pG rfl) rfl Tl xW (aA (pv 7) ao)) ao))) (λC fp Z7 s₂ Ï=>⟨Î 0 Oa,fD (bf mD (fG (eO hr) (pv 2) (pv 0) (λ_ _=>rfl)) aB (bh _)),bO (aA (pv 1) (aA (pv 0) (aA (fG (eO hr) (pv 2) (pv 0) (λ_ _=>rfl)) ao)))⟩) (λC=>cI (cI trivial)) ⟨rfl,rfl,rfl,rfl⟩) ao)))) bj)))) (aF (aR (pv 4)))),?_⟩;refine aX λc_ av=>?_;refine aU ?_;refine⟨zL,λl hl=>?_⟩;refine aG ?_;refine av _ _ ?_;clear av c_;try dsimp only
 refine aH ?_;have s0:=À.upd (o:=.lst []) hl;refine⟨_,rfl,ap,xp,rfl,Ê.of (s0 _ _ rp.e),?_⟩;refine ZT.for_enum true (xs:=xp) (λi σ Hc=>∃x5 x6 x7 xl,σ=[some (.ref ap),some (.ref fo),some (.int sort),some (.int year),some (.ref l),x5,x6,x7]/\(∀b o,H b=some o->Hc b=some o)/\Hc l=some (.lst xl)/\â Hc xl ((iD ps ss sort year i).map List.tail)) ?_ ?_ ?_ ?_;.exact⟨none,none,none,[],rfl,λb o e=>s0 _ _ e,aj,â.nil⟩
 .rintro i σ Hc hi⟨x5,x6,x7,xl,rfl,k,el,ht⟩;exact Ê.of (k _ _ rp.e)
 .rintro i x σ Hc T0 hx⟨x5,x6,x7,xl,rfl,k,el,ht⟩nT;have hi:i<ps.length:=by have:=(ĩ.mp hx).1;rw[rp.l]at this;exact this
  obtain⟨tr,fE,ff⟩:=rp.g i ps[i] (Ö hi);have:x=.ref tr:=by rw[hx]at fE;exact ŉ fE
  subst this;have op:=okp ps[i] (Č hi);have ep:ps.getD i []=ps[i]:=Ú hi;rw[dW op.1]at ff;have sT:=À.upd (o:=.tup [V.int i,V.ref tr]) nT;have kT:À H (upd Hc T0 (.tup [V.int i,V.ref tr])):=λb o e=>sT _ _ (k _ _ e);have AQ:=sT _ _ el;have AR:=ht.same sT;have eT:=aj (H:=Hc) (a:=T0) (o:=.tup [V.int i,V.ref tr]);generalize upd Hc T0 (.tup [V.int i,V.ref tr])=H1 at kT AQ AR eT⊢;refine⟨T0,_,rfl,Ê.of eT,rfl,_,_,rfl,_,_,rfl,rfl,?_⟩;dsimp only;have pd:=dt.same kT;refine aX λc_ av=>?_;refine aU ?_;refine⟨_,rfl,fo,rfl,.inr ⟨kvs,.inl pd.e⟩,_,rfl,_,rfl,zL,λkk hk=>?_⟩;have s8:=À.upd (o:=.tup [.int i,.int year]) hk;refine λz Pu nz=>?_;have s9:=s8.updR (o:=.dK []) Pu;have Pw:=À.upd (o:=.dK []) Pu _ _ (aj (H:=H1) (a:=kk) (o:=.tup [.int i,.int year]));refine⟨_,Ć.t (k:=ky i year) (s9 _ _ pd.e) Pw,?_⟩;have row:∃dr kv,(cD kvs (ky i year)).getD (.ref z)=.ref dr/\upd (upd H1 kk (.tup [.int i,.int year])) z (.dK []) dr=some (.dK kv)/\Ņ kv/\∀h,0<=h->h<8->(cD kv (.inl h)).getD (.int 0)=.int ((bA ps[i] ss i year).getD h.toNat 0):=by
   by_cases hd:ũ ps i year;.obtain⟨dr,kv,q1,q2,q3,q4⟩:=pd.g i year hd;refine⟨dr,kv,by rw[q1];rfl,s9 _ _ q2,q3.2,λh h0 h8=>?_⟩;have:=q4 h h0 h8;unfold rF at this;rw[Ľ,ep]at this;exact this
   .refine⟨z,[],by rw[pd.no i year hd];rfl,aj,λp hp=>absurd hp Z2,λh h0 h8=>?_⟩;have:¬(fl ps[i] 2<=year/\year<=fl ps[i] 3):=λw=>hd ⟨Z1,Z1,by rw[Ľ,ep];exact w.1,by rw[Ľ,ep];exact w.2⟩;unfold bA;rw[Æ this,Ğ,Zbk,È Z1];rfl
  obtain⟨dr,kv,er,uk,ks,hv⟩:=row;have Px:(cD kvs (ky i year)).getD (.ref z)=.ref dr:=er;rw[Px];refine aG ?_;refine av _ _ ?_;clear av c_;try dsimp only
  refine eV (λH9=>À H1 H9/\H9 dr=some (.dK kv)) ⟨s9,uk⟩ λH9=>?_;rintro⟨s9,uk⟩;clear pd Pw er Px s8;have k9:=kT.trans s9;have Me:=s9 _ _ AQ;have Py:=AR.same s9;have FV:=fB ps[i] ss i year;have ua:(iI ps ss sort year i).map List.tail=if fl ps[i] 1=sort then(dZ (bA ps[i] ss i year) 8).map (λr=>(i:Int)::r)else[]:=by
   unfold iI;rw[ep];split;.rw[ħ];rfl
   .rfl
  have Pz:(iD ps ss sort year (i+1)).map List.tail=(iD ps ss sort year i).map List.tail++(iI ps ss sort year i).map List.tail:=by show(iD ps ss sort year i++iI ps ss sort year i).map List.tail=_;rw[ë]
  rw[Pz,ua];clear Pz ua;generalize bA ps[i] ss i year=L at hv FV⊢;refine⟨_,rfl,tr,_,1,.int (fl ps[i] 1),rfl,rfl,Ê.of (k9 _ _ ff),rfl,_,rfl,rfl,_,rfl,?_⟩;by_cases hs:fl ps[i] 1=sort
  .rw[ñ (by rw[hs])];refine cg ?_;rw[È hs];refine⟨_,rfl,.inl ⟨rfl,_,É.of Me⟩,?_⟩;refine⟨_,rfl,dr,kv,rfl,uk,λnd l2 eC=>?_⟩;rw[(lu ks).1];refine⟨l2,kv.map gJ,rfl,É.of aj,(by have:=Fl ks nd;lia),λq' ns Ll pm so=>?_⟩;have EI:=(À.upd (o:=.lst ((kv.map gJ).map V.int)) eC).updR (o:=.lst (ns.map V.int)) Ll;have EJ:=EI _ _ uk;have rX:=aj (H:=upd H9 l2 (.lst ((kv.map gJ).map V.int))) (a:=q') (o:=.lst (ns.map V.int));generalize upd (upd H9 l2 (.lst ((kv.map gJ).map V.int))) q' (.lst (ns.map V.int))=HA at EI EJ rX⊢;have ln:=zK ks nd pm so;have fin:pU L ns=dZ L 8:=Fi FV ks nd hv pm so;rw[<-fin];have vh:∀h∈ns,cD kv (.inl h)=some (.int (L.getD h.toNat 0)):=λh hh=>by
    obtain⟨p,hp,e⟩:=è.mp (pm.mem_iff.mp hh);obtain⟨h',e',h0,h8⟩:=ks p hp;have ex:h=h':=by rw[<-e];unfold gJ;rw[e']
    have vs:=Fg (pm.mem_iff.mp hh) ks;have:=hv h Z1 Z1;cases z:cD kv (.inl h)with|none=>rw[z]at vs;cases vs;|some v=>rw[z]at this;exact congrArg some this
   have kA:=k9.trans EI;have PB:=EI _ _ Me;have TY:=Py.same EI;refine⟨q',rfl,⟨_,É.of rX⟩,dR ns.length (λj ys σ Hc=>À HA Hc/\(∃o1,σ=[o1,some (.int i),some (.ref dr)])/\â Hc ys ((pU L (ns.take j)).map (λr=>(i:Int)::r))) ⟨À.refl _,⟨_,rfl⟩,â.nil⟩ Z6 ?_ ?_⟩
   .rintro j ys σ Hj hj hy⟨sc,⟨o1,rfl⟩,kK⟩;have ko:É K Hj q' (ns.map V.int):=É.of (sc _ _ rX);have hx:(ns.map V.int)[j]?=some (.int ns[j]):=by rw[ý,Ö hj];rfl
    have bX:ns.take (j+1)=ns.take j++[ns[j]]:=by rw[Ĝ,Ö hj];rfl
    have vk:=vh ns[j] (Č hj);have PD:=sc _ _ EJ;refine⟨⟨_,_,ko,hx⟩,λx H' yv R hR=>?_⟩;obtain⟨rfl,yv⟩:=yv;have yv:=yv _ ko;rw[hx]at yv;cases yv;refine aG ?_;refine⟨_,rfl,_,rfl,dr,_,rfl,by rw[<-vk];exact Ć.k (k:=.inl ns[j]) PD,_,_,rfl,rfl,_,rfl,?_⟩;by_cases aS:0<L.getD (ns[j]).toNat 0;.rw[ñ aS];refine cg ⟨_,rfl,_,rfl,_,rfl,_,rfl,dr,_,rfl,by rw[<-vk];exact Ć.k (k:=.inl ns[j]) PD,zL,λt ij=>hR _ _ _ (by rw[ì];show ys.length+1<=j+1;lia) ⟨sc.updR ij,⟨_,rfl⟩,?_⟩⟩;rw[bX,mO,È aS,ë];exact(kK.same (À.upd ij)).app (â.one aj)
    .rw[Ŋ aS];refine bH (hR _ _ _ Z1 ⟨sc,⟨_,rfl⟩,?_⟩);rw[bX,mO,Æ aS,Į];exact kK
   .rintro ys σ Hj hy⟨sc,_,kK⟩;rw[Ĩ]at kK;refine⟨⟨_,É.of (sc _ _ rX),by rw[Ð];exact Ø _⟩,λD hD=>?_⟩;have sD:=sc.updR (o:=.lst ys) hD;have ll:=Cd ps ss sort year i;have:=ht.1;refine⟨l,D,xl,ys,rfl,rfl,sD _ _ PB,aj,by rw[sizeLine_eq];lia,?_⟩;refine⟨_,_,_,xl++ys,rfl,λb o e=>?_,aj,?_⟩;.rw[aq (az e hl)];exact sD _ _ (kA _ _ e)
    .refine((TY.same sD).app (kK.same (À.upd (o:=.lst ys) hD))).keep λb z e=>?_;rw[aq λw=>by rw[w,sD _ _ PB]at e;cases e];exact e
  .rw[Ŋ (λz=>hs (by injection z))];refine bH ?_;rw[Æ hs,Į];exact⟨_,_,_,xl,rfl,λb o e=>k9 _ _ e,Me,Py⟩
 .rintro σ Hc⟨x5,x6,x7,xl,rfl,k,el,ht⟩;rw[show xp.length=ps.length from rp.l]at ht;exact⟨_,rfl,q l xl Hc (λb o e=>k b o e) hl el ht⟩
theorem ĭ.same(h:ĭ H d M)(s:À H H'):ĭ H' d M:=by obtain⟨Mo,e,pm⟩:=h;exact⟨Mo,s _ _ e,pm⟩
theorem ĭ.pm{M M':PK}(h:ĭ H d M)(p:M.Perm M'):ĭ H d M':=by obtain⟨Mo,e,pm⟩:=h;exact⟨Mo,e,pm.trans p⟩
theorem Ã.but(h:Ã H a xs rs)(k:∀b o,b≠lk->H b=some o->H' b=some o)(el:H lk=some (.dT MA)):Ã H' a xs rs:=by have tp:∀b z,H b=some (.tup z)->H' b=some (.tup z):=λb z e=>k b _ (λw=>by rw[w,el]at e;cases e) e;exact⟨tp _ _ h.e,h.l,λi r e=>by obtain⟨t,e1,e2⟩:=h.g i r e;exact⟨t,e1,tp _ _ e2⟩⟩
structure Wd(H Hc:Hp)(lk lg ll:Addr)(xg:List V)(G:PK)(L:PP)(M:PK):Prop where
 k:∀b o,b≠lk->H b=some o->Hc b=some o
 eg:Hc lg=some (.lst xg)elg:â Hc xg G
 el:Hc ll=some (.lst (L.map V.int))lka:ĭ Hc lk M
 nk:lg≠lk
 nl:ll≠lk
 ng:lg≠ll
 fg:H lg=none
 fl:H ll=none
section
theorem Wd.same(d:Wd H Hc lk lg ll xg G L M)(s:À Hc Hd):Wd H Hd lk lg ll xg G L M:=⟨λb o n e=>s _ _ (d.k b o n e),s _ _ d.eg,d.elg.same s,s _ _ d.el,d.lka.same s,d.nk,d.nl,d.ng,d.fg,d.fl⟩
theorem Wd.gone{r:PP}(d:Wd H Hc lk lg ll xg G L M)(et:Hc t=some (.tup (r.map V.int))):Wd H (upd Hc lg (.lst (xg++[.ref t]))) lk lg ll (xg++[.ref t]) (G++[r]) L M:=by
 have tp:∀b z,Hc b=some (.tup z)->upd Hc lg (.lst (xg++[.ref t])) b=some (.tup z):=λb z e=>by rw[aq λw=>by rw[w,d.eg]at e;cases e];exact e
 obtain⟨kvs,e,pm⟩:=d.lka;exact⟨λb o n e=>by rw[aq (az e d.fg)];exact d.k b o n e,aj,(d.elg.app (â.one et)).keep tp,by rw[aq d.ng.symm];exact d.el,⟨kvs,by rw[aq d.nk.symm];exact e,pm⟩,d.nk,d.nl,d.ng,d.fg,d.fl⟩
theorem Wd.put{M' AU:PK}(d:Wd H Hc lk lg ll xg G L M)(pm:AU.Perm M'):Wd H (upd Hc lk (.dT (AU.map ó))) lk lg ll xg G L M':=by obtain⟨kvs,e,_⟩:=d.lka;exact⟨λb o n e=>by rw[aq n];exact d.k b o n e,by rw[aq d.nk];exact d.eg,d.elg.keep λb z e'=>by rw[aq λw=>by rw[w,e]at e';cases e'];exact e',by rw[aq d.nl];exact d.el,⟨AU,aj,pm⟩,d.nk,d.nl,d.ng,d.fg,d.fl⟩
theorem Wd.down(d:Wd H Hc lk lg ll xg G L M):Wd H (upd Hc ll (.lst ((L++[x]).map V.int))) lk lg ll xg G (L++[x]) M:=by obtain⟨kvs,e,pm⟩:=d.lka;exact⟨λb o n e=>by rw[aq (az e d.fl)];exact d.k b o n e,by rw[aq d.ng];exact d.eg,d.elg.keep λb z e'=>by rw[aq λw=>by rw[w,d.el]at e';cases e'];exact e',aj,⟨kvs,by rw[aq d.nl.symm];exact e,pm⟩,d.nk,d.nl,d.ng,d.fg,d.fl⟩
end
theorem Wd.oth(d:Wd H Hc lk lg ll xg G L M)(e:Hc a=some (.dT kv))(n1:a≠lg)(n2:a≠ll)(n3:a≠lk)(n0:H a=none):Wd H (upd Hc a o) lk lg ll xg G L M:=by obtain⟨kvs,e1,pm⟩:=d.lka;exact⟨λb o n e=>by rw[aq (az e n0)];exact d.k b o n e,by rw[aq n1.symm];exact d.eg,d.elg.keep λb z e'=>by rw[aq λw=>by rw[w,e]at e';cases e'];exact e',by rw[aq n2.symm];exact d.el,⟨kvs,by rw[aq n3.symm];exact e1,pm⟩,d.nk,d.nl,d.ng,d.fg,d.fl⟩
theorem ğ.but{f:Int->Int->Int->Int}(g:ğ fo H0 H dm f b kvs)(k:∀b o,b≠lk->H b=some o->H' b=some o)(nf:fo≠lk)(n0:H0 lk=none)(el:H lk=some (.dT MA)):ğ fo H0 H' dm f b kvs:=by
 have nd:∀n y d,cD kvs (ky n y)=some (.ref d)->d≠lk:=λn y d h z=>by
  by_cases hd:dm n y;.obtain⟨d',kv,e1,e2,_⟩:=g.g n y hd;rw[h]at e1;cases e1;rw[z,el]at e2;cases e2
  .rw[g.no n y hd]at h;cases h
 exact⟨λb o e=>k _ _ (az e n0) (g.sm _ _ e),g.nf,k _ _ nf g.e,λn y h=>by obtain⟨d,kv,e1,e2,r⟩:=g.g n y h;exact⟨d,kv,e1,k _ _ (nd n y d e1) e2,r⟩,g.no,g.i,λn y d h=>by obtain⟨e1,e2,o',e3⟩:=g.fr n y d h;exact⟨e1,e2,o',k _ _ (nd n y d h) e3⟩⟩
theorem Ja{α β:Type}{f:α->β}:∀{L:List β}{T:List α},L.Perm (T.map f)->∃S:List α,S.Perm T/\L=S.map f|[],T,h=>⟨T,.refl _,(List.map_eq_nil_iff.mpr (List.map_eq_nil_iff.mp h.nil_eq.symm)).symm⟩|x::L,T,h=>by obtain⟨t,ht,rfl⟩:=è.mp (h.mem_iff.mp (.head _));obtain⟨A,B,rfl⟩:=List.append_of_mem ht;have e:((A++t::B).map f).Perm (f t::(A++B).map f):=(List.perm_middle (a:=t) (l₁:=A) (l₂:=B)).map f;obtain⟨S,p,rfl⟩:=Ja (h.trans e).cons_inv;exact⟨t::S,(p.cons t).trans List.perm_middle.symm,rfl⟩
theorem qy{S:PK}{w:Int}(hj:j<S.length):(S.take (j+1)).zip (bw w (S.take (j+1)))=(S.take j).zip (bw w (S.take j))++[(S[j],if w-(bw w (S.take j)).sum<fl S[j] 3 then w-(bw w (S.take j)).sum else fl S[j] 3)]:=by rw[Ĝ,Ö hj,show(some S[j]).toList=[S[j]]from rfl,gF,List.zip_append (by rw[gq])];rfl
theorem Fo(a b:Int):(if b<a then b else a)=if a<b then a else b:=by split<;>split<;>lia
inductive Ź(vs:List V)(H:Hp)(Q:VK):Prop|mk:∀ap xp ps fo H0 b kvs lk M,∀y:Nat,∀tc cs ss,(vs=[.ref ap,.ref fo,.ref lk,.int y,.ref tc])->(Ã H ap xp ps)->(ps.length<=10)->((∀r∈ps,č r))->(ğ fo H0 H (ũ ps) (rF ps ss) b kvs)->(fo≠lk)->(H0 lk=none)->(ĭ H lk M)->(Lk cs ps ss y M)->(y<100)->(H tc=some (.tup ((cs.getD y []).map V.int)))->((cs.getD y []).length=3)->((∀x∈cs.getD y [],0<=x))->(un ps ss=none)->((∀s∈ss,s.length=5))->(∀t g tl M' H',(∀b o,b≠lk->H b=some o->H' b=some o)->H' t=some (.tup [.ref g,.ref tl])->ĭ H' lk M'->Lk cs ps ss (y+1) M'->Q (.ref t) H')->Ź  vs H Q
def zM:Sp:=λvs H Q _=>Ź  vs H Q
theorem Ce:bootBuiltins "min"=some (.builtin "min"):=by decide+kernel
theorem Ob:(["_law_claim"]:ç).Nodup:=by decide+kernel
theorem Oc:([ABb]:ç).Nodup:=by decide+kernel
theorem Od:([Τ,Z4,ϡ]:ç).Nodup:=by decide+kernel
theorem ĕ:Á [Z4,ļ,AAp,Υ,AAx,"_law_gone","_law_down","_law_have",ϡ,"_law_some","_law_wanted","_law_shares","_law_fresh",ϛ,AAu,ϊ,"_law_share",Τ,"_law_made"] [Z4,ļ,AAp,Υ,AAx] (aD (top 85)):=ù
theorem Fp(F:Û K "_law_year" "_law_year" (top 85) f fd)(T:Mg mg)(Tr:mg "range"=none)(Tz:mg "zip"=none)(To:mg "sorted"=none)(Tn:mg "min"=none)(Ts:mg "sum"=none)(c1:ã P w K mg base 1 "_law_claims" [Z4,ļ,ϡ,Υ] rG)(c2:ã P w K mg base 1 "_law_parted" [ϊ,AAw] K52P.spLParts):Í P w K mg base Ý 2 f fd [Z4,ļ,AAp,Υ,AAx] zM:=by
 refine F.oq ĕ λai A outer s H vs Q E hr h=>?_;obtain⟨ap,xp,ps,fo,H0,b,kvs,lk,M,y,tc,cs,ss,rfl,rp,lp,okp,dt,nf,n0,la,F6,YV,rL,lc,hc,hu,h5,q⟩:=h;refine K52P.ok_b (aN ⟨GC (i:=5) (j:=6) (k:=7) rfl ĕ.nd rfl rfl rfl Z3 Z3 Z3 rfl rfl rfl (aA (cP ao) (aA (cP ao) (aA aB ao))) rfl⟩ (aN ⟨bZ ĥ rfl (d7 rfl Tr (aA aB ao)) (bN (i:=8) ĕ.nd rfl (Or.inr rfl)) (jR (aN (fQ 7 ĕ.nd (jT bL ⟨pv 7⟩ (qP cB ⟨pv 4⟩ ⟨pv 8⟩ (λ_ _=>rfl)))) (aN (fQ 9 ĕ.nd ⟨aJ c1 hr (aA (pv 0) (aA (pv 1) (aA (pv 8) (aA (pv 3) ao))))⟩) (aN ⟨gM (i:=10) ["_law_claim"] [none] rfl ĕ.nd rfl (Or.inl rfl) (di (pv 9)) (λC fp Z7 s₂ Ï=>⟨Î 0 Ob,bR,pX (K52P.ix_tupK (K:=K) rfl) (pv 0) aB⟩) (λC=>trivial) ⟨rfl,rfl,rfl,rfl⟩⟩ (aN (fQ 11 ĕ.nd ⟨oh (bf bT (aM (cX rfl) rfl Ts à (aA (pv 10) ao)) (pv 7) (bh _)) (pv 10) (aJ c2 hr (aA (pv 7) (aA (pv 10) ao)))⟩) (aN (fQ 12 ĕ.nd ⟨oR⟩) (aN ⟨bZ ĥ rfl (ZT.pi_zip false false rfl Tz (aA (pv 9) (aA (pv 11) ao))) (bC rfl (au (bC rfl (au (Î 13 ĕ.nd) (au (Î 14 ĕ.nd) (au (Î 15 ĕ.nd) aW)))) (au (Î 16 ĕ.nd) aW))) (jR (aN ⟨cA (gK ό Ϲ Ϻ d9 (pv 5) (aA (bO (aA (pv 3) (aA (pv 13) (aA (pv 14) (aA (pv 16) ao))))) ao))⟩ (bW ⟨nA (eO hr) (pv 12) (bO (aA (pv 3) (aA (pv 13) (aA (pv 14) ao)))) (aQ du (pv 15) (pv 16)) rfl⟩)))⟩ (aN (fQ 7 ĕ.nd (jT du ⟨pv 7⟩ ⟨aM (cX rfl) rfl Ts à (aA (pv 11) ao)⟩)) (aN ⟨bZ ĥ rfl (di (aM iz rfl To Þ (aA (xu (bI [Τ,Z4,ϡ] [none,some 0,some 8] rfl (tL (pv 2)) (λC fp Z7 s₂ Ï=>⟨Î 0 Od,fD (bf mz (pX (K52P.ix_tupK (K:=K) rfl) (pX (K52P.ix_tupK (K:=K) rfl) (pv 1) (pX (K52P.ix_tupK (K:=K) rfl) (pv 0) aB)) aB) (pv 2) (bh _)),pv 0⟩) (λC=>cI (cI trivial)) ⟨rfl,rfl,rfl,rfl⟩)) ao))) (Î 17 ĕ.nd) (jR (aN (fQ 18 ĕ.nd ⟨aM (gW rfl) rfl Tn Ce (aA (pv 7) (aA (fG (eO hr) (pv 2) (pv 17) (λ_ _=>rfl)) ao))⟩) (aN ⟨cA (gK ό Ϲ Ϻ d9 (pv 5) (aA (aQ yu (pv 17) (bO (aA (pv 18) ao))) ao))⟩ (bW ⟨cO (bO (aA (aQ du (fG (eO hr) (pv 2) (pv 17) (λ_ _=>rfl)) (pv 18)) (aA (aQ du (pv 7) (pv 18)) ao))) (bC rfl (au (oA (pv 2) (pv 17) (Ϣ (eO hr))) (au (Î 7 ĕ.nd) aW)))⟩))))⟩ (aN ⟨cA (gK PySem.F.plainAttrs_dict PySem.F.slot_dict_update PySem.F.type_dict_update (JQ (eO hr)) (pv 2) (aA (pv 12) ao))⟩ (bW ⟨cA (gK ό Ϲ Ϻ d9 (pv 6) (aA (pv 7) ao))⟩)))))))))))⟩ (bW (fZ (iw (bJ ⟨aM fJ rfl To Þ (aA (bI [ABb] [none] rfl (di (pv 5)) (λC fp Z7 s₂ Ï=>⟨Î 0 Oc,fD (bf mD (pX (K52P.ix_tupK (K:=K) rfl) (pv 0) aB) aB (bh _)),pv 0⟩) (λC=>trivial) ⟨rfl,rfl,rfl,rfl⟩) ao)⟩ (bJ ⟨bB bF rfl T.tuple Ó (aA (pv 6) ao)⟩ cj))))))) ?_;obtain⟨YW,A0,YX⟩:=id la;have g0:=F6.start (xD (cs.getD y []) ps ss (oS cs ps ss y) y);have nx:∀{M' G':PK},Stg ps (xD (cs.getD y []) ps ss (oS cs ps ss y) y) (oS cs ps ss y) y 3 M' G'->Lk cs ps ss (y+1) M':=λg=>g.next;have hX:∀s:Nat,xD (cs.getD y []) ps ss (oS cs ps ss y) y s=aP (dB ps ss s y)+oS cs ps ss y s-(cs.getD y []).getD s 0:=λ_=>rfl;generalize xD (cs.getD y []) ps ss (oS cs ps ss y) y=X at g0 nx hX;generalize oS cs ps ss y=os at g0 nx hX;generalize cs.getD y []=c at rL lc hc hX;have TZ:tc≠lk:=λz=>by rw[z,A0]at rL;cases rL
 refine aX λc_ av=>?_;refine⟨zL,λlg ui=>⟨zL,λll fR=>⟨_,_,_,rfl,?_⟩⟩⟩;refine av _ _ ?_;clear av c_;try dsimp only
 have W0:Wd H (upd (upd H lg (.lst [])) ll (.lst [])) lk lg ll [] [] [] M:=by have s1:=À.upd (o:=.lst []) ui;have s2:=À.upd (o:=.lst []) fR;exact⟨λb o n e=>s2 _ _ (s1 _ _ e),s2 _ _ aj,â.nil,aj,la.same (s1.trans s2),(az A0 ui).symm,(az A0 (s1.free fR)).symm,(λz=>by rw[<-z,aj]at fR;cases fR),ui,s1.free fR⟩
 refine eV (λH1=>Wd H H1 lk lg ll [] [] [] M) W0 λH1 W0=>?_;clear ui fR;refine aH ?_;refine⟨3,rfl,by decide,by decide,?_⟩;refine cU (lo:=0) (λi σ Hc=>∃x8 x9 lP lh kH fx fy fA mS mT nh xg G L Mi,σ=[some (.ref ap),some (.ref fo),some (.ref lk),some (.int y),some (.ref tc),some (.ref lg),some (.ref ll),some (.int (dn X i)),x8,x9,lP,lh,kH,fx,fy,fA,mS,mT,nh]/\Wd H Hc lk lg ll xg G L Mi/\L.length=i/\Stg ps X os y i Mi G) ?_ ?_ ?_;.exact⟨none,none,none,none,none,none,none,none,none,none,none,[],[],[],M,rfl,W0,rfl,g0⟩
 .rintro i σ Hc hi⟨x8,x9,lP,lh,kH,fx,fy,fA,mS,mT,nh,xg,G,L,Mi,rfl,W,lL,g⟩;have hi:i<3:=hi;have LP:(c.map V.int)[i]?=some (.int (c.getD i 0)):=by have dS:i<c.length:=Z1;rw[ý,Ğ,Ö dS];rfl
  have uu:=Mw (n:=i) (y:=y) hu h5 okp lp;have nn:=J7 X i;have T2:=hX i;obtain⟨w1,ew⟩:∃w1,w1=c.getD i 0+dn X i:=⟨_,rfl⟩;obtain⟨cl,ua⟩:∃cl,cl=dB ps ss i y:=⟨_,rfl⟩;have MB:0<=w1:=by have:=ue hc i;lia
  rw[<-ua]at uu T2;have dA:=λr hr=>(uu.ok r hr).1;have T3:=uu.len;refine aG ?_;have z0:(0:Int)+(i:Int)=i:=Z1;rw[z0];refine Ej λDe FX=>?_;refine aX λc_ av=>?_;refine aU ?_;refine⟨_,rfl,_,rfl,_,rfl,tc,_,i,.int (c.getD i 0),rfl,rfl,Ê.of (W.k _ _ TZ rL),dU LP,_,_,rfl,rfl,?_⟩;refine aG ?_;refine av _ _ ?_;clear av c_;try dsimp only
  rw[Int.add_comm,<-ew];refine aX λc_ av=>?_;refine aU ?_;refine⟨_,rfl,_,rfl,_,rfl,_,rfl,ap,xp,ps,fo,H0,b,kvs,ss,i,y,rfl,rp.but W.k A0,lp,okp,dt.but W.k nf n0 A0,λnr A1 H2 s2 F9 A2 nB=>?_⟩;refine aG ?_;refine av _ _ ?_;clear av c_;try dsimp only
  rw[<-ua]at nB;have W2:=W.same s2;have T4:nr≠lg/\nr≠ll/\nr≠lk:=⟨(az W.eg F9).symm,(az W.el F9).symm,by obtain⟨Mo,e,_⟩:=W.lka;exact(az e F9).symm⟩;clear s2 F9;refine aX λc_ av=>?_;refine⟨_,rfl,nr,rfl,⟨_,É.of A2⟩,cY cl.length (λj ys σ Hj=>À H2 Hj/\(∃o1,σ=[o1])/\ys=(ü (cl.take j)).map V.int) ⟨À.refl _,⟨_,rfl⟩,rfl⟩ Z6 ?_ ?_⟩
  .rintro j ys σ Hj hj hy⟨sj,⟨o1,rfl⟩,rfl⟩;obtain⟨t,ex,et⟩:=nB.2 j cl[j].tail (by rw[ý,Ö hj];rfl);have e4:=(dA _ (Č hj)).l;have MC:cl[j].tail=[fl cl[j] 1,fl cl[j] 2,fl cl[j] 3]:=by
    conv=>lhs;rw[eU e4]
    rfl
   rw[MC]at et;refine⟨⟨_,_,É.of (sj _ _ A2),ex⟩,λv H' y' R hR=>?_⟩;obtain⟨rfl,y'⟩:=y';have hv:=y' _ (É.of (sj _ _ A2));rw[ex]at hv;cases hv;refine aG ?_;refine⟨_,rfl,t,_,2,.int (fl cl[j] 3),rfl,rfl,Ê.of (sj _ _ et),rfl,hR _ _ _ ⟨sj,⟨_,rfl⟩,?_⟩⟩;unfold ü;rw[Ĝ,Ö hj,ë,ë];rfl
  rintro ys σ Hj hy⟨sj,_,rfl⟩;rw[Ĩ];refine⟨⟨_,É.of (sj _ _ A2),by rw[nB.1,Ð];exact Ø _⟩,λlw A3=>?_⟩;have W3:=(W2.same sj).same (À.upd (o:=.lst ((ü cl).map V.int)) A3);have s3:=sj.updR (o:=.lst ((ü cl).map V.int)) A3;have GA:=aj (H:=Hj) (a:=lw) (o:=.lst ((ü cl).map V.int));have ze:=s3 _ _ A2;have nE:=nB.same s3;have T5:lw≠lg/\lw≠ll/\lw≠lk:=⟨(az (sj _ _ W2.eg) A3).symm,(az (sj _ _ W2.el) A3).symm,by obtain⟨Mo,e,_⟩:=W2.lka;exact(az (sj _ _ e) A3).symm⟩;generalize upd Hj lw (.lst ((ü cl).map V.int))=H3 at W3 GA ze nE⊢;clear A3 sj s3 A2 nB W2 W;refine av _ _ ?_;clear av c_;try dsimp only
  refine aX λcc E4=>?_;have rest:∀(sh:PP)Ϧ H4,Ń w1 cl sh->Wd H H4 lk lg ll xg G L Mi->H4 nr=some (.lst A1)->â H4 A1 (cl.map List.tail)->H4 Ϧ=some (.lst (sh.map V.int))->(Ϧ≠lg/\Ϧ≠ll/\Ϧ≠lk)->cc [some (.ref ap),some (.ref fo),some (.ref lk),some (.int y),some (.ref tc),some (.ref lg),some (.ref ll),some (.int w1),some (.int i),some (.ref nr),some (.ref lw),some (.ref Ϧ),kH,fx,fy,fA,mS,mT,nh] H4:=by
   intro sh lsa H4 Η W4 zh uS zi T6;have AS:=Η.len;have jI:0<=w1-sh.sum:=by have:=Η.sum;lia
   refine E4 _ _ ?_;refine aX λc_ av=>?_;refine aU ?_;refine λlf se=>?_;refine aG ?_;refine av _ _ ?_;clear av c_;try dsimp only
   have s5:=À.upd (o:=.dT []) se;have W5:=W4.same s5;have PF:=aj (H:=H4) (a:=lf) (o:=.dT []);have zl:=s5 _ _ zh;have nK:=uS.same s5;have nN:=s5 _ _ zi;have pe:lf≠lg/\lf≠ll/\lf≠lk/\lf≠nr/\lf≠lsa:=⟨(az W4.eg se).symm,(az W4.el se).symm,(by obtain⟨Mo,e,_⟩:=W4.lka;exact(az e se).symm),(az zh se).symm,(az zi se).symm⟩;have T7:H lf=none:=by cases z:H lf with|none=>rfl;|some o=>rw[W4.k _ _ pe.2.2.1 z]at se;cases se
   generalize upd H4 lf (.dT [])=H5 at W5 PF zl nK nN⊢;clear s5 W4 se zh uS zi;have gl:=g.glen;have PH:A1.length=cl.length:=by rw[nK.1,Ð]
   refine aX λc_ av=>?_;refine⟨_,rfl,_,rfl,nr,lsa,_,_,rfl,É.of zl,É.of nN,?_⟩;refine ZT.for_zip (t1:=false) (t2:=false) (xs:=A1) (ys:=sh.map V.int) (λj σ Hj=>∃fx fy fA mS sf,σ=[some (.ref ap),some (.ref fo),some (.ref lk),some (.int y),some (.ref tc),some (.ref lg),some (.ref ll),some (.int w1),some (.int i),some (.ref nr),some (.ref lw),some (.ref lsa),some (.ref lf),fx,fy,fA,mS,mT,nh]/\Wd H Hj lk lg ll sf (G++((cl.zip sh).take j).map gH) L Mi/\Hj lf=some (.dT ((((cl.zip sh).take j).map dh).map ó))/\Hj nr=some (.lst A1)/\â Hj A1 (cl.map List.tail)/\Hj lsa=some (.lst (sh.map V.int))) (by rw[PH,Ð,AS]) ?_ ?_ ?_ ?_;.exact⟨fx,fy,fA,mS,xg,rfl,by rw[Za0,List.map_nil,Į];exact W5,PF,zl,nK,nN⟩
   .rintro j σ Hj hj⟨fx,fy,fA,mS,sf,rfl,Wj,nS,nV,hV,fF⟩;exact⟨É.of nV,É.of fF⟩
   .rintro j x z σ Hj T0 hx hz⟨fx,fy,fA,mS,sf,rfl,Wj,nS,nV,hV,fF⟩nT;have hj:j<cl.length:=by have:=(ĩ.mp hx).1;lia
    have PJ:j<sh.length:=Z1;obtain⟨t,ex,et⟩:=hV.2 j cl[j].tail (by rw[ý,Ö hj];rfl);rw[hx]at ex;cases ex;rw[ý,Ö PJ]at hz;cases hz;have e4:=(dA _ (Č hj)).l;have MC:cl[j].tail=[fl cl[j] 1,fl cl[j] 2,fl cl[j] 3]:=by
     conv=>lhs;rw[eU e4]
     rfl
    rw[MC]at et;have PL:fl cl[j] 0=y:=uu.yr _ (Č hj);have MD:(cl.zip sh)[j]?=some (cl[j],sh[j]):=by rw[List.getElem?_zip_eq_some];exact⟨Ö hj,Ö PJ⟩
    have bX:(cl.zip sh).take (j+1)=(cl.zip sh).take j++[(cl[j],sh[j])]:=by rw[Ĝ,MD];rfl
    have sT:=À.upd (o:=.tup [V.ref t,.int sh[j]]) nT;have W6:=Wj.same sT;have EK:=sT _ _ nS;have EL:=sT _ _ nV;have u7:=hV.same sT;have va:=sT _ _ fF;have PN:=sT _ _ et;have eT:=aj (H:=Hj) (a:=T0) (o:=.tup [V.ref t,.int sh[j]]);generalize upd Hj T0 (.tup [V.ref t,.int sh[j]])=H6 at W6 EK EL u7 va PN eT⊢;clear sT Wj nT;refine⟨T0,_,rfl,Ê.of eT,rfl,_,_,rfl,t,_,rfl,Ê.of PN,rfl,_,_,rfl,_,_,rfl,_,_,rfl,rfl,_,_,rfl,rfl,?_⟩;refine Ej λYY T8=>?_;try dsimp only
    refine aX λc_ av=>?_;refine⟨_,rfl,.inl ⟨rfl,_,É.of W6.eg⟩,_,rfl,_,rfl,_,rfl,_,rfl,zL,λtt vi=>⟨lg,_,_,rfl,rfl,À.upd vi _ _ W6.eg,?_,?_⟩⟩;.rw[W6.elg.1,ì,Ð,Ė,ŭ,sizeLine_eq];have:i*(240*(y:Int).toNat+400)<=3*(240*(y:Int).toNat+400):=Nat.mul_le_mul_right _ Z1;lia
    refine av _ _ ?_;clear av c_;try dsimp only
    have sU:=À.upd (o:=.tup [V.int y,.int (fl cl[j] 1),.int (fl cl[j] 2),.int sh[j]]) vi;have W7:=(W6.same sU).gone (t:=tt) (r:=gH (cl[j],sh[j])) (by rw[aj];show _=some (HO.tup [V.int (fl cl[j] 0),_,_,_]);rw[PL]);have keep:∀{b:Addr}{o:HO},b≠lg->H6 b=some o->upd (upd H6 tt (.tup [V.int y,.int (fl cl[j] 1),.int (fl cl[j] 2),.int sh[j]])) lg (.lst (sf++[.ref tt])) b=some o:=λ{b o}n e=>by rw[aq n];exact sU _ _ e
    have bE:∀b z,H6 b=some (.tup z)->upd (upd H6 tt (.tup [V.int y,.int (fl cl[j] 1),.int (fl cl[j] 2),.int sh[j]])) lg (.lst (sf++[.ref tt])) b=some (.tup z):=λb z e=>keep (λw=>by rw[w,W6.eg]at e;cases e) e;have nX:=keep pe.1 EK;have EM:=keep T4.1 EL;have vj:=u7.keep bE;have vn:=keep T6.1 va;generalize upd (upd H6 tt (.tup [V.int y,.int (fl cl[j] 1),.int (fl cl[j] 2),.int sh[j]])) lg (.lst (sf++[.ref tt]))=H7 at W7 nX EM vj vn⊢;clear keep bE sU W6 vi;refine⟨_,rfl,_,rfl,_,_,rfl,rfl,_,rfl,_,rfl,_,rfl,_,rfl,zL,λtk BO=>⟨lf,_,rfl,ĸ.t (k:=(Ç cl[j]).map Sum.inl) (À.upd BO _ _ nX) (by rw[aj];show some (HO.tup [V.int y,V.int (fl cl[j] 1),V.int (fl cl[j] 2)])=some (HO.tup [V.int (fl cl[j] 0),V.int (fl cl[j] 1),V.int (fl cl[j] 2)]);rw[PL]) ?_,?_⟩⟩;.rw[Ð,Ð,Ė,ŭ,sizeLine_eq];lia
    have sK:=À.upd (o:=.tup [V.int y,.int (fl cl[j] 1),.int (fl cl[j] 2)]) BO;have W8:=W7.same sK;have kP:=sK _ _ nX;have ME:ð ((((cl.zip sh).take j).map dh).map ó) ((Ç cl[j]).map Sum.inl) (.int (fl cl[j] 3-sh[j]))=((((cl.zip sh).take (j+1)).map dh).map ó):=by
     rw[Df,bX,ë,ë];.rfl
     .cases zv:cD ((((cl.zip sh).take j).map dh).map ó) ((Ç cl[j]).map Sum.inl)with|none=>rfl;|some v=>
       have h1:(cD ((((cl.zip sh).take j).map dh).map ó) ((Ç cl[j]).map Sum.inl)).isSome=true:=by rw[zv];rfl
       rw[<-fO,List.any_eq_true]at h1;obtain⟨p,hp,e⟩:=h1;have e:=ŋ e;obtain⟨r,hr,rfl⟩:=è.mp hp;have e:=nM (show(Ç r).map Sum.inl=_ from e);have nd:((cl.zip sh).map dh).map Ç|>.Nodup:=by rw[fV (f:=dh) (λ_=>rfl) AS];exact uu.nd
       have gS:(cl.zip sh).map dh=((cl.zip sh).take j).map dh++dh (cl[j],sh[j])::((cl.zip sh).drop (j+1)).map dh:=by
        have PQ:j<(cl.zip sh).length:=by rw[ŭ];lia
        have:(cl.zip sh)[j]=(cl[j],sh[j]):=by rw[Ö PQ]at MD;exact ŉ MD
        rw[<-this,<-ě,<-ë,<-Zas PQ,zBg]
       rw[gS,ë,Zbc]at nd;exact absurd e (nd.2.2 _ (è.mpr ⟨r,hr,rfl⟩) _ (.head _))
    rw[ME];refine T8 _ _ ⟨_,_,_,_,sf++[.ref tt],rfl,?_,aj,?_,?_,?_⟩
    .have eG:G++((cl.zip sh).take (j+1)).map gH=G++((cl.zip sh).take j).map gH++[gH (cl[j],sh[j])]:=by rw[bX,ë,<-į];rfl
     rw[eG];exact W8.oth kP pe.1 pe.2.1 pe.2.2.1 T7
    .rw[aq pe.2.2.2.1.symm];exact sK _ _ EM
    .exact(vj.same sK).keep λb z e=>by rw[aq λw=>by rw[w,kP]at e;cases e];exact e
    .rw[aq pe.2.2.2.2.symm];exact sK _ _ vn
   rintro σ Hj⟨fx,fy,fA,mS,sf,rfl,Wj,nS,nV,hV,fF⟩;rw[ϩ (by rw[ŭ];lia)]at Wj nS;refine av _ _ ?_;clear av c_;try dsimp only
   refine aX λc_ av=>?_;refine aU ?_;refine⟨_,rfl,_,rfl,lsa,sh,rfl,.inl (É.of fF),_,_,rfl,rfl,?_⟩;refine aG ?_;refine av _ _ ?_;clear av c_;try dsimp only
   clear nV hV fF;obtain⟨w2,MG⟩:∃w2,w2=w1-sh.sum:=⟨_,rfl⟩;rw[<-MG]at jI⊢;obtain⟨Mo,iP,A4⟩:=id Wj.lka;have T9:Mo.length<=30000:=by have:=g.len;have:=A4.length_eq;lia
   refine aH ?_;refine⟨lk,_,iP,λo=>?_⟩;have ez:=aj (H:=Hj) (a:=lk) (o:=.frz o (.dT (Mo.map ó)));have sz:∀b u,b≠lk->Hj b=some u->upd Hj lk (.frz o (.dT (Mo.map ó))) b=some u:=λb u n e=>by rw[aq n];exact e
   have uz:∀b u,b≠lk->upd Hj lk (.frz o (.dT (Mo.map ó))) b=some u->Hj b=some u:=λb u n e=>by rw[aq n]at e;exact e
   generalize upd Hj lk (.frz o (.dT (Mo.map ó)))=Hz at ez sz uz⊢;have tz:∀{Hd:Hp},À Hz Hd->∀b z,H b=some (.tup z)->Hd b=some (.tup z):=λ{Hd}sd b z e=>by
    have nb:b≠lk:=λw=>by rw[w,A0]at e;cases e
    exact sd _ _ (sz _ _ nb (Wj.k _ _ nb e))
   refine⟨_,rfl,lk,o,_,rfl,ez,dR Mo.length (λj ys σ Hd=>À Hz Hd/\(∃o1,σ=[o1,some (.ref ap),some (.int i)])/\â Hd ys (((Mo.take j).filter λr=>decide (aZ ps r=i)).map Ç)) ⟨À.refl _,⟨_,rfl⟩,â.nil⟩ Z6 ?_ ?_⟩
   .rintro j ys σ Hd hj hy⟨sd,⟨o1,rfl⟩,A5⟩;have MH:=g.ok Mo[j] (A4.mem_iff.mp (Č hj));obtain⟨p,hp,ep,op⟩:=fK okp MH.2.1 MH.2.2.1;obtain⟨tp,ip,fh⟩:=gP rp MH.2.1 hp;rw[dW op.1]at fh;have es:aZ ps Mo[j]=fl p 1:=by unfold aZ;rw[ep]
    have bX:((Mo.take (j+1)).filter λr=>decide (aZ ps r=i)).map Ç=((Mo.take j).filter λr=>decide (aZ ps r=i)).map Ç++(if fl p 1=i then[Ç Mo[j]]else[]):=by
     rw[Ĝ,Ö hj,show(some Mo[j]).toList=[Mo[j]]from rfl,Zat,ë];congr 1;by_cases h:fl p 1=i;.rw[È h,zBf (by rw[es];exact ñ h)];rfl
     .rw[Æ h,zBe (by rw[es,ă];exact h)];rfl
    refine⟨⟨sd _ _ ez,by rw[Ð];exact hj⟩,λx H' yv R hR=>?_⟩;obtain⟨rfl,bb,kk,vv,rfl,vt,kQ⟩:=yv;rw[ý,Ö hj]at vt;cases vt;have kQ:H' bb=some (.tup [.int (fl Mo[j] 0),.int (fl Mo[j] 1),.int (fl Mo[j] 2)]):=kQ;refine aG ?_;refine⟨_,rfl,_,rfl,bb,_,1,.int (fl Mo[j] 1),rfl,rfl,Ê.of kQ,rfl,ap,xp,_,.ref tp,rfl,rfl,Ê.of (tz sd _ _ rp.e),ip,tp,_,1,.int (fl p 1),rfl,rfl,Ê.of (tz sd _ _ fh),rfl,_,rfl,rfl,_,rfl,?_⟩;by_cases h:fl p 1=i;.rw[ñ (by rw[h])];refine cg ⟨_,rfl,hR _ _ _ (by rw[ì];show ys.length+1<=j+1;lia) ⟨sd,⟨_,rfl⟩,?_⟩⟩;rw[bX,È h];exact A5.app (â.one kQ)
    .rw[Ŋ (λz=>h (by injection z))];refine bH (hR _ _ _ Z1 ⟨sd,⟨_,rfl⟩,?_⟩);rw[bX,Æ h,Į];exact A5
   rintro ys σ Hd hy⟨sd,_,A5⟩;rw[Ĩ]at A5;refine⟨⟨sd _ _ ez,by rw[Ð];exact Ø _⟩,λD hD=>⟨À.upd hD _ _ (sd _ _ ez),?_⟩⟩;have nD:D≠lk:=λz=>by rw[z,sd _ _ ez]at hD;cases hD
   have S6:À Hj (upd (upd Hd D (.lst ys)) lk (.dT (Mo.map ó))):=λb u e=>by
    by_cases hb:b=lk;.subst hb;rw[iP]at e;cases e;exact aj
    .rw[aq hb];exact À.upd hD _ _ (sd _ _ (sz _ _ hb e))
   have eD:upd (upd Hd D (.lst ys)) lk (.dT (Mo.map ó)) D=some (.lst ys):=by rw[aq nD];exact aj
   have si:upd Hd D (.lst ys) lk=some (.frz o (.dT (Mo.map ó))):=À.upd hD _ _ (sd _ _ ez);have iO:â (upd (upd Hd D (.lst ys)) lk (.dT (Mo.map ó))) ys ((Mo.filter λr=>decide (aZ ps r=i)).map Ç):=(A5.same (À.upd hD)).keep λb z e=>by rw[aq λw=>by rw[w,si]at e;cases e];exact e
   generalize upd (upd Hd D (.lst ys)) lk (.dT (Mo.map ó))=H6 at S6 eD iO⊢;clear A5 sd sz uz tz ez hD si;obtain⟨ads,ey,E9,vw⟩:=nJ iO;subst ey;refine⟨D,ads,j7 H6,rfl,É.of eD,λa ha=>⟨Ê.of (vw a ha),λz=>?_⟩,λq' l' hq pm=>?_⟩
   .have:j7 H6 a∈(Mo.filter λr=>decide (aZ ps r=i)).map Ç:=by rw[E9];exact List.mem_map_of_mem ha
    obtain⟨r,_,e⟩:=è.mp this;rw[z]at e;cases e
   obtain⟨S,pS,PR⟩:=Ja (show(l'.map (j7 H6)).Perm ((Mo.filter λr=>decide (aZ ps r=i)).map Ç)by rw[E9];exact pm.map _);have pS:S.Perm (aY ps Mi i):=pS.trans (A4.filter _);have MI:∀r∈S,0<=fl r 3:=λr hr=>(g.ok r (Ũ.mp (pS.mem_iff.mp hr)).1).2.2.2.1;obtain⟨md,GB⟩:∃md,md=bw w2 S:=⟨_,rfl⟩;obtain⟨g',ed⟩:=g.step (w:=w1) hi uu pS Z1 MB Η (by rw[<-MG];exact Em jI MI);rw[<-GB]at g';rw[<-MG,<-GB]at ed;have cw:Mi.Perm (é ps Mi i++S):=((List.Perm.append_left _ pS).trans (List.perm_append_comm.trans (List.filter_append_perm (λr=>decide (aZ ps r=i)) Mi))).symm;have S7:=S6.updR (o:=.lst (l'.map V.ref)) hq;have GH:=aj (H:=H6) (a:=q') (o:=.lst (l'.map V.ref));have sv:â (upd H6 q' (.lst (l'.map V.ref))) (l'.map V.ref) (S.map Ç):=by rw[<-PR];exact xP λa ha=>À.upd hq _ _ (vw a (pm.mem_iff.mp ha))
   have nq:Hj q'=none:=S6.free hq;generalize upd H6 q' (.lst (l'.map V.ref))=H7 at S7 GH sv⊢;clear vw E9 iO eD S6 hq pm PR;have W7:=Wj.same S7;have nX:=S7 _ _ nS;have dq:q'≠lg/\q'≠ll/\q'≠lk:=⟨(az Wj.eg nq).symm,(az Wj.el nq).symm,(az iP nq).symm⟩;have lS:S.length<=30000:=by have:=cw.length_eq;have:=g.len;rw[ì]at*;lia
   generalize l'.map V.ref=xq at GH sv⊢;have PU:xq.length=S.length:=by rw[sv.1,Ð]
   have Ua:∀j,(é ps Mi i++((S.take j).zip (bw w2 (S.take j))).map dh++S.drop j).map Ç|>.Nodup:=λj=>by rw[ë,ë,fV (f:=dh) (λ_=>rfl) (gq _ _),į,<-ë,zBg,<-ë];exact(cw.map _).nodup_iff.mp g.kd
   refine⟨q',rfl,⟨_,É.of GH⟩,?_⟩;refine gU (xs:=xq) (λj σ Hk=>∃mT nh om,σ=[some (.ref ap),some (.ref fo),some (.ref lk),some (.int y),some (.ref tc),some (.ref lg),some (.ref ll),some (.int (w2-(bw w2 (S.take j)).sum)),some (.int i),some (.ref nr),some (.ref lw),some (.ref lsa),some (.ref lf),fx,fy,fA,mS,mT,nh]/\Wd H Hk lk lg ll om (G++(cl.zip sh).map gH++((S.take j).zip (bw w2 (S.take j))).map gH) L (é ps Mi i++((S.take j).zip (bw w2 (S.take j))).map dh++S.drop j)/\Hk lf=some (.dT (((cl.zip sh).map dh).map ó))/\Hk q'=some (.lst xq)/\â Hk xq (S.map Ç)) ?_ ?_ ?_ ?_
   .refine⟨mT,nh,sf,?_,?_,nX,GH,sv⟩;.rw[Za0];show[_,_,_,_,_,_,_,some (V.int w2),_,_,_,_,_,_,_,_,_,_,_]=[_,_,_,_,_,_,_,some (V.int (w2-0)),_,_,_,_,_,_,_,_,_,_,_];rw[Int.sub_zero]
    .have e:é ps Mi i++((S.take 0).zip (bw w2 (S.take 0))).map dh++S.drop 0=é ps Mi i++S:=by rw[Za0,List.drop_zero];show é ps Mi i++[]++S=_;rw[Į]
     have e2:G++(cl.zip sh).map gH++((S.take 0).zip (bw w2 (S.take 0))).map gH=G++(cl.zip sh).map gH:=by rw[Za0];exact Į _
     rw[e,e2];exact⟨W7.k,W7.eg,W7.elg,W7.el,W7.lka.pm cw,W7.nk,W7.nl,W7.ng,W7.fg,W7.fl⟩
   .rintro j σ Hk hj⟨mT,nh,om,rfl,Wk,sA,GI,sC⟩;exact É.of GI
   .rintro j x σ Hk hx⟨mT,nh,om,rfl,Wk,sA,GI,sC⟩;have hj:j<S.length:=by have:=(ĩ.mp hx).1;lia
    obtain⟨t,ex,et⟩:=sC.2 j (Ç S[j]) (by rw[ý,Ö hj];rfl);rw[hx]at ex;cases ex;have uk:S.drop j=S[j]::S.drop (j+1):=Zas hj;have kd:=Ua j;have EN:S[j]∈é ps Mi i++((S.take j).zip (bw w2 (S.take j))).map dh++S.drop j:=ē.mpr (.inr (by rw[uk];exact .head _));have eZ:=qy (w:=w2) hj;have eM:bw w2 (S.take (j+1))=bw w2 (S.take j)++[if w2-(bw w2 (S.take j)).sum<fl S[j] 3 then w2-(bw w2 (S.take j)).sum else fl S[j] 3]:=by rw[Ĝ,Ö hj,show(some S[j]).toList=[S[j]]from rfl,gF]
    have em:=Fo (w2-(bw w2 (S.take j)).sum) (fl S[j] 3);generalize hm:(if w2-(bw w2 (S.take j)).sum<fl S[j] 3 then w2-(bw w2 (S.take j)).sum else fl S[j] 3)=m at eZ eM em;refine aG ?_;refine Ej λYZ Ub=>?_;refine aX λc_ av=>?_;refine aU ?_;refine⟨_,rfl,_,rfl,_,rfl,lk,.int (fl S[j] 3),rfl,Wk.lka.get kd EN et,_,_,rfl,?_⟩;rw[em];refine aG ?_;refine av _ _ ?_;clear av c_;try dsimp only
    refine aX λc_ av=>?_;refine⟨_,rfl,.inl ⟨rfl,_,É.of Wk.eg⟩,_,rfl,_,rfl,zL,λt1 pb=>?_⟩;have s1:=À.upd (o:=.tup [V.int m]) pb;refine⟨t,t1,_,_,rfl,rfl,Ê.of (s1 _ _ et),Ê.of aj,by unfold Ç;simp,(by show 3+1<=sizeLine;decide),λz=>absurd z Z2,λ_ t2 D5=>⟨lg,om,.ref t2,rfl,rfl,À.upd D5 _ _ (s1 _ _ Wk.eg),?_,?_⟩⟩;.rw[Wk.elg.1,ì,ì,Ð,Ð,ŭ,ŭ,Ė,sizeLine_eq];have:i*(240*(y:Int).toNat+400)<=3*(240*(y:Int).toNat+400):=Nat.mul_le_mul_right _ Z1;lia
    have s2:=À.upd (o:=.tup ((Ç S[j]).map V.int++[V.int m])) D5;have W8:=((Wk.same s1).same s2).gone (t:=t2) (r:=gH (S[j],m)) aj;have keep:∀{b:Addr}{u:HO},b≠lg->Hk b=some u->upd (upd (upd Hk t1 (.tup [V.int m])) t2 (.tup ((Ç S[j]).map V.int++[V.int m]))) lg (.lst (om++[.ref t2])) b=some u:=λ{b u}n e=>by rw[aq n];exact s2 _ _ (s1 _ _ e)
    have bE:∀b z,Hk b=some (.tup z)->upd (upd (upd Hk t1 (.tup [V.int m])) t2 (.tup ((Ç S[j]).map V.int++[V.int m]))) lg (.lst (om++[.ref t2])) b=some (.tup z):=λb z e=>keep (λw=>by rw[w,Wk.eg]at e;cases e) e;have kP:=keep pe.1 sA;have ML:=keep dq.1 GI;have zt:=sC.keep bE;have GL:=bE _ _ et;refine av _ _ ?_;clear av c_;try dsimp only
    refine eV (λH8=>Wd H H8 lk lg ll (om++[.ref t2]) (G++(cl.zip sh).map gH++((S.take j).zip (bw w2 (S.take j))).map gH++[gH (S[j],m)]) L (é ps Mi i++((S.take j).zip (bw w2 (S.take j))).map dh++S.drop j)/\H8 lf=some (.dT (((cl.zip sh).map dh).map ó))/\H8 q'=some (.lst xq)/\â H8 xq (S.map Ç)/\H8 t=some (.tup ((Ç S[j]).map V.int))) ⟨W8,kP,ML,zt,GL⟩ λH8=>?_;rintro⟨W8,kP,ML,zt,GL⟩;clear keep bE s1 s2 pb D5;obtain⟨Mk,EO,zw⟩:=id W8.lka;rw[uk]at zw kd;obtain⟨Mn,Uc,Ud⟩:=BV (x:=fl S[j] 3-m) zw kd;refine⟨_,rfl,_,rfl,lk,.int (fl S[j] 3),rfl,W8.lka.get (by rw[uk];exact kd) EN GL,_,rfl,_,_,rfl,rfl,_,rfl,_,rfl,_,_,rfl,rfl,zL,λtp Ue=>?_⟩;have sP:=À.upd (o:=.tup [V.int (fl S[j] 3-m),V.int (w2-(bw w2 (S.take j)).sum-m)]) Ue;have eP:=aj (H:=H8) (a:=tp) (o:=.tup [V.int (fl S[j] 3-m),V.int (w2-(bw w2 (S.take j)).sum-m)]);refine⟨tp,_,rfl,Ê.of eP,rfl,_,_,rfl,_,rfl,_,rfl,lk,_,rfl,ĸ.t (k:=(Ç S[j]).map Sum.inl) (sP _ _ EO) (by rw[sP _ _ GL,ħ];rfl) ?_,_,_,rfl,rfl,?_⟩;.have:=zw.length_eq;have:=cw.length_eq;have:=g.len;rw[Ð,sizeLine_eq];rw[ì,ì,Ī,Ð,ŭ,Ė,Za5,gq,Ė]at*;lia
    rw[Uc];have W9:=(W8.same sP).put Ud;have lI:∀b,b≠lk->upd (upd H8 tp (.tup [V.int (fl S[j] 3-m),V.int (w2-(bw w2 (S.take j)).sum-m)])) lk (.dT (Mn.map ó)) b=upd H8 tp (.tup [V.int (fl S[j] 3-m),V.int (w2-(bw w2 (S.take j)).sum-m)]) b:=λb n=>aq n;refine Ub _ _ ⟨some (.ref t),some (.int m),om++[.ref t2],?_,?_,?_,?_,?_⟩;.rw[eM,List.sum_append,ĳ,List.sum_nil,Int.add_zero,<-Int.sub_sub];rfl
    .have e1:G++(cl.zip sh).map gH++((S.take (j+1)).zip (bw w2 (S.take (j+1)))).map gH=G++(cl.zip sh).map gH++((S.take j).zip (bw w2 (S.take j))).map gH++[gH (S[j],m)]:=by rw[eZ,ë,<-į];rfl
     have e2:é ps Mi i++((S.take (j+1)).zip (bw w2 (S.take (j+1)))).map dh++S.drop (j+1)=é ps Mi i++((S.take j).zip (bw w2 (S.take j))).map dh++[fl S[j] 0,fl S[j] 1,fl S[j] 2,fl S[j] 3-m]::S.drop (j+1):=by rw[eZ,ë,<-į,į _ _ (S.drop (j+1))];rfl
     rw[e1,e2];exact W9
    .rw[lI _ pe.2.2.1];exact sP _ _ kP
    .rw[lI _ dq.2.2];exact sP _ _ ML
    .exact(zt.same sP).keep λb z e=>by rw[lI _ λw=>by rw[w,sP _ _ EO]at e;cases e];exact e
   rintro σ Hk⟨mT,nh,om,rfl,Wk,sA,GI,sC⟩;rw[PU,Ĩ,List.drop_length,Į,<-GB]at Wk;rw[PU,Ĩ,<-GB,ed];dsimp only;obtain⟨Mk,ER,zw⟩:=id Wk.lka;have Y0:=zw.length_eq;have glen:=g'.len;have lF:((cl.zip sh).map dh).length<=80:=by rw[Ð,ŭ];lia
   refine aX λc_ av=>?_;refine⟨_,rfl,.inr (.inr (.inl ⟨rfl,.inr ⟨_,ER⟩⟩)),_,rfl,lk,lf,Mk.map ó,((cl.zip sh).map dh).map ó,rfl,rfl,pe.2.2.1.symm,ER,sA,?_,?_,λ_=>?_,?_⟩;.rw[ì]at glen;rw[Ð,Ð,sizeLine_eq];lia
   .rw[<-ë];exact ug (((zw.append_right _).map _).nodup_iff.mpr g'.kd)
   .intro w;refine Kd (y:=y) Z1 Z1 (λr hr=>?_) ?_ w;.obtain⟨p,hp,rfl⟩:=è.mp hr;have hm:=(ϟ (show(p.1,p.2)∈_ from hp)).1;have a:=dA _ hm;have a3:=a.n1;exact⟨(uu.yr p.1 hm:),a.n0,by show fl p.1 1<10;lia,a.h0,a.h1⟩
    .rw[fV (f:=dh) (λ_=>rfl) AS];exact uu.nd
   rw[<-ë];have WA:=Wk.put (zw.append_right ((cl.zip sh).map dh));refine av _ _ ?_;clear av c_;try dsimp only
   refine eV (λHA=>Wd H HA lk lg ll om (G++(cl.zip sh).map gH++(S.zip md).map gH) L (é ps Mi i++(S.zip md).map dh++(cl.zip sh).map dh)) WA λHA WA=>?_;refine⟨_,rfl,.inl ⟨rfl,_,É.of WA.el⟩,_,rfl,ll,_,_,rfl,rfl,WA.el,?_,?_⟩;.rw[Ð,lL,sizeLine_eq];lia
   have WB:=WA.down (x:=dn X (i+1));rw[ë]at WB;exact FX _ _ ⟨_,_,_,_,_,_,_,_,_,_,_,om,_,L++[dn X (i+1)],_,rfl,WB,by rw[ì,lL];rfl,g'⟩
  refine aU ?_;refine⟨_,rfl,lw,ü cl,rfl,.inl (É.of GA),_,rfl,_,_,rfl,rfl,_,rfl,?_⟩;by_cases hs:(ü cl).sum<=w1;.rw[ñ hs];refine cg ⟨_,rfl,?_⟩;exact aG (rest _ lw H3 (En (ŀ.nn dA) hs) W3 ze nE GA T5)
  .rw[Ŋ hs];refine bH ?_;have hok:K52P.OkW (ü cl):=by
    refine⟨?_,by unfold ü;rw[Ð];exact T3,λx hx=>?_⟩;.cases hz:ü cl with|nil=>rw[hz]at hs;exact absurd MB (by simpa using hs);|cons a l=>rw[Ī];lia
    .obtain⟨r,hr,rfl⟩:=è.mp hx;exact⟨(dA r hr).s0,(dA r hr).s1⟩
   refine⟨_,rfl,_,rfl,w1,lw,ü cl,rfl,GA,hok,MB,Z1,λH4 q4 p4 pk s4 nq eq4=>?_⟩;refine aG (rest _ q4 H4 (J3 pk Z1) (W3.same s4) (s4 _ _ ze) (nE.same s4) eq4 ⟨(az W3.eg nq).symm,(az W3.el nq).symm,?_⟩);obtain⟨Mo,e,_⟩:=W3.lka;exact(az e nq).symm
 .rintro σ Hc⟨x8,x9,lP,lh,kH,fx,fy,fA,mS,mT,nh,xg,G,L,Mi,rfl,W,lL,g⟩;have g:Stg ps X os y 3 Mi G:=g;dsimp only;have g4:=g.g4;have gl:=g.glen;refine⟨_,rfl,lg,rfl,⟨_,É.of W.eg⟩,dR G.length (λj ys σ Hd=>À Hc Hd/\(∃o1,σ=[o1])/\∃ads:þ,ys=ads.map V.ref/\∀a∈ads,∃r:PP,Hd a=some (.tup (r.map V.int))/\r.length=4) ⟨À.refl _,⟨_,rfl⟩,[],rfl,λ_ h=>(nomatch h)⟩ Z6 ?_ ?_⟩
  .rintro j ys σ Hd hj hy⟨sd,⟨o1,rfl⟩,ads,rfl,vw⟩;obtain⟨t,ex,et⟩:=W.elg.2 j G[j] (Ö hj);have e4:=g4 _ (Č hj);have F4:=et;rw[eU e4]at et;refine⟨⟨_,_,É.of (sd _ _ W.eg),ex⟩,λv H' y' R hR=>?_⟩;obtain⟨rfl,y'⟩:=y';have hv:=y' _ (É.of (sd _ _ W.eg));rw[ex]at hv;cases hv;refine aG ?_;refine⟨_,rfl,t,_,3,.int (fl G[j] 3),rfl,rfl,Ê.of (sd _ _ et),rfl,_,_,rfl,rfl,_,rfl,?_⟩;by_cases h:0<fl G[j] 3;.rw[ñ h];exact cg ⟨_,rfl,hR _ _ _ (by rw[ì];show(ads.map V.ref).length+1<=j+1;lia) ⟨sd,⟨_,rfl⟩,ads++[t],by rw[ë];rfl,λa ha=>(ē.mp ha).elim (vw a) λz=>⟨_,by rw[Ū.mp z];exact sd _ _ F4,e4⟩⟩⟩
   .rw[Ŋ h];exact bH (hR _ _ _ Z1 ⟨sd,⟨_,rfl⟩,ads,rfl,vw⟩)
  rintro ys σ Hd hy⟨sd,_,ads,rfl,vw⟩;refine⟨⟨_,É.of (sd _ _ W.eg),by rw[W.elg.1];exact Ø _⟩,λD hD=>?_⟩;have s6:=sd.updR (o:=.lst (ads.map V.ref)) hD;have zI:∀a∈ads,upd Hd D (.lst (ads.map V.ref)) a=some (.tup ((j7 Hd a).map V.int))/\j7 Hd a≠[]:=λa ha=>by obtain⟨r,e,e4⟩:=vw a ha;rw[zr e];exact⟨À.upd hD _ _ e,λz=>by rw[z]at e4;cases e4⟩
  have eD:=aj (H:=Hd) (a:=D) (o:=.lst (ads.map V.ref));generalize upd Hd D (.lst (ads.map V.ref))=H6 at s6 zI eD⊢;refine⟨D,ads,j7 Hd,rfl,É.of eD,λa ha=>⟨Ê.of (zI a ha).1,(zI a ha).2⟩,λg1 l' Ug F2 pm=>?_⟩;have W7:=(W.same s6).same (À.upd (o:=.lst (l'.map V.ref)) Ug);refine⟨_,rfl,ll,_,rfl,.inl ⟨É.of W7.el,λtl F3=>⟨zL,λt ht=>?_⟩⟩⟩;have W8:=(W7.same (À.upd (o:=.tup (L.map V.int)) F3)).same (À.upd (o:=.tup [.ref g1,.ref tl]) ht);exact q t g1 tl Mi _ W8.k aj W8.lka (nx g)
def YAt(H0:Hp)(l:Addr)(cs ps ss:PK)(H:Hp)(a:Addr)(j:Nat):Prop:=∃g k tl xg xk G K L,H a=some (.tup [.ref g,.ref k,.ref tl])/\H0 g=none/\H0 k=none/\g≠l/\k≠l/\H g=some (.lst xg)/\â H xg G/\H k=some (.lst xk)/\â H xk K/\H tl=some (.tup ((L:PP).map V.int))/\(g≠sysModules/\k≠sysModules)/\(∀r∈G,ŀ ps r)/\G.length<=240*(j+1)/\Ε cs ps ss (j+1) K/\L.length=3
theorem YAt.keep(h:YAt H0 l cs ps ss H a j)(k:∀b o,b≠l->H b=some o->H' b=some o)(hl:∃xs,H l=some (.lst xs)):YAt H0 l cs ps ss H' a j:=by
 obtain⟨xs,hl⟩:=hl;obtain⟨g,kk,tl,xg,xk,G,K,L,e1,n1,n2,d1,d2,e2,e3,e4,e5,e6,e7⟩:=h;have nt:∀b z,H b=some (.tup z)->b≠l:=λb z e w=>by rw[w,hl]at e;cases e
 exact⟨g,kk,tl,xg,xk,G,K,L,k _ _ (nt _ _ e1) e1,n1,n2,d1,d2,k _ _ d1 e2,e3.keep λb z e=>k _ _ (nt _ _ e) e,k _ _ d2 e4,e5.keep λb z e=>k _ _ (nt _ _ e) e,k _ _ (nt _ _ e6) e6,e7⟩
inductive Ŵ(vs:List V)(H:Hp)(Q:VK):Prop|mk:∀bk y ac xc cs ap xp ps ar xs ss,(vs=[.ref bk,.int y])->(H bk=some (.tup [.ref ac,.ref ap,.ref ar]))->(Ã H ac xc cs)->((∀r∈cs,r.length=3/\∀x∈r,0<=x))->(cs.length<=100)->(0<=y)->(y<cs.length)->(Ã H ap xp ps)->(ps.length<=10)->((∀r∈ps,č r))->(Ã H ar xs ss)->(ss.length<=12)->((∀s∈ss,s.length=5))->(un ps ss=none)->(∀l(ts:þ)H',À H H'->H l=none->H' l=some (.lst (ts.map V.ref))->(ts.length:Int)=y+1->(∀j a,ts[j]?=some a->YAt H l cs ps ss H' a j)->Q (.ref l) H')->Ŵ  vs H Q
def zN:Sp:=λvs H Q _=>Ŵ  vs H Q
theorem Μ:Á ["book","year","years","owed","at","gifts","left"] ["book","year"] (aD (top 60)):=ù
theorem Fq(F:Û K "years_given" "years_given" (top 60) f fd)(Tr:mg "range"=none)(c1:ã P w K mg base 9 "year_given" ["book","year","owed"] Ex):Í P w K mg base Ý 10 f fd ["book","year"] zN:=by
 refine F.oq Μ λai A outer s H vs Q E hr h=>?_;obtain⟨bk,y,ac,xc,cs,ap,xp,ps,ar,xs,ss,rfl,eb,rc,okc,lc,y0,y1,rp,lp,okp,rs,ls,h5,hu,q⟩:=h;refine⟨_,aC (ć 2 Μ.nd (cP ao)) (aC (ć 3 Μ.nd (cP ao)) (aC (bZ ĥ rfl (d7 rfl Tr (aA (aQ bL (pv 1) aB) ao)) (Î 4 Μ.nd) (aC (cO (aJ c1 hr (aA (pv 0) (aA (pv 4) (aA (pv 3) ao)))) (bC rfl (au (Î 5 Μ.nd) (au (Î 3 Μ.nd) (au (Î 6 Μ.nd) aW))))) (aF (cA (gK ό Ϲ Ϻ d9 (pv 2) (aA (bO (aA (pv 5) (aA (pv 3) (aA (pv 6) ao)))) ao)))))) (aF (aR (pv 2))))),?_⟩;refine aH (aU ?_);refine⟨zL,λl hl=>?_⟩;refine aG ?_;dsimp only;refine aH (aU ?_);refine⟨zL,λMM sM=>?_⟩;refine aG ?_;dsimp only;have s1:=À.upd (o:=.lst []) hl;have s2:=À.upd (o:=.lst []) sM;have Uh:MM≠l:=λz=>by rw[z,aj]at sM;cases sM
 refine eV (λH1=>À H H1/\H1 l=some (.lst [])/\H1 MM=some (.lst [])) ⟨s1.trans s2,s2 _ _ aj,aj⟩ λH1=>?_;rintro⟨k1,Ĺ,Ui⟩;refine aH ?_;refine⟨_,rfl,_,_,rfl,rfl,y+1,rfl,Z1,Z1,?_⟩;refine cU (lo:=0) (λi σ Hc=>∃x4 x5 x6 lo xo ow,∃ts:þ,σ=[some (.ref bk),some (.int y),some (.ref l),some (.ref lo),x4,x5,x6]/\À H Hc/\Hc l=some (.lst (ts.map V.ref))/\ts.length=i/\(∀j a,ts[j]?=some a->YAt H l cs ps ss Hc a j)/\lo≠l/\Hc lo=some (.lst xo)/\â Hc xo ow/\Ε cs ps ss i ow) ?_ ?_ ?_;.exact⟨none,none,none,MM,[],[],[],rfl,k1,Ĺ,rfl,λj a e=>(by simp at e),Uh,Ui,â.nil,⟨λ_ h=>(nomatch h),λ_ _=>rfl,Ø _⟩⟩
 .rintro i σ Hc hi⟨x4,x5,x6,lo,xo,ow,ts,rfl,k,el,lt,hy,dl,eo,rh,rq⟩;have Y1:=rq.len;refine aG ?_;have z0:(0:Int)+(i:Int)=i:=Z1;rw[z0];refine aH ?_;refine⟨_,rfl,_,rfl,_,rfl,bk,i,lo,ac,xc,cs,ap,xp,ps,ar,xs,ss,xo,ow,rfl,k _ _ eb,rc.same k,okc,Z1,Z1,rp.same k,lp,okp,rs.same k,ls,h5,hu,eo,rh,rq,Z1,λt g kk tl xg xk G KK L H2 s2 et ng nk F2 eg elg gk gl ek iP xt l3 Uj=>?_⟩;rw[Ľ]at xt gl;refine⟨t,_,rfl,Ê.of et,rfl,_,_,rfl,_,_,rfl,_,_,rfl,rfl,?_⟩;dsimp only;have k2:=k.trans s2;have γ:=s2 _ _ el;have dg:g≠l:=(az el ng).symm;have dk:kk≠l:=(az el nk).symm;refine⟨_,rfl,.inl ⟨rfl,_,É.of γ⟩,_,rfl,_,rfl,_,rfl,zL,λtt vi=>⟨l,_,_,rfl,rfl,À.upd vi _ _ γ,by rw[Ð,lt,sizeLine_eq];lia,?_⟩⟩;have s3:=À.upd (o:=.tup [.ref g,.ref kk,.ref tl]) vi;have nt:tt≠l:=λz=>by rw[z,γ]at vi;cases vi
  have kp:∀{o:HO}b u,b≠l->H2 b=some u->upd (upd H2 tt (.tup [.ref g,.ref kk,.ref tl])) l o b=some u:=λb u n e=>by rw[aq n];exact s3 _ _ e
  have ke:∀{o:HO}b z,H2 b=some (.tup z)->upd (upd H2 tt (.tup [.ref g,.ref kk,.ref tl])) l o b=some (.tup z):=λb z e=>kp b _ (λw=>by rw[w,γ]at e;cases e) e;refine⟨_,_,_,kk,xk,_,ts++[tt],rfl,λb o e=>?_,?_,by rw[ì,lt];rfl,λj a e=>?_,dk,kp _ _ dk ek,iP.keep ke,xt⟩;.exact kp _ _ (az e hl) (k2 _ _ e)
  .rw[aj,ë];rfl
  .by_cases hj:j<ts.length;.rw[Ϸ hj]at e;exact(hy j a e).keep (λb o n z=>kp _ _ n (s2 _ _ z)) ⟨_,el⟩
   .have MO:j=i:=by have:=(ĩ.mp e).1;rw[ì]at this;simp at this;lia
    subst MO;rw[ϸ Z1,lt,Nat.sub_self]at e;cases e;exact⟨g,kk,tl,xg,xk,_,_,_,by rw[aq nt];exact aj,k.free ng,k.free nk,dg,dk,kp _ _ dg eg,elg.keep ke,kp _ _ dk ek,iP.keep ke,ke _ _ Uj,F2,gk,gl,xt,l3⟩
 .rintro σ Hc⟨x4,x5,x6,lo,xo,ow,ts,rfl,k,el,lt,hy,dl,eo,rh,rq⟩;exact⟨_,rfl,q l ts Hc k hl el (by rw[lt];lia) hy⟩
def okC(r:PP):Prop:=r.length=3/\∀x∈r,0<=x/\x<1000
def MJ(st:Addr)(H:Hp)(n:Int)(v:V)(H':Hp):Prop:=∃cs,Ι st H H'/\jm H' st/\Ò (λ_=>False) H' v (bU cs)/\1<=cs.length/\(cs.length:Int)<=n/\∀r∈cs,okC r
inductive ś(vs:List V)(H:Hp)(Q:VK):Prop|mk:∀st n,(vs=[.ref st,.int n])->(jm H st)->(1<=n)->(n<=20)->(∀v H',MJ st H n v H'->Q v H')->ś  vs H Q
def wg:Sp:=λvs H Q _=>ś  vs H Q
inductive ŕ(vs:List V)(H:Hp)(Q:VK):Prop|mk:∀st ap xp ps n,(vs=[.ref st,.ref ap,.int n])->(jm H st)->(Ã H ap xp ps)->(ps.length<=10)->((∀r∈ps,č r))->(0<=n)->(n<=12)->(∀a xs ss H',Dr st H H'->Ã H' a xs ss->(ss.length:Int)<=n->(∀s∈ss,smR s)->un ps ss=none->Q (.ref a) H')->ŕ  vs H Q
def wj:Sp:=λvs H Q _=>ŕ  vs H Q
inductive Ž(vs:List V)(H:Hp)(Q:VK):Prop|mk:∀(st:Addr)y m k,(vs=[.ref st,.int y,.int m,.int k])->(jm H st)->(1<=y)->(y<=20)->(1<=m)->(m<=10)->(0<=k)->(k<=12)->(∀a ac xc cs ap xp ps ar xs ss H',Dr st H H'->H' a=some (.tup [.ref ac,.ref ap,.ref ar])->Ã H' ac xc cs->1<=cs.length->(cs.length:Int)<=y->(∀r∈cs,okC r)->Ã H' ap xp ps->ps.length<=10->(∀r∈ps,č r)->Ã H' ar xs ss->ss.length<=12->(∀s∈ss,smR s)->un ps ss=none->Q (.ref a) H')->Ž  vs H Q
def zO:Sp:=λvs H Q _=>Ž  vs H Q
theorem Cg(F:Û K "_law_clips" "_law_clips" (top 74) f fd)(T:Mg mg)(Tr:mg "range"=none)(c1:ã P w K mg base 1 AAt [ċ,AAr] lV):Í P w K mg base Ý 2 f fd [ċ,Š] wg:=by
 refine F.oq Z01 λai A outer s H vs Q E hr h=>?_;obtain⟨st,n,rfl,eW,n1,n2,q⟩:=h;refine⟨_,aC (lB (i:=2) Z01.nd rfl (Or.inr rfl) (pX bV (cP (jQ (by repeat constructor))) (aJ c1 hr (aA (pv 0) (aA aB ao))))) (aC (ć 3 Z01.nd (cP ao)) (aC (bZ ĥ rfl (d7 rfl Tr (aA (aQ bL aB (aJ c1 hr (aA (pv 0) (aA (pv 1) ao)))) ao)) (Î 4 Z01.nd) (aF (cA (gK ό Ϲ Ϻ d9 (pv 3) (aA (bB bF rfl T.tuple Ó (aA (bI [ϡ,ċ,"_law_wide"] [none,some 0,some 2] rfl (d7 rfl Tr (aA aB ao)) (λC fp Z7 s₂ Ï=>⟨Î 0 NZ,bR,aJ c1 hr (aA (pv 1) (aA (pX (vH (K:=K) rfl) (cP (aA (pv 2) (aA aB (aA (pv 2) (aA aB ao))))) (aJ c1 hr (aA (pv 1) (aA aB ao)))) ao))⟩) (λC=>cI (cI trivial)) ⟨rfl,rfl,rfl,rfl⟩) ao)) ao))))) (aF (aR (bB bF rfl T.tuple Ó (aA (pv 3) ao)))))),?_⟩;obtain⟨a,b,es,h1,h2,h3⟩:=id eW;refine aX λc_ av=>?_;refine aU ?_;refine⟨zL,λp hp=>?_⟩;have np:p≠st:=λz=>by rw[z,es]at hp;cases hp
 have qB:∀o,upd H p o st=some (.lst [.int a,.int b]):=λo=>by rw[aq np.symm];exact es
 refine⟨_,rfl,st,4,rfl,⟨a,b,qB _,h1,h2,h3⟩,by decide,by decide,λr a1 b1 r0 r1 g1 g2 g3=>?_⟩;obtain⟨wd,hw,w1,w2⟩:∃wd:Int,ŏ (([4,14,45,1000]:PP).map V.int) r=some (.int wd)/\1<=wd/\wd<=1000:=by
  have:r=0\/r=1\/r=2\/r=3:=Z1;rcases this with rfl|rfl|rfl|rfl;.exact⟨4,rfl,by decide,by decide⟩
  .exact⟨14,rfl,by decide,by decide⟩
  .exact⟨45,rfl,by decide,by decide⟩
  .exact⟨1000,rfl,by decide,by decide⟩
 refine⟨p,_,r,.int wd,rfl,rfl,É.of (by rw[aq np];exact aj),hw,?_⟩;refine aG ?_;refine av _ _ ?_;clear av c_;try dsimp only
 refine aX λc_ av=>?_;refine aU ?_;refine⟨zL,λp3 fq=>?_⟩;refine aG ?_;refine av _ _ ?_;clear av c_;try dsimp only
 refine aH ?_;have hU:p3≠st:=λz=>by rw[z,aj]at fq;cases fq
 refine⟨_,rfl,_,rfl,st,n,rfl,⟨a1,b1,by rw[aq hU.symm];exact aj,g1,g2,g3⟩,n1,Z1,λr2 a2 b2 x0 x1 y1 y2 y3=>⟨_,_,rfl,rfl,1+r2,rfl,Z1,Z1,?_⟩⟩;have vx:∀b' o',H b'=some o'->b'≠st->b'≠p/\b'≠p3:=λb' o' e' ne=>by have z:b'≠p:=az e' hp;refine⟨z,λz2=>?_⟩;rw[<-z2,aq ne,aq z,e']at fq;cases fq
 refine cU (lo:=0) (n:=(1+r2).toNat) (λi σ H'=>∃xs,∃ds:PK,∃x4,σ=[some (.ref st),some (.int n),some (.int wd),some (.ref p3),x4]/\Ι st H H'/\jm H' st/\H' p3=some (.lst xs)/\Å (λ_=>False) H' xs (ds.map cu)/\(∀r∈ds,okC r)/\ds.length=i/\xs.length=i) ?_ ?_ ?_
 .refine⟨[],[],none,rfl,λb' o' e' ne=>?_,⟨a2,b2,aj,y1,y2,y3⟩,?_,.nil,(λr hr=>by cases hr),rfl,rfl⟩;.obtain⟨k1,k2⟩:=vx b' o' e' ne;rw[aq ne,aq k2,aq ne,aq k1];exact e'
  .rw[aq hU];exact aj
 .rintro i σ H' hi⟨xs,ds,x4,rfl,bt,sa,e3,ts,tm,hs,hl⟩;refine aG ?_;refine⟨_,rfl,.inl ⟨rfl,_,É.of e3⟩,3,rfl,by decide,by decide,?_⟩;refine⟨λj m ys PV H2=>m=3-j/\j<=3/\∃is x0,ys=is.map V.int/\is.length=j/\(∀v∈is,0<=v/\v<1000)/\PV=[x0,some (.ref st),some (.int wd)]/\Ι st H' H2/\jm H2 st,⟨3,rfl,by decide,[],none,rfl,rfl,(λ_ h=>nomatch h),rfl,λ_ _ e _=>e,sa⟩,?_⟩;rintro j m ys PV H2⟨rfl,hj,is,x0,rfl,DH,hv,rfl,GN,PX⟩;refine⟨by rw[Ð,DH,sizeLine_eq];lia,?_⟩;by_cases aE:j<3
  .refine .inr ⟨aE,λx H3 y=>?_⟩;obtain⟨e5,e6⟩:=y;subst e5;subst e6;refine aG ?_;obtain⟨a5,b5,e7,k1,k2,k3⟩:=PX;refine⟨_,rfl,_,rfl,_,rfl,zL,λp4 zS=>?_⟩;have PY:p4≠st:=λz=>by rw[z,e7]at zS;cases zS
   refine⟨_,rfl,st,4,rfl,⟨a5,b5,by rw[aq PY.symm];exact e7,k1,k2,k3⟩,by decide,by decide,λr3 a6 b6 z0 z1 l1 l2 l3=>?_⟩;obtain⟨wn,Uk,u1,u2⟩:∃wn:Int,ŏ [V.int wd,V.int 1,V.int wd,V.int 3] r3=some (.int wn)/\1<=wn/\wn<=1000:=by
    have:r3=0\/r3=1\/r3=2\/r3=3:=Z1;rcases this with rfl|rfl|rfl|rfl;.exact⟨wd,rfl,w1,w2⟩
    .exact⟨1,rfl,by decide,by decide⟩
    .exact⟨wd,rfl,w1,w2⟩
    .exact⟨3,rfl,by decide,by decide⟩
   refine⟨p4,_,r3,.int wn,rfl,rfl,É.of (by rw[aq PY];exact aj),Uk,st,wn,rfl,⟨a6,b6,aj,l1,l2,l3⟩,u1,Z1,λr4 a7 b7 v0 v1 m1 m2 m3=>?_⟩;refine⟨3-(j+1),Z1,rfl,aE,is++[r4],_,by rw[ë];rfl,by rw[ì,DH];rfl,λv Ul=>?_,rfl,λb' o' e' ne=>?_,⟨a7,b7,aj,m1,m2,m3⟩⟩
   .rcases ē.mp Ul with z|z;.exact hv v z
    .rw[Ū.mp z];lia
   .have e8:=GN b' o' e' ne;rw[aq ne,aq ne,aq (az e8 zS)];exact e8
  .have e5:j=3:=Z1;subst e5;have e9:=GN _ _ e3 hU;refine .inl ⟨Ø _,λD hD=>⟨D,_,rfl,.inl ⟨É.of aj,λl fk=>?_⟩⟩⟩;have sm:À H2 (upd (upd H2 D (.lst (is.map V.int))) l (.tup (is.map V.int))):=(À.upd hD).updR fk;refine⟨p3,xs,.ref l,rfl,rfl,sm _ _ e9,by rw[hl,sizeLine_eq];lia,?_⟩;have DZ:l≠p3:=λz=>by rw[z,À.upd hD _ _ e9]at fk;cases fk
   have tk:∀c l',(upd (upd H2 D (.lst (is.map V.int))) l (.tup (is.map V.int))) c=some (.tup l')->(upd (upd (upd H2 D (.lst (is.map V.int))) l (.tup (is.map V.int))) p3 (.lst (xs++[.ref l]))) c=some (.tup l'):=λc l' e'=>by
    have:c≠p3:=λz=>by rw[z,sm _ _ e9]at e';cases e'
    rw[aq this];exact e'
   refine⟨xs++[.ref l],ds++[is],_,rfl,λb' o' e' ne=>?_,?_,aj,?_,?_,?_,by rw[ì,hl];rfl⟩;.have k4:=(vx b' o' e' ne).2;rw[aq k4];exact sm _ _ (GN _ _ (bt b' o' e' ne) ne)
   .obtain⟨a5,b5,e7,k1,k2,k3⟩:=PX;exact⟨a5,b5,by rw[aq hU.symm];exact sm _ _ e7,k1,k2,k3⟩
   .rw[ë];refine Å.append ?_ (.cons (.tup (by rw[aq DZ];exact aj) (Å.ints is)) .nil);have Um:Å (λ_=>False) H2 xs (ds.map cu):=ts.keep (λc l' e'=>GN c _ e' (λz=>by obtain⟨a5,b5,e7,_⟩:=sa;rw[z,e7]at e';cases e')) (λ_ _ z _=>z.elim) λ_ _ z _=>z.elim;exact(Um.same sm).keep tk (λ_ _ z _=>z.elim) λ_ _ z _=>z.elim
   .intro r hr;rcases ē.mp hr with z|z;.exact tm r z
    .rw[Ū.mp z];exact⟨DH,hv⟩
   .rw[ì,hs];rfl
 .rintro σ H'⟨xs,ds,x4,rfl,bt,sa,e3,ts,tm,hs,hl⟩;refine⟨_,rfl,p3,xs,rfl,.inl ⟨É.of e3,λl oQ=>q _ _ ⟨ds,λb' o' e' ne=>?_,?_,.tup aj ?_,Z1,Z1,tm⟩⟩⟩;.rw[aq (az (bt b' o' e' ne) oQ)];exact bt b' o' e' ne
  .obtain⟨a',b',e',j1,j2,j3⟩:=sa;exact⟨a',b',by rw[aq (az e' oQ)];exact e',j1,j2,j3⟩
  .exact(ts.same (À.upd oQ)).keep (λ_ _ e=>e) (λ_ _ z _=>z.elim) λ_ _ z _=>z.elim
theorem Ft(h:decide (ϻ u=.non)=true):u=none:=by have:=ŋ h;cases u with|none=>rfl;|some n=>cases this
theorem Ci(F:Û K "_law_sales" "_law_sales" (top 81) f fd)(T:Mg mg)(Tr:mg "range"=none)(c1:ã P w K mg base 1 AAt [ċ,AAr] lV)(c2:ã P w K mg base 2 ABd [ċ,Z4] J9)(c3:ã P w K mg base 2 "_law_sold" [Z4,ŧ] Fe):Í P w K mg base Ý 3 f fd [ċ,Z4,Š] wj:=by
 refine F.oq Ű λai A outer s H vs Q E hr h=>?_;obtain⟨st,ap,xp,ps,n,rfl,eW,rp,lp,okp,n0,n1,q⟩:=h;refine⟨_,aC (ć 3 Ű.nd (Gz cj)) (aC (bZ ĥ rfl (d7 rfl Tr (aA (aQ fY (aJ c1 hr (aA (pv 0) (aA (aQ bL (pv 2) aB) ao))) (bB Ak rfl T.int ų (aA (jf mD (aM bu rfl T.len PySem.boot_len (aA (pv 1) ao)) aB (bh _)) ao))) ao)) (Î 4 Ű.nd) (aC (ć 5 Ű.nd (aQ zH (pv 3) (bO (aA (aJ c2 hr (aA (pv 0) (aA (pv 1) ao))) ao)))) (aF (cG (bf rW (pX cB (aJ c3 hr (aA (pv 1) (aA (pv 5) ao))) aB) fW (bh _)) (aF (ć 3 Ű.nd (pv 5))) bj)))) (aF (aR (pv 3)))),?_⟩;have g0:Dr st H H:=⟨Ι.refl,eW⟩;refine aX λc_ av=>?_;refine aU ?_;refine⟨zL,λe0 PZ=>?_⟩;have g1:=g0.new (o:=.tup []) PZ;have r1:Ã (upd H e0 (.tup [])) e0 [] []:=⟨aj,rfl,λi r e=>by simp at e⟩;have kN:=rp.same (À.upd (o:=.tup []) PZ);generalize upd H e0 (.tup [])=H1 at g1 r1 kN⊢;refine aG ?_;refine av _ _ ?_;clear av c_;try dsimp only
 refine aH ?_;refine⟨_,rfl,_,rfl,_,_,rfl,rfl,st,n+1,rfl,g1.sa,Z1,Z1,λr a1 b1 k0 kn k1 k2 k3=>?_⟩;have g2:=g1.take k1 k2 k3;have MQ:=(Dr.take ⟨Ι.refl,g1.sa⟩ k1 k2 k3:Dr st H1 _).rows g1.sa kN;have r2:=(Dr.take ⟨Ι.refl,g1.sa⟩ k1 k2 k3:Dr st H1 _).rows g1.sa r1;generalize upd H1 st (.lst [.int a1,.int b1])=H2 at g2 MQ r2⊢;refine⟨_,rfl,ap,xp,rfl,.inr (Ê.of MQ.e),_,_,rfl,rfl,.inr ⟨_,rfl,_,_,rfl,rfl,.inl ⟨Z1,Z1⟩,_,rfl,?_,?_,?_⟩⟩;.split<;>lia
 .split<;>lia
 refine cU (lo:=0) (λi σ Hc=>∃a xs ss x4 x5,σ=[some (.ref st),some (.ref ap),some (.int n),some (.ref a),x4,x5]/\Dr st H Hc/\Ã Hc ap xp ps/\Ã Hc a xs ss/\ss.length<=i/\(∀s∈ss,smR s)/\un ps ss=none) ?_ ?_ ?_;.exact⟨e0,[],[],none,none,rfl,g2,MQ,r2,Ø _,(λ_ h=>nomatch h),rfl⟩
 .rintro i σ Hc hi⟨a,xs,ss,x4,x5,rfl,g,MR,GO,ls,cy,vE⟩;have hi:i<12:=by split at hi<;>lia
  refine aG ?_;refine aX λc_ av=>?_;refine aU ?_;refine⟨_,rfl,_,rfl,_,rfl,st,ap,xp,ps,rfl,g.sa,MR,lp,okp,λt s' H3 d3 et sm=>⟨zL,λt1 pb=>?_⟩⟩;have Uo:=d3.rows g.sa MR;have MU:=d3.rows g.sa GO;have m4:=À.upd (o:=.tup [V.ref t]) pb;refine⟨a,t1,xs,_,rfl,rfl,m4 _ _ MU.e,aj,by simp,by rw[GO.l,sizeLine_eq];show _+1<=_;lia,λc H5 s5 ec=>?_⟩;have P0:=rE ((MU.same m4).same s5) (s5 _ _ (m4 _ _ et)) ec;have MV:=(Uo.same m4).same s5;have g5:=((g.trans d3).same m4).same s5;have P1:∀s∈ss++[s'],smR s:=λs hs=>by
   rcases ē.mp hs with z|z;.exact cy s z
   .rw[Ū.mp z];exact sm
  have l5:(ss++[s']).length<=i+1:=by rw[ì];show ss.length+1<=_;lia
  refine aG ?_;refine av _ _ ?_;clear av c_;try dsimp only
  refine⟨_,rfl,_,rfl,ap,xp,ps,c,_,ss++[s'],rfl,MV,lp,okp,P0,Z1,λs hs=>(P1 s hs).1,λtt fo H6 s6 GS=>?_⟩;refine⟨tt,_,1,ϻ (un ps (ss++[s'])),rfl,rfl,Ê.of GS,rfl,rfl,_,rfl,mU (λhb=>?_) λ_=>?_⟩;.exact⟨_,rfl,c,_,ss++[s'],_,_,rfl,g5.same s6,MV.same s6,P0.same s6,l5,P1,Ft hb⟩
  .exact⟨a,xs,ss,_,_,rfl,g5.same s6,MV.same s6,((MU.same m4).same s5).same s6,Z1,cy,vE⟩
 .rintro σ Hc⟨a,xs,ss,x4,x5,rfl,g,MR,GO,ls,cy,vE⟩;refine⟨_,rfl,q a xs ss Hc g GO ?_ cy vE⟩;split at ls<;>lia
theorem Cj(F:Û K "_law_book" "_law_book" (top 82) f fd)(T:Mg mg)(c1:ã P w K mg base 2 "_law_clips" [ċ,Š] wg)(c2:ã P w K mg base 2 ABc [ċ,Š,AAo] vZ)(c3:ã P w K mg base 3 "_law_sales" [ċ,Z4,Š] wj):Í P w K mg base Ý 4 f fd [ċ,AAo,Š,ŧ] zO:=by
 refine F.oq Ϥ λai A outer s H vs Q E hr h=>?_;obtain⟨st,y,m,k,rfl,eW,y1,y2,m1,m2,k1,k2,q⟩:=h;refine⟨_,aC (ć 4 Ϥ.nd (aJ c1 hr (aA (pv 0) (aA (pv 1) ao)))) (aC (ć 5 Ϥ.nd (aJ c2 hr (aA (pv 0) (aA (pv 2) (aA (aM bu rfl T.len PySem.boot_len (aA (pv 4) ao)) ao))))) (aF (aR (bO (aA (pv 4) (aA (pv 5) (aA (aJ c3 hr (aA (pv 0) (aA (pv 5) (aA (pv 3) ao)))) ao))))))),?_⟩;refine aX λc_ av=>?_;refine aU ?_;refine⟨_,rfl,_,rfl,st,y,rfl,eW,y1,y2,λvc H1 mc=>?_⟩;obtain⟨cs,Up,MW,Uq,gL,MX,okc⟩:=mc;have d1:Dr st H H1:=⟨Up,MW⟩;obtain⟨ac,xc,rfl,rc⟩:=kW Uq;refine aG ?_;refine av _ _ ?_;clear av c_;try dsimp only
 refine aX λc_ av=>?_;refine aU ?_;have lc:=rc.l;refine⟨_,rfl,_,rfl,_,rfl,ac,xc,rfl,.inr (Ê.of rc.e),st,m,_,rfl,MW,m1,m2,Z1,Z1,λvp H2 mp=>?_⟩;obtain⟨ps,Ur,GU,FK,Y2,okp⟩:=mp;have d2:Dr st H1 H2:=⟨Ur,GU⟩;obtain⟨ap,xp,rfl,rp⟩:=kW FK;have Us:=d2.rows MW rc;refine aG ?_;refine av _ _ ?_;clear av c_;try dsimp only
 refine⟨_,rfl,_,rfl,_,rfl,_,rfl,_,rfl,st,ap,xp,ps,k,rfl,GU,rp,Z1,okp,k1,k2,λar xs ss H3 d3 rs ls cy vE=>⟨zL,λa ha=>?_⟩⟩;have MY:=(d1.trans d2).trans d3;have ma:=À.upd (o:=.tup [V.ref ac,V.ref ap,V.ref ar]) ha;exact q a ac xc cs ap xp ps ar xs ss _ (MY.new ha) aj ((d3.rows GU Us).same ma) gL MX okc ((d3.rows GU rp).same ma) Z1 okp (rs.same ma) Z1 cy vE
inductive ο(vs:List V)(H:Hp)(Q:VK):Prop|mk:∀S v d,(vs=[v])->(Ò S H v d)->(sz d<=4000)->(jr d=true)->(∀H',À H H'->Q .non H')->ο  vs H Q
def Fv:Sp:=λvs H Q _=>ο  vs H Q
theorem MK:Á ["thing","least","most"] ["thing","least","most"] (aD (top 21)):=ù
theorem qz(F:Û K "is_whole_from" "is_whole_from" (top 21) f fd)(c1:ã P w K mg base 1 "is_whole" ["thing"] (ō dJ)):Í P w K mg base Ý 2 f fd ["thing","least","most"] (lO lU):=by refine F.oq MK λai A outer s H vs Q E hr h=>?_;obtain⟨S,v,d,n,m,rfl,th,hz,q⟩:=h;refine⟨_,aF (aR (cR (aJ c1 hr (aK (pv 0) ao)) (fX (dw bT bT (pv 1) (pv 0) (pv 2))))),?_⟩;refine⟨_,rfl,S,v,d,rfl,th,hz,λH1 s1=>⟨_,rfl,?_⟩⟩;have fin:=q H1 s1;unfold lU at fin;cases e:dJ d with|false=>rw[e]at fin;exact bH fin;|true=>rw[e]at fin;obtain⟨i,rfl,rfl⟩:=lR th e;exact cg (cz (eF rfl) (eF rfl) (eF rfl) _ fin)
theorem Jb:Á ["thing"] ["thing"] (aD (top 44)):=ù
theorem HW(F:Û K "refuse_no_book" "refuse_no_book" (top 44) f fd)(c1:ã P w K mg base 6 "is_book" ["thing"] (ō jr)):Í P w K mg base Ý 7 f fd ["thing"] Fv:=by refine F.oq Jb λai A outer s H vs Q E hr h=>?_;obtain⟨S,v,d,rfl,th,hz,hb,q⟩:=h;refine⟨_,aF (cG (cC (dH (aJ c1 hr (aK (pv 0) ao)))) (aF jH) bj),?_⟩;refine⟨_,rfl,S,v,d,rfl,th,hz,λH1 s1=>⟨_,rfl,?_⟩⟩;rw[hb];exact bH (q _ s1)
structure í(H:Hp)(bk ac:Addr)(xc:List V)(cs:PK)(ap:Addr)(xp:List V)(ps:PK)(ar:Addr)(xs:List V)(ss:PK):Prop where
 e:H bk=some (.tup [.ref ac,.ref ap,.ref ar])rc:Ã H ac xc cs
 okc:∀r∈cs,r.length=3/\∀x∈r,0<=x
 lc:cs.length<=20
 rp:Ã H ap xp ps
 lp:ps.length<=10
 okp:∀r∈ps,č r
 rs:Ã H ar xs ss
 ls:ss.length<=12
 h5:∀s∈ss,s.length=5
 un:un ps ss=none
theorem í.same(b:í H bk ac xc cs ap xp ps ar xs ss)(s:À H H'):í H' bk ac xc cs ap xp ps ar xs ss:=⟨s _ _ b.e,b.rc.same s,b.okc,b.lc,b.rp.same s,b.lp,b.okp,b.rs.same s,b.ls,b.h5,b.un⟩
theorem rH:∀(is:PP),Ģ (is.map PyData.int)=is.length|[]=>rfl|i::is=>by show 1+Ģ (is.map PyData.int)=is.length+1;rw[rH is];lia
theorem j8:∀{rs:PK},(∀r∈rs,r.length=k)->Ģ (rs.map cu)=(k+1)*rs.length|[],_=>rfl|r::rs,h=>by show(1+Ģ (r.map PyData.int))+Ģ (rs.map cu)=(k+1)*(rs.length+1);rw[rH,h r (.head _),j8 λq hq=>h q (.tail _ hq),Nat.mul_add];lia
theorem Kf(h:č r):∀i∈r,-10<=i/\i<=2000000:=by obtain⟨h0,h1,h2,h3,h4,h5⟩:=h;rw[dW h0];intro i hi;simp only[List.mem_cons,List.not_mem_nil,or_false]at hi;rcases hi with rfl|rfl|rfl|rfl|rfl|rfl<;>lia
theorem rJ(rs:PK):ß (bU rs)=rs:=by show(rs.map cu).map (λx=>(items x).map î)=rs;rw[ħ];refine(Zbf λr _=>?_).trans (List.map_id rs);show((r.map PyData.int)).map î=r;rw[ħ];exact List.map_id r
theorem my{n:Nat}(h:r.length=n):bK (cu r) n=true:=by
 show(bG (.tuple (r.map PyData.int)) n n&&(r.map PyData.int).all dJ)=true;rw[ġ];refine⟨?_,Ő.mpr λx hx=>?_⟩;.show(true&&(decide ((n:Int)<=(r.map PyData.int).length)&&decide (((r.map PyData.int).length:Int)<=n)))=true;rw[Ð,h,ñ (Za8 _)];rfl
 .obtain⟨i,_,rfl⟩:=è.mp hx;rfl
theorem xY(h1:a<=ds.length)(h2:(ds.length:Int)<=b):bG (.tuple ds) a b=true:=by show(true&&(decide (a<=(ds.length:Int))&&decide ((ds.length:Int)<=b)))=true;rw[ñ h1,ñ h2];rfl
theorem zP{cs ps ss:PK}(gL:1<=cs.length)(lc:cs.length<=20)(okc:∀r∈cs,okC r)(lp:ps.length<=10)(okp:∀r∈ps,č r)(ls:ss.length<=12)(h5:∀s∈ss,s.length=5)(hu:un ps ss=none):jr (.tuple [bU cs,bU ps,bU ss])=true:=by
 have b0:iZ (bU cs)=true:=by show(bG (.tuple (cs.map cu)) 1 20&&(cs.map cu).all qX)=true;rw[xY (by rw[Ð];lia) (by rw[Ð];lia),Bool.true_and];refine Ő.mpr λx hx=>?_;obtain⟨r,hr,rfl⟩:=è.mp hx;obtain⟨h3,hb⟩:=okc r hr;show(bK (cu r) 3&&(r.map PyData.int).all λx=>decide (0<=î x)&&decide (î x<=999))=true;rw[show bK (cu r) 3=true from my h3,Bool.true_and];refine Ő.mpr λx hx=>?_;obtain⟨i,hi,rfl⟩:=è.mp hx;have:=hb i hi;show(decide (0<=i)&&decide (i<=999))=true;rw[ñ Z1,ñ Z1];rfl
 have b1:gh (bU ps)=true:=by
  show(bG (.tuple (ps.map cu)) 0 10&&(ps.map cu).all kI)=true;rw[xY Z1 (by rw[Ð];lia),Bool.true_and];refine Ő.mpr λx hx=>?_;obtain⟨r,hr,rfl⟩:=è.mp hx;obtain⟨h6,h1,h2,h3,h4,Ut⟩:=okp r hr;show(bK (cu r) 6&&tO (at_ (cu r) 0) (at_ (cu r) 1) (at_ (cu r) 2) (at_ (cu r) 3) (at_ (cu r) 4) (at_ (cu r) 5))=true;rw[show bK (cu r) 6=true from my h6,Bool.true_and];have ea:∀i,i<6->at_ (cu r) i=fl r i:=λi hi=>by unfold at_ fl;show î ((r.map PyData.int).getD i .none)=r.getD i 0;rw[Ğ,Ğ,ý,Ö Z1];rfl
  rw[ea 0 Z3,ea 1 Z3,ea 2 Z3,ea 3 Z3,ea 4 Z3,ea 5 Z3];unfold tO;simp only[Bool.and_eq_true,ă];exact⟨h1,h2,⟨h3.1,h3.2.1,h3.2.2⟩,h4,Ut⟩
 have b2:gj (bU ss)=true:=by show(bG (.tuple (ss.map cu)) 0 12&&(ss.map cu).all λx=>bK x 5)=true;rw[xY Z1 (by rw[Ð];lia),Bool.true_and];refine Ő.mpr λx hx=>?_;obtain⟨r,hr,rfl⟩:=è.mp hx;exact my (h5 r hr)
 show(bG (.tuple [bU cs,bU ps,bU ss]) 3 3&&(iZ (bU cs)&&(gh (bU ps)&&(gj (bU ss)&&(un (ß (bU ps)) (ß (bU ss))).isNone))))=true;rw[b0,b1,b2,rJ,rJ,hu];rfl
end K52
open K52P (ok_b)
namespace K52
open PySem L2
def Fw(P:Program)(w:World)(K:Frag)(mg:RG)(base:Heap)(k:Nat)(x:Str)(ps:ç)(sp:Sp):Prop:=∃f fd,Í P w K mg base (Ŧ P w) k f fd ps sp/\mg x=some (.ref f)/\PySem.W.keepIn K (.ref f)=true/\ï K fd ps []
theorem nO{p pos:Pos}(c:Fw X.prog X.w X.K X.mg X.base j x ps sp)(hr:ä k X.A)(hjk:j<=k)(hg:Gl X x)(W:vf X λa C H=>E (.ref a) (some C) H)(hx:X.ex=[])(ha:PA X (e::es) t)(fe:ū x:=by decide)(he:Qa6 X e es:=by rfl)(eR:Qa7 X pos es:=by rfl):PE X (.Call (.Name x p) (e::es) [] pos) (uD sp [] E t):=by obtain⟨f,fd,F,m,k',b⟩:=c;exact yq F (hr.mono hjk) hg m k' b .nil (IK W hx) ha fe he eR
abbrev VE:gV:=[.type "ValueError",.type "Exception",.type "BaseException",.type "object"]
def words:ç:=["clips","promises","sales","book","number","year","weights","paper","growth","promise","sort","clip","sale","deed","text","line"]
theorem cN(h:te σ H λx H1=>tr σ H1 λxs H2=>Q (x::xs) H2):iH te tr σ H Q:=h
theorem Fx:PE X e (λ_ _ _=>False):=λ_ _ _ _ _ _ h=>h.elim
structure BT(X:Cx)(e:Expr)(t:TT):Prop where run:PT X e t
section
theorem Fy{j}(hl:BE X (.Name y q') tl)(hline:(p.endLine==pos.line)=true:=by rfl):BE X (.Call (.Attribute (.Name y q') "count" p) [.Constant (.bool k) j q] [] pos) (tBM X.K "list" yP tl (iH (tC (.bl k)) wK)):=⟨gK ό PySem.F.slot_list_count PySem.F.type_list_count Bt hl.run (aA jG ao) (hline:=hline)⟩
theorem Fz{j}(hl:BE X (.Name y q') tl)(hline:(p.endLine==pos.line)=true:=by rfl):BE X (.Call (.Attribute (.Name y q') "index" p) [.Constant (.bool k) j q] [] pos) (tBM X.K "list" yQ tl (iH (tC (.bl k)) wK)):=⟨gK ό PySem.F.slot_list_index PySem.F.type_list_index Bu hl.run (aA jG ao) (hline:=hline)⟩
theorem Kg(hc:BT X c t)(ha:BE X a ta)(hb:BE X b tb):BE X (.IfExp c a b pos) (tIf t ta tb):=⟨oh hc.run ha.run hb.run⟩
theorem Kh(h:BE X (.Subscript a b p) ta):BT X (.Subscript a b p) (tB ta):=⟨dH h.run⟩
theorem HX{es ks}(h:BE X (.Call a es ks p) ta):BT X (.Call a es ks p) (tB ta):=⟨dH h.run⟩
theorem Kl(h:BT X a t):BT X (.UnaryOp .Not a pos) (Kv t):=⟨cC h.run⟩
theorem Km(ha:BT X a t)(hb:BT X b u):BT X (.BoolOp .Or [a,b] pos) (tOr t u):=⟨PW.pt (o9 ha.run (o7 hb.run))⟩
theorem MN{j}(ha:BE X a ta):BT X (.Compare a [.NotEq] [.Constant (.int i) j q] pos) (CP (ώ rNe ta (tC (.int i)))):=⟨bf CN ha.run aB (bh _)⟩
theorem zQ(hc:BT X c t)(hx:BSs X x v)(hy:BSs X y z):BS X (.If c x y pos) (Kz t v z):=⟨cG hc.run hx.run hy.run⟩
theorem nP:BSs X [] Cw:=⟨bj⟩
end
structure Z0p(mg:RG)(Cs:Nat->Addr):Prop where n0:mg "NoClips"=some (.ref (Cs 0))n1:mg "NoPromises"=some (.ref (Cs 1))n2:mg "NoSales"=some (.ref (Cs 2))n3:mg "NoBook"=some (.ref (Cs 3))n4:mg "NoNumber"=some (.ref (Cs 4))n5:mg "NoYear"=some (.ref (Cs 5))n6:mg "NoWeights"=some (.ref (Cs 6))n7:mg "NoPaper"=some (.ref (Cs 7))n8:mg "NoGrowth"=some (.ref (Cs 8))n9:mg "NoPromise"=some (.ref (Cs 9))n10:mg "NoSort"=some (.ref (Cs 10))n11:mg "NoClip"=some (.ref (Cs 11))n12:mg "NoSale"=some (.ref (Cs 12))n13:mg "NoDeed"=some (.ref (Cs 13))n14:mg "NoText"=some (.ref (Cs 14))n15:mg "NoLine"=some (.ref (Cs 15))n16:mg "TooMany"=some (.ref (Cs 16))wool:mg "WoolError"=some (.ref (Cs 17))
structure ϗ(K:Frag)(Cs:Nat->Addr)(j:Nat):Prop where
 lt:j<16
 ex:ϴ K (Cs j)ca:ť K (Cs j) (Cs 17)on:∀i,i<17->PySem.W.kitOne K (.ref (Cs j)) (.ref (Cs i))=some (decide (i=j))ve:PySem.W.kitOne K (.ref (Cs j)) (.type "ValueError")=some true
inductive ρ(K:Frag)(Cs:Nat->Addr)(vs:List V)(H:Hp)(Q:VK):Prop|mk:∀a j,(vs=[.ref a])->(H a=some (.ext (ô a (Cs j))))->(ϗ K Cs j)->(∀p H',À H H'->H' p=some (.tup [.str (words.getD j "")])->Q (.ref p) H')->ρ K Cs vs H Q
def FJ(K:Frag)(Cs:Nat->Addr):Sp:=λvs H Q _=>ρ K Cs vs H Q
def ı(j:Nat):List Bool:=(List.range 17).map λi=>decide (i=j)
theorem wk:∀j,j<17->(ı j).count true=1:=by decide+kernel
theorem FN(h:j<17):(ı j)[j]?=some true:=by unfold ı;rw[ý,Zbg h];simp
theorem FP(h:i<j):(ı j)[i]?≠some true:=by
 unfold ı;rw[ý];by_cases hi:i<17;.rw[Zbg hi];simp;lia
 .rw[Zan (by simp;lia)];simp
theorem HY:bootBuiltins "ValueError"=some (.type "ValueError"):=by decide+kernel
theorem FQ{j:Nat}(h:j<16):ŏ (words.map V.str) (j:Int)=some (.str (words.getD j "")):=by
 have hl:words.length=16:=rfl;have:words[j]?=some (words.getD j ""):=by rw[Ğ,Ö Z1];rfl
 refine dU ?_;rw[ý,this];rfl
theorem dC{p q r pos:Pos}(hN:X.N[i]?=some y)(hv:Vis X.env.scope y)(hI:Gl X "isinstance")(mI:X.mg "isinstance"=none)(hg:Gl X x)(hm:X.mg x=some (.ref D))(hd:(y==("__debug__":Str))=false:=by decide)(eB:(y==("__classdict__":Str))=false:=by decide)(hd2:ū x:=by decide):BE X (.Call (.Name "isinstance" p) [.Name y q,.Name x r] [] pos) (tCB (λxs H Q=>∃a C c b,xs=[.ref a,c]/\H a=some (.ext (ô a C))/\ϴ X.K C/\((∃D,c=.ref D/\PySem.W.kitOne X.K (.ref C) (.ref D)=some b)\/∃n,c=.ty n/\PySem.W.kitOne X.K (.ref C) (.type n)=some b)/\Q (.bl b) H) (iH (uw i) (iH (tC (.ref D)) wK))):=⟨aM jZ hI mI á (aA (wA hN hv hd eB) (aA (bM (v:=.ref D) hg hm rfl hd2) ao))⟩
theorem dD(Z:ϗ K Cs j)(hi:i<17)(e:H a=some (.ext (ô a (Cs j))))(gI:σ[0]?=some (some (.ref a)))(h:Q (.bl (decide (i=j))) H):tCB (λxs H Q=>∃a C c b,xs=[.ref a,c]/\H a=some (.ext (ô a C))/\ϴ K C/\((∃D,c=.ref D/\PySem.W.kitOne K (.ref C) (.ref D)=some b)\/∃n,c=.ty n/\PySem.W.kitOne K (.ref C) (.type n)=some b)/\Q (.bl b) H) (iH (uw 0) (iH (tC (.ref (Cs i))) wK)) σ H Q:=⟨_,gI,a,Cs j,.ref (Cs i),_,rfl,e,Z.ex,.inl ⟨_,rfl,Z.on i hi⟩,h⟩
theorem ů:Á ["_law_e","_law_names","_law_kinds"] ["_law_e"] (aD (top 86)):=ù
theorem I9(F:Û K "_law_kind" "_law_kind" (top 86) f fd)(T:Mg mg)(Tv:mg "ValueError"=none)(L:Z0p mg Cs):ş P w K mg base Ý 1 f fd ["_law_e"] (FJ K Cs):=by refine F.oqU ů λai A outer s H vs Q E hr h=>?_;obtain⟨a,j,rfl,ea,Z,q⟩:=h;refine ok_b (aN (fQ 1 ů.nd (fj (bJ dz (bJ dz (bJ dz (bJ dz (bJ dz (bJ dz (bJ dz (bJ dz (bJ dz (bJ dz (bJ dz cj))))))))))))) (aN (fQ 1 ů.nd (jT iM ⟨pv 1⟩ (fj (bJ dz (bJ dz (bJ dz (bJ dz (bJ dz cj)))))))) (aN (fQ 2 ů.nd (fj (bJ (dC (i:=0) rfl (Or.inl rfl) rfl T.isinstance rfl L.n0) (bJ (dC (i:=0) rfl (Or.inl rfl) rfl T.isinstance rfl L.n1) (bJ (dC (i:=0) rfl (Or.inl rfl) rfl T.isinstance rfl L.n2) (bJ (dC (i:=0) rfl (Or.inl rfl) rfl T.isinstance rfl L.n3) cj)))))) (aN (fQ 2 ů.nd (jT iM ⟨pv 2⟩ (fj (bJ (dC (i:=0) rfl (Or.inl rfl) rfl T.isinstance rfl L.n4) (bJ (dC (i:=0) rfl (Or.inl rfl) rfl T.isinstance rfl L.n5) (bJ (dC (i:=0) rfl (Or.inl rfl) rfl T.isinstance rfl L.n6) cj)))))) (aN (fQ 2 ů.nd (jT iM ⟨pv 2⟩ (fj (bJ (dC (i:=0) rfl (Or.inl rfl) rfl T.isinstance rfl L.n7) (bJ (dC (i:=0) rfl (Or.inl rfl) rfl T.isinstance rfl L.n8) (bJ (dC (i:=0) rfl (Or.inl rfl) rfl T.isinstance rfl L.n9) cj)))))) (aN (fQ 2 ů.nd (jT iM ⟨pv 2⟩ (fj (bJ (dC (i:=0) rfl (Or.inl rfl) rfl T.isinstance rfl L.n10) (bJ (dC (i:=0) rfl (Or.inl rfl) rfl T.isinstance rfl L.n11) (bJ (dC (i:=0) rfl (Or.inl rfl) rfl T.isinstance rfl L.n12) (bJ (dC (i:=0) rfl (Or.inl rfl) rfl T.isinstance rfl L.n13) cj))))))) (aN (fQ 2 ů.nd (jT iM ⟨pv 2⟩ (fj (bJ (dC (i:=0) rfl (Or.inl rfl) rfl T.isinstance rfl L.n14) (bJ (dC (i:=0) rfl (Or.inl rfl) rfl T.isinstance rfl L.n15) (bJ (dC (i:=0) rfl (Or.inl rfl) rfl T.isinstance rfl L.n16) cj)))))) (aN (zQ (Km (MN (Fy ⟨pv 2⟩)) (Kl (HX ⟨aM jZ rfl T.isinstance á (aA (pv 0) (aA (ni rfl Tv HY (v:=.ty "ValueError") rfl) ao))⟩))) (bW (fZ (iw (bJ dz cj)))) nP) (bW (fZ (Kg (Kh (qP bV ⟨pv 2⟩ tu (λ_ _=>rfl))) ⟨Fx⟩ (iw (bJ (qP bV ⟨pv 1⟩ (Fz ⟨pv 2⟩) (λ_ _=>rfl)) cj))))))))))))) ?_;refine aH ?_;refine⟨by decide,λp1 mP=>?_⟩;refine aG ?_;dsimp only;refine eV (λH1=>À H H1/\H1 p1=some (.lst [.str "clips",.str "promises",.str "sales",.str "book",.str "number",.str "year",.str "weights",.str "paper",.str "growth",.str "promise",.str "sort"])) ⟨À.upd mP,aj⟩ λH1=>?_;rintro⟨s1,e1⟩;refine aH ?_;refine⟨_,rfl,by decide,λp2 iA=>⟨p1,p2,_,_,rfl,rfl,À.upd iA _ _ e1,aj,by decide,λl2 eC=>?_⟩⟩;refine aG ?_;dsimp only;refine eV (λH2=>À H H2/\H2 l2=some (.lst (words.map V.str))) ⟨(s1.updR iA).updR eC,aj⟩ λH2=>?_;rintro⟨s2,e2⟩;have GV:=s2 _ _ ea;refine aH (aU ?_);refine oZ (cN ?_);refine dD (i:=0) Z Z3 GV rfl ?_;refine cN ?_;refine dD (i:=1) Z Z3 GV rfl ?_;refine cN ?_;refine dD (i:=2) Z Z3 GV rfl ?_;refine cN ?_;refine dD (i:=3) Z Z3 GV rfl ?_;refine⟨zL,λp3 fq=>?_⟩;refine aG ?_;dsimp only;refine eV (λH3=>À H H3/\H3 l2=some (.lst (words.map V.str))/\H3 p3=some (.lst ([decide (0=j),decide (1=j),decide (2=j),decide (3=j)].map V.bl))) ⟨s2.updR fq,À.upd fq _ _ e2,aj⟩ λH3=>?_;rintro⟨s3,e3,f3⟩;have MZ:=s3 _ _ ea;refine aH (aU ?_);refine⟨_,rfl,?_⟩;refine oZ (cN ?_);refine dD (i:=4) Z Z3 MZ rfl ?_;refine cN ?_;refine dD (i:=5) Z Z3 MZ rfl ?_;refine cN ?_;refine dD (i:=6) Z Z3 MZ rfl ?_;refine⟨zL,λp4 zS=>⟨p3,p4,_,_,rfl,rfl,À.upd zS _ _ f3,aj,zL,λl4 fk=>?_⟩⟩;refine aG ?_;dsimp only;refine eV (λH4=>À H H4/\H4 l2=some (.lst (words.map V.str))/\H4 l4=some (.lst ([decide (0=j),decide (1=j),decide (2=j),decide (3=j),decide (4=j),decide (5=j),decide (6=j)].map V.bl))) ⟨(s3.updR zS).updR fk,À.upd fk _ _ (À.upd zS _ _ e3),aj⟩ λH4=>?_;rintro⟨s4,e4,f4⟩;have M0:=s4 _ _ ea;refine aH (aU ?_);refine⟨_,rfl,?_⟩;refine oZ (cN ?_);refine dD (i:=7) Z Z3 M0 rfl ?_;refine cN ?_;refine dD (i:=8) Z Z3 M0 rfl ?_;refine cN ?_;refine dD (i:=9) Z Z3 M0 rfl ?_;refine⟨zL,λp5 AX=>⟨l4,p5,_,_,rfl,rfl,À.upd AX _ _ f4,aj,zL,λl5 P2=>?_⟩⟩;refine aG ?_;dsimp only;refine eV (λH5=>À H H5/\H5 l2=some (.lst (words.map V.str))/\H5 l5=some (.lst ([decide (0=j),decide (1=j),decide (2=j),decide (3=j),decide (4=j),decide (5=j),decide (6=j),decide (7=j),decide (8=j),decide (9=j)].map V.bl))) ⟨(s4.updR AX).updR P2,À.upd P2 _ _ (À.upd AX _ _ e4),aj⟩ λH5=>?_;rintro⟨s5,e5,f5⟩;have GW:=s5 _ _ ea;refine aH (aU ?_);refine⟨_,rfl,?_⟩;refine oZ (cN ?_);refine dD (i:=10) Z Z3 GW rfl ?_;refine cN ?_;refine dD (i:=11) Z Z3 GW rfl ?_;refine cN ?_;refine dD (i:=12) Z Z3 GW rfl ?_;refine cN ?_;refine dD (i:=13) Z Z3 GW rfl ?_;refine⟨zL,λp6 AY=>⟨l5,p6,_,_,rfl,rfl,À.upd AY _ _ f5,aj,zL,λl6 FI=>?_⟩⟩;refine aG ?_;dsimp only;refine eV (λH6=>À H H6/\H6 l2=some (.lst (words.map V.str))/\H6 l6=some (.lst ([decide (0=j),decide (1=j),decide (2=j),decide (3=j),decide (4=j),decide (5=j),decide (6=j),decide (7=j),decide (8=j),decide (9=j),decide (10=j),decide (11=j),decide (12=j),decide (13=j)].map V.bl))) ⟨(s5.updR AY).updR FI,À.upd FI _ _ (À.upd AY _ _ e5),aj⟩ λH6=>?_;rintro⟨s6,e6,f6⟩;have Na:=s6 _ _ ea;refine aH (aU ?_);refine⟨_,rfl,?_⟩;refine oZ (cN ?_);refine dD (i:=14) Z Z3 Na rfl ?_;refine cN ?_;refine dD (i:=15) Z Z3 Na rfl ?_;refine cN ?_;refine dD (i:=16) Z Z3 Na rfl ?_;refine⟨zL,λp7 AZ=>⟨l6,p7,_,_,rfl,rfl,À.upd AZ _ _ f6,aj,zL,λl7 P4=>?_⟩⟩;refine aG ?_;dsimp only;refine eV (λH7=>À H H7/\H7 l2=some (.lst (words.map V.str))/\H7 l7=some (.lst ([decide (0=j),decide (1=j),decide (2=j),decide (3=j),decide (4=j),decide (5=j),decide (6=j),decide (7=j),decide (8=j),decide (9=j),decide (10=j),decide (11=j),decide (12=j),decide (13=j),decide (14=j),decide (15=j),decide (16=j)].map V.bl))) ⟨(s6.updR AZ).updR P4,À.upd P4 _ _ (À.upd AZ _ _ e6),aj⟩ λH7=>?_;rintro⟨s7,e7,f7⟩;have Uu:=s7 _ _ ea;have f7:H7 l7=some (.lst ((ı j).map V.bl)):=f7;have lt:=Z.lt;refine aH ?_;refine⟨_,rfl,.inl ⟨rfl,_,É.of f7⟩,l7,ı j,true,rfl,rfl,f7,rfl,_,rfl,?_⟩;rw[wk j Z1];refine bH ?_;refine⟨_,rfl,a,Cs j,.ty "ValueError",true,rfl,Uu,Z.ex,.inr ⟨_,rfl,Z.ve⟩,_,rfl,?_⟩;refine bH (eQ ?_);dsimp only;refine⟨_,rfl,l7,_,16,.bl (decide (16=j)),rfl,rfl,É.of f7,rfl,_,rfl,?_⟩;rw[Ŋ (by lia:¬16=j)];refine bH ?_;refine⟨_,rfl,_,rfl,.inl ⟨rfl,_,É.of f7⟩,l7,ı j,true,j,rfl,rfl,f7,FN Z1,λi hi=>FP hi,l2,_,j,_,rfl,rfl,É.of e7,FQ lt,zL,λp8 Uv=>?_⟩;exact q p8 _ (s7.updR Uv) aj
def toE(EX:Addr->Addr->Hp->Prop):XK:=λe C H=>match e,C with|.ref a,some C'=>EX a C' H|_,_=>False
def zR(P:Program)(w:World)(K:Frag)(mg:RG)(base:Heap)(kk:Nat)(H:Hp)(fl:Addr)(Qw:VK)(Ew:Addr->Addr->Hp->Prop):Prop:=∃(fd:FuncData)(body:Expr)(N:ç)(vs:List V)(cs:Yq),Ť H fl fd/\ń fd body N/\(∀b o,cs.lookup b=some o->H b=some (held o))/\(∀x c,fd.closure.lookup x=some c->∃o v,cs.lookup c=some o/\o.data=.cell v)/\(∀(i:Nat)(x:Str)(v:V),N[i]?=some x->vs[i]?=some v->∃c u o,fd.closure.lookup x=some c/\Ì v u/\cs.lookup c=some o/\o.data=.cell (some u))/\vs.length=N.length/\∀(A:Around)(outer:List Env)(Q':VK)(E':XK),ä kk A->(∀v H1,Qw v H1->Q' v H1)->(∀a C H1,Ew a C H1->E' (.ref a) (some C) H1)->∃te,(∀s,PE (cxL P w K mg base N fd fl A outer s (er H cs) (λe C H1=>ϳ cs H1->E' e C (fz H1 cs))) body te)/\te (vs.map some) (er H cs) λv H1=>ϳ cs H1->Q' v (fz H1 cs)
theorem Ko{fl:Addr}(KW:σ[i]?=some (some (.ref fl)))(L:zR X.prog X.w X.K X.mg X.base kk H fl Qw Ew)(hr:ä kk X.A)(q1:∀v H1,Qw v H1->Q v H1)(q2:∀a C H1,Ew a C H1->E (.ref a) (some C) H1):JV X i E σ H Q:=by obtain⟨fd,body,N,vs,cs,L,Z,fr,cell,val,hl,run⟩:=L;obtain⟨te,kC,q⟩:=run X.A X.stack Q E hr q1 q2;exact⟨fl,fd,body,N,vs,cs,te,KW,L,Z,fr,cell,val,hl,kC,q⟩
def Kp(P:Program)(w:World)(K:Frag)(mg:RG)(base:Heap)(k:Nat)(x:Str)(ps:ç)(sp:Sp):Prop:=∃f fd,ş P w K mg base Ý k f fd ps sp/\mg x=some (.ref f)/\PySem.W.keepIn K (.ref f)=true/\ï K fd ps []
theorem Ia{p pos:Pos}(c:Kp X.prog X.w X.K X.mg X.base j x ps sp)(hr:ā k X.A)(hjk:j<=k)(hg:Gl X x)(ha:PA X (e::es) t)(fe:ū x:=by decide)(he:Qa6 X e es:=by rfl)(eR:Qa7 X pos es:=by rfl):PE X (.Call (.Name x p) (e::es) [] pos) (uD sp [] E0 t):=by obtain⟨f,fd,F,m,k',b⟩:=c;exact DK F (hr.mono hjk) hg m k' b ha fe he eR
inductive ν(P:Program)(w:World)(K:Frag)(mg:RG)(base:Heap)(Cs:Nat->Addr)(kk:Nat)(vs:List V)(H:Hp)(Q:VK):Prop|mk:∀fl Qw Ew,(vs=[.ref fl])->(zR P w K mg base kk H fl Qw Ew)->((∀v H1,Qw v H1->∀p,H1 p=none->p≠sysModules->Q (.ref p) (upd H1 p (.lst [v]))))->((∀a C H1,Ew a C H1->∃j,C=Cs j/\ϗ K Cs j/\(H1 a=none->∀p H2,À H1 H2->H2 p=some (.tup [.str (words.getD j "")])->Q (.ref p) H2)))->ν P w K mg base Cs kk vs H Q
def xZ(P:Program)(w:World)(K:Frag)(mg:RG)(base:Heap)(Cs:Nat->Addr)(kk:Nat):Sp:=λvs H Q _=>ν P w K mg base Cs kk vs H Q
theorem Z0m:Á [AAy,ϋ,"_law_e"] [AAy] (aD (top 87)):=ù
theorem Ib(F:Û K "_law_said" "_law_said" (top 87) f fd)(L:Z0p mg Cs)(c1:Kp P w K mg base 1 "_law_kind" ["_law_e"] (FJ K Cs)):Í P w K mg base Ý (kk+2) f fd [AAy] (xZ P w K mg base Cs kk):=by
 refine F.oq Z0m λai A outer s H vs Q E hr h=>?_;obtain⟨fl,Qw,Ew,rfl,S,q1,q2⟩:=h;refine⟨_,aC (JT (i:=2) (tb:=λEX=>wC (JV (iJ Ý P w K mg base [AAy,ϋ,"_law_e"] "_law_said" (aD (top 87)) f ai A outer s H E).nox 0 (toE EX)) (bQ 1)) L.wool rfl Z0m.nd rfl rfl rfl rfl (λZ7 xe EX W=>aF (ć 1 Z0m.nd (JW (E:=toE EX) (k:=kk) (hr.mono Z1) rfl (Or.inl rfl) W rfl))) (λv=>aF (aR (Ia c1 (hr.toU.mark v) Z1 rfl (aA (pv 2) ao))))) (aF (aR (Gy (aA (pv 1) ao)))),?_⟩;refine aH (aU ?_);refine Ko (kk:=kk) rfl S (hr.mono Z1) (λv H1 hq=>?_) (λa C H1 hE=>?_);.refine aG ?_;refine⟨_,rfl,zL,λp hp np=>q1 v H1 hq p hp np⟩
 .obtain⟨j,rfl,Z,q3⟩:=q2 a C H1 hE;refine⟨Z.ca,λaf gI fa=>⟨.ref a,?_,a,j,rfl,aj,Z,λp H2 s2 e2=>q3 fa p H2 ((À.upd fa).trans s2) e2⟩⟩;rw[Zaw];have gI:af.length=3:=gI;lia
open PySem.W in
def Ie(K:Frag)(L:þ)(j:Nat):Bool:=decide (j<16)&&((clsIn K (L.getD j 0)).isSome&&(findIn K (.ref (L.getD j 0)) "__getattribute__"==some (some (.builtin "BaseException.__getattribute__"))&&(findIn K (.ref (L.getD j 0)) "__getattr__"==some none&&(findIn K (.ref (L.getD j 0)) "__class__"==some (some (.builtin "object.__class__"))&&(specialIn K (.builtin "object.__class__") "__get__"==some (some (.builtin "getset_descriptor.__get__"))&&(takesIn K (.builtin "object.__class__")==some true&&(mroIn K (L.getD j 0) (.type "object")==some true&&(mroIn K (L.getD j 0) (.type "BaseException")==some true&&(typeIn K (.ref (L.getD 17 0))==some (.type "type")&&((clsIn K (L.getD 17 0)).isSome&&(subIn K (.ref (L.getD 17 0)) (.type "BaseException")==some true&&(subIn K (.ref (L.getD j 0)) (.ref (L.getD 17 0))==some true&&((List.range 17).all (λi=>kitOne K (.ref (L.getD j 0)) (.ref (L.getD i 0))==some (decide (i=j)))&&kitOne K (.ref (L.getD j 0)) (.type "ValueError")==some true)))))))))))))
theorem Jc(h:Ie K L j=true):ϗ K (λi=>L.getD i 0) j:=by unfold Ie at h;simp only[Bool.and_eq_true,beq_iff_eq,ă]at h;obtain⟨h0,h1,h2,h3,h4,h5,h6,h7,h8,h9,Uw,Ux,Uy,Uz,UA⟩:=h;refine⟨h0,⟨h1,h2,h3,h4,h5,h6,h7,h8⟩,⟨h9,Uw,Ux,Uy⟩,λi hi=>?_,UA⟩;have:=Ő.mp Uz i (ϕ.mpr hi);simpa using this
theorem tab_mk(h1:PySem.W.nsIn K mainGlobals x=some (some (.ref f)))(h2:K.lookup f=some ⟨a1,b1,.func fd,s1⟩)(h3:fd.code=.ref c)(h4:K.lookup c=some ⟨a2,b2,.fields vs,s2⟩)(h5:vs[11]?=some (.ref T)):PySem.W.tabIn K x=some (c,T):=by unfold PySem.W.tabIn;rw[h1];show(match K.lookup f with|some ⟨_,_,.func fd,_⟩=>_|_=>none)=_;rw[h2];show(match fd.code with|.ref c=>_|_=>none)=_;rw[h3];show(match K.lookup c with|some ⟨_,_,.fields vs,_⟩=>_|_=>none)=_;rw[h4];show(match vs[11]? with|some (.ref P)=>some (c,P)|_=>none)=_;rw[h5]
def up(g:Int)(r:PP):PP:=r.map λn=>n*(100+g)/100
def gi(g:Int)(rs:PK):Nat->PK|0=>rs|i+1=>gi g rs i++[up g ((gi g rs i).getLastD [])]
def OkR(b:Nat)(rs:PK):Prop:=∀r∈rs,r.length=3/\∀n∈r,0<=n/\n<(b:Int)
theorem j9(g:Int)(rs:PK):∀i,(gi g rs i).length=rs.length+i|0=>rfl|i+1=>by show(gi g rs i++[_]).length=_;rw[ì,j9 g rs i];rfl
theorem MP(h1:-100<=g)(h2:g<=100){b:Nat}(h:r.length=3/\∀n∈r,0<=n/\n<(b:Int)):(up g r).length=3/\∀n∈up g r,0<=n/\n<((2*b:Nat):Int):=by refine⟨by unfold up;rw[Ð];exact h.1,λn hn=>?_⟩;obtain⟨m,hm,rfl⟩:=è.mp hn;obtain⟨a1,a2⟩:=h.2 m hm;have b1:0<=m*(100+g):=Int.mul_nonneg a1 Z1;have b2:m*(100+g)<=m*200:=Za6 Z1 a1;refine⟨Int.ediv_nonneg b1 Z3,?_⟩;have:m*(100+g)/100<=m*200/100:=Int.ediv_le_ediv Z3 b2;have e:m*200/100=2*m:=Z1;push_cast;lia
theorem Kq(h:OkR b rs)(Y3:b<=c):OkR c rs:=λr hr=>⟨(h r hr).1,λn hn=>(let⟨a,b'⟩:=(h r hr).2 n hn;⟨a,Z1⟩)⟩
theorem pW{rs:PK}(h:rs≠[]):rs.getLastD []∈rs:=by cases rs with|nil=>exact absurd rfl h;|cons a t=>rw[List.getLastD_eq_getLast?,List.getLast?_eq_some_getLast Z2];exact List.getLast_mem _
theorem wu(h1:-100<=g)(h2:g<=100)(h:OkR 1000 rs)(hn:rs≠[]):∀i,OkR (1000*2^i) (gi g rs i)
 |0=>by show OkR (1000*1) rs;exact h;|i+1=>λr hr=>by
  have ih:=wu h1 h2 h hn i;have ne:gi g rs i≠[]:=λz=>by have:=j9 g rs i;rw[z]at this;cases rs with|nil=>exact hn rfl;|cons a t=>simp at this;lia
  have e:1000*2^(i+1)=2*(1000*2^i):=by rw[Nat.pow_succ];lia
  rcases ē.mp (show r∈gi g rs i++[up g ((gi g rs i).getLastD [])]from hr)with z|z;.rw[e];exact Kq ih Z1 r z
  .rw[Ū.mp z,e];exact MP h1 h2 (ih _ (pW ne))
theorem zT{Fin:List V->Hp->Prop}(e:H0 a=some (.tup (r.map V.int)))(hl:r.length=3)(h1:-100<=g)(h2:g<=100)(fin:Fin ((up g r).map V.int) H0):jN (Itt K a) (bQ 0) uF (ώ (rI KY λi j=>.int (i/j)) (ώ (rI Z06 λi j=>.int (i*j)) (uw 0) (ώ (Ψ λi j=>.int (i+j)) (tC (.int 100)) (uw 1))) (tC (.int 100))) Fin [x0,some (.int g)] H0:=by
 refine cY 3 (λi ys σ H=>H=H0/\(∃x,σ=[x,some (.int g)])/\ys=((up g r).map V.int).take i) ⟨rfl,⟨x0,rfl⟩,rfl⟩ Z3 ?_ ?_;.rintro i ys σ H hi hy⟨rfl,⟨x,rfl⟩,rfl⟩;refine⟨⟨_,.int (r[i]'Z1),Ê.of e,by simp⟩,λv H' y R hR=>?_⟩;obtain⟨rfl,y2⟩:=y;have y2:=y2 _ (Ê.of e);rw[ý,Ö Z1]at y2;cases y2;refine aG ?_;refine⟨_,rfl,_,rfl,_,_,rfl,rfl,_,_,rfl,rfl,.inr ⟨Z1,Z1⟩,_,_,rfl,rfl,⟨by decide,by decide⟩,?_⟩;refine hR _ _ _ ⟨rfl,⟨_,rfl⟩,?_⟩;rw[Ĝ,ý];unfold up;rw[ý,Ö Z1];rfl
 .rintro ys σ H hy⟨rfl,_,rfl⟩;refine⟨⟨_,Ê.of e,by simp[hl]⟩,?_⟩;rw[ϩ (by unfold up;simp[hl])];exact fin
theorem nQ:∀{xs:List V}{r:PP},Å S H xs (r.map PyData.int)->xs=r.map V.int|[],[],_=>rfl|_::_,[],h=>nomatch h|[],_::_,h=>nomatch h|x::xs,i::r,h=>by cases h with|cons a b=>cases a;rw[nQ b];rfl
theorem pY:∀{xs:List V}{rs:PK},Å S H xs (rs.map cu)->Å S' H xs (rs.map cu)|[],[],_=>.nil|_::_,[],h=>nomatch h|[],_::_,h=>nomatch h|x::xs,i::r,h=>by cases h with|cons a b=>cases a with|tup e z=>have:=nQ z;subst this;exact .cons (.tup e (Å.ints _)) (pY b)
theorem rK{rs:PK}(h:Å S H xs (rs.map cu))(hn:rs≠[]):∃t,ŏ xs (-1)=some (.ref t)/\H t=some (.tup ((rs.getLastD []).map V.int)):=by
 have el:=h.length;rw[Ð]at el;have hp:0<rs.length:=List.length_pos_iff.mpr hn;obtain⟨v,hv⟩:∃v,xs[xs.length-1]?=some v:=⟨xs[xs.length-1]'Z1,Ö Z1⟩;obtain⟨d,hd,tv⟩:=h.get hv;have e1:rs[xs.length-1]?=some (rs.getLastD []):=by rw[el,List.getLastD_eq_getLast?,<-List.getLast?_eq_getElem?,List.getLast?_eq_some_getLast hn];rfl
 rw[ý,e1]at hd;cases hd;have kG:ŏ xs (-1)=xs[xs.length-1]?:=by unfold ŏ Ϝ;rw[Æ Z3,È Z1];show xs[((-1:Int)+xs.length).toNat]?=_;congr 1;lia
 cases tv with|tup e r=>refine⟨_,kG.trans hv,?_⟩;rw[nQ r]at e;exact e
inductive Ż(vs:List V)(H:Hp)(Q:VK):Prop|mk:∀S v g y rs,(vs=[v,.int g,.int y])->(Ò S H v (.tuple (rs.map cu)))->(OkR 1000 rs)->(rs≠[])->(rs.length<=20)->(-100<=g)->(g<=100)->((rs.length:Int)<=y)->(y<=100)->(∀v' H',À H H'->Ò (λ_=>False) H' v' (.tuple ((gi g rs (y.toNat-rs.length)).map cu))->Q v' H')->Ż  vs H Q
def zU:Sp:=λvs H Q _=>Ż  vs H Q
theorem Oe:(["sacks","growth"]:ç).Nodup:=by decide+kernel
theorem sc36:Á ["clips","growth","years","rows"] ["clips","growth","years"] (aD (top 66)):=ù
theorem FT(F:Û K "grown" "grown" (top 66) f fd)(T:Mg mg)(Tl:mg "list"=none):Í P w K mg base Ý 1 f fd ["clips","growth","years"] zU:=by refine F.oq sc36 λai A outer s H vs Q E hr h=>?_;obtain⟨S,v,g,y,rs,rfl,th,ok,hn,hl,g1,g2,y1,y2,q⟩:=h;refine⟨_,aC (ć 3 sc36.nd (bB gR rfl Tl jD (aA (pv 0) ao))) (aC (uA ĥ (bf jJ (aM bu rfl T.len PySem.boot_len (aA (pv 3) ao)) (pv 2) (bh _)) (aF (cA (gK ό Ϲ Ϻ d9 (pv 3) (aA (bB bF rfl T.tuple Ó (aA (bI ["sacks","growth"] [none,some 1] rfl (dX (pX bV (pv 3) (yj rT aB))) (λC fp Z7 s₂ Ï=>⟨Î 0 Oe,bR,aQ je (aQ fY (pv 0) (aQ bL aB (pv 1))) aB⟩) (λC=>cI trivial) ⟨rfl,rfl,rfl,rfl⟩) ao)) ao))))) (aF (aR (bB bF rfl T.tuple Ó (aA (pv 3) ao))))),?_⟩;cases th with|@tup a xs ds ea r=>
  refine aH ?_;refine⟨_,rfl,a,xs,rfl,Ê.of ea,λp hp np=>?_⟩;refine aG ?_;dsimp only;refine aH ?_;have len0:=r.length;rw[Ð]at len0;refine⟨λm σ H'=>∃i ys,m=(y.toNat-rs.length)-i/\i<=y.toNat-rs.length/\σ=[some (.ref a),some (.int g),some (.int y),some (.ref p)]/\(∀b o,b≠p->H b=some o->H' b=some o)/\H' p=some (.lst ys)/\Å (λ_=>False) H' ys ((gi g rs i).map cu),⟨_,0,xs,rfl,Ě _,rfl,λb o n e=>by rw[aq n];exact e,aj,?_⟩,?_⟩;.exact(pY (S':=λ_=>False) r).keep (λc l e=>by rw[aq (az e hp)];exact e) (λ_ _ z _=>z.elim) λ_ _ z _=>z.elim
  .rintro m σ H'⟨i,ys,rfl,hi,rfl,kp,ep,it⟩;have ly:=it.length;rw[Ð,j9]at ly;refine⟨_,rfl,p,ys,rfl,.inl (É.of ep),_,rfl,_,_,rfl,rfl,_,rfl,?_⟩;refine mU (λc=>?_) (λc=>?_)
   .have c:=ŋ c;have c:(ys.length:Int)<y:=c;refine⟨λaf sF=>∃cE,af=[some (.ref a),some (.int g),some (.int y),some (.ref p)]/\(∀b o,b≠p->H b=some o->sF b=some o)/\sF p=some (.lst cE)/\Å (λ_=>False) sF cE ((gi g rs (i+1)).map cu),λaf sF⟨cE,e1,e2,e3,e4⟩=>⟨y.toNat-rs.length-(i+1),Z1,i+1,cE,rfl,Z1,e1,e2,e3,e4⟩,?_⟩;have ne:gi g rs i≠[]:=λz=>by have:=j9 g rs i;rw[z]at this;have:=List.length_pos_iff.mpr hn;simp at*;lia
    obtain⟨t,e5,e6⟩:=rK it ne;have lr:((gi g rs i).getLastD []).length=3:=(wu g1 g2 ok hn i _ (pW ne)).1;refine⟨_,rfl,.inl ⟨rfl,_,É.of ep⟩,_,rfl,1,rfl,p,ys,-1,.ref t,rfl,rfl,É.of ep,e5,t,rfl,⟨_,Ê.of e6⟩,zT e6 lr g1 g2 λD hD=>⟨D,_,rfl,.inl ⟨É.of aj,λl hl=>?_⟩⟩⟩;have sm:À H' (upd (upd H' D (.lst ((up g ((gi g rs i).getLastD [])).map V.int))) l (.tup ((up g ((gi g rs i).getLastD [])).map V.int))):=(À.upd hD).updR hl;have Nd:l≠p:=λz=>by rw[z,À.upd hD _ _ ep]at hl;cases hl
    refine⟨p,ys,.ref l,rfl,rfl,sm _ _ ep,by rw[sizeLine_eq];lia,?_⟩;refine⟨ys++[.ref l],rfl,λb o n e=>?_,aj,?_⟩;.rw[aq n];exact sm _ _ (kp b o n e)
    .show Å _ _ _ ((gi g rs i++[up g ((gi g rs i).getLastD [])]).map cu);rw[ë];refine Å.append ?_ (.cons (.tup (by rw[aq Nd];exact aj) (Å.ints _)) .nil);exact(it.same sm).keep (λc l' e'=>by rw[aq λz=>by rw[z,sm _ _ ep]at e';cases e'];exact e') (λ_ _ z _=>z.elim) λ_ _ z _=>z.elim
   .have c:¬(ys.length:Int)<y:=λz=>c (ñ z);have ei:i=y.toNat-rs.length:=Z1;subst ei;refine⟨_,rfl,p,ys,rfl,.inl ⟨É.of ep,λl hl=>q _ _ (λb o e=>?_) (.tup aj ?_)⟩⟩;.have nb:b≠p:=az e hp;have e2:=kp b o nb e;rw[aq (az e2 hl)];exact e2
    .exact(it.same (À.upd hl)).keep (λ_ _ e=>e) (λ_ _ z _=>z.elim) λ_ _ z _=>z.elim
theorem yd{cs:PK}(h:∀r∈cs,okC r):OkR 1000 cs:=λr hr=>⟨(h r hr).1,λx hx=>(h r hr).2 x hx⟩
def ww(g:Int)(cs ps ss:PK)(j:Nat):Prop:=cs.length<=j+1/\(∀p∈ps,fl p 3<=(j:Int))/\aO (gi g cs (100-cs.length)) ps ss (j+1) 3=0
def iG(n:Nat)(P:Nat->Prop):Option Nat->Prop|some m=>m<n/\P m/\∀j,j<m->¬P j|none=>∀j,j<n->¬P j
theorem Ck{P:Nat->Prop}:∀{a b:Option Nat},iG n P a->iG n P b->a=b
 |none,none,_,_=>rfl|none,some m,h,g=>absurd g.2.1 (h m g.1)|some m,none,g,h=>absurd g.2.1 (h m g.1)|some m,some k,g,h=>by
  rcases Nat.lt_trichotomy m k with z|z|z;.exact absurd g.2.1 (h.2.2 m z)
  .rw[z]
  .exact absurd h.2.1 (g.2.2 k z)
theorem Ε.nil{cs ps ss K:PK}(okp:∀r∈ps,č r)(h:Ε cs ps ss m K):K=[]↔aO cs ps ss m 3=0:=by rw[<-h.all okp];cases K with|nil=>exact⟨λ_=>rfl,λ_=>rfl⟩;|cons r K=>have a:=(h.ok r (.head _)).s0;have b:=gG λq hq=>ŀ.nn (λq hq=>h.ok q (.tail _ hq)) q hq;have e:aP (r::K)=fl r 3+aP K:=rfl;exact⟨λz=>(nomatch z),λz=>by lia⟩
structure NG(mg:RG):Prop where least:∃t,mg "LEAST_GROWTH"=some (.int (-100) t)mostg:∃t,mg "MOST_GROWTH"=some (.int 100 t)years:∃t,mg "MOST_YEARS"=some (.int 100 t)
inductive ξ(vs:List V)(H:Hp)(Q:VK):Prop|mk:∀g,(vs=[.int g])->(-100<=g)->(g<=100)->(∀H',À H H'->Q .non H')->ξ  vs H Q
def FW:Sp:=λvs H Q _=>ξ  vs H Q
inductive ε(vs:List V)(H:Hp)(Q:VK):Prop|mk:∀bk g ac xc cs ap xp ps ar xs ss,(vs=[.ref bk,.int g])->(í H bk ac xc cs ap xp ps ar xs ss)->((∀r∈cs,okC r))->(1<=cs.length)->(-100<=g)->(g<=100)->(∀o H',À H H'->iG 100 (ww g cs ps ss) o->Q (ϻ o) H')->ε  vs H Q
def FZ:Sp:=λvs H Q _=>ε  vs H Q
theorem rM:bootBuiltins "max"=some (.builtin "max"):=by decide+kernel
theorem MT:Á ["thing"] ["thing"] (aD (top 65)):=ù
theorem Ig(F:Û K "refuse_no_growth" "refuse_no_growth" (top 65) f fd)(N:NG mg)(c1:ã P w K mg base 2 "is_whole_from" ["thing","least","most"] (lO lU)):Í P w K mg base Ý 3 f fd ["thing"] FW:=by
 refine F.oq MT λai A outer s H vs Q E hr h=>?_;obtain⟨g,rfl,g0,g1,q⟩:=h;obtain⟨t1,e1⟩:=N.least;obtain⟨t2,e2⟩:=N.mostg;refine⟨_,aF (cG (cC (dH (aJ c1 hr (aK (pv 0) (aK (bM (v:=.int (-100)) rfl e1 ⟨_,rfl⟩) (aK (bM (v:=.int 100) rfl e2 ⟨_,rfl⟩) ao)))))) (aF jH) bj),?_⟩;refine⟨_,rfl,λ_=>False,.int g,.int g,-100,100,rfl,.int _,(by show 1<=4000;decide),λH1 s1=>⟨_,rfl,?_⟩⟩;have e:lU (.int g) (-100) 100=true:=by show(true&&(decide (-100<=g)&&decide (g<=100)))=true;rw[ñ g0,ñ g1];rfl
 rw[e];exact bH (q _ s1)
theorem Og:(["promise"]:ç).Nodup:=by decide+kernel
theorem Ŏ:Á ["book","growth","clips","promises","sales","least","years","at","gifts","owed","left"] ["book","growth"] (aD (top 67)):=ù
theorem Ih(F:Û K "year_of_all" "year_of_all" (top 67) f fd)(T:Mg mg)(N:NG mg)(Tm:mg "max"=none)(Te:mg "enumerate"=none)(c1:ã P w K mg base 1 "grown" ["clips","growth","years"] zU)(c2:ã P w K mg base 10 "years_given" ["book","year"] zN):Í P w K mg base Ý 11 f fd ["book","growth"] FZ:=by
 refine F.oq Ŏ λai A outer s H vs Q E hr h=>?_;obtain⟨bk,g,ac,xc,cs,ap,xp,ps,ar,xs,ss,rfl,B,okc,gL,g0,g1,q⟩:=h;obtain⟨t1,e1⟩:=N.years;refine K52P.ok_b (aN ⟨cO (pv 0) (bC rfl (au (Î 2 Ŏ.nd) (au (Î 3 Ŏ.nd) (au (Î 4 Ŏ.nd) aW))))⟩ (aN (fQ 5 Ŏ.nd ⟨aM (jq rfl) rfl Tm rM (aA (aQ iM (cP (aA (aQ du (aM bu rfl T.len PySem.boot_len (aA (pv 2) ao)) aB) ao)) (bI ["promise"] [none] rfl (dX (pv 3)) (λC fp Z7 s₂ Ï=>⟨Î 0 Og,bR,pX (K52P.ix_tupK (K:=K) rfl) (pv 0) aB⟩) (λC=>trivial) ⟨rfl,rfl,rfl,rfl⟩)) ao)⟩) (aN (fQ 6 Ŏ.nd ⟨aJ c2 hr (aK (bO (aK (aJ c1 hr (aK (pv 2) (aK (pv 1) (aK (bM (v:=.int 100) rfl e1 ⟨_,rfl⟩) ao)))) (aK (pv 3) (aK (pv 4) ao)))) (aK (aQ du (bM (v:=.int 100) rfl e1 ⟨_,rfl⟩) aB) ao))⟩) (aN ⟨bZ ĥ rfl (ZT.pi_enum false rfl Te (aA (pv 6) ao)) (bC rfl (au (Î 7 Ŏ.nd) (au (bC rfl (au (Î 8 Ŏ.nd) (au (Î 9 Ŏ.nd) (au (Î 10 Ŏ.nd) aW)))) aW))) (aF (cG (PW.pt (wB (bf uC (pv 7) (pv 5) (bh _)) (rQ (cC (CQ (pv 9) (λ_=>rfl)))))) (aF (aR (pv 7))) bj))⟩ (bW (fZ ⟨fW⟩)))))) ?_;refine aH ?_;refine⟨_,rfl,bk,_,rfl,Ê.of B.e,rfl,_,_,rfl,_,_,rfl,_,_,rfl,rfl,?_⟩;dsimp only;have lx:=B.rc.l;have UB:=B.rp.l;have lp:=B.lp;have lc:=B.lc;refine aH (aU ?_);refine⟨_,rfl,ac,xc,rfl,.inr (Ê.of B.rc.e),_,_,rfl,rfl,zL,λl1 dQ=>?_⟩;have s1:=À.upd (o:=.lst [V.int ((xc.length:Int)-1)]) dQ;have Ĺ:=aj (H:=H) (a:=l1) (o:=.lst [V.int ((xc.length:Int)-1)]);generalize upd H l1 (.lst [V.int ((xc.length:Int)-1)])=H1 at s1 Ĺ⊢;have B1:=B.same s1;refine⟨_,rfl,ap,rfl,⟨_,Ê.of B1.rp.e⟩,cY ps.length (λi ys σ Hc=>Hc=H1/\(∃o1,σ=[o1])/\ys=((ps.take i).map λr=>fl r 3).map V.int) ⟨rfl,⟨_,rfl⟩,rfl⟩ Z6 ?_ ?_⟩
 .rintro i ys σ Hc hi hy⟨rfl,⟨o1,rfl⟩,rfl⟩;obtain⟨t,ex,et⟩:=B1.rp.g i ps[i] (Ö hi);have bX:ps.take (i+1)=ps.take i++[ps[i]]:=by rw[Ĝ,Ö hi];rfl
  have l6:=(B.okp _ (Č hi)).1;refine⟨⟨_,_,Ê.of B1.rp.e,ex⟩,λv H' y' R' iS=>?_⟩;obtain⟨rfl,y'⟩:=y';have hv:=y' _ (Ê.of B1.rp.e);rw[ex]at hv;cases hv;refine aG ?_;refine⟨_,rfl,t,_,3,_,rfl,rfl,Ê.of et,dU (j:=3) (iC Z1),iS _ _ _ ⟨rfl,⟨_,rfl⟩,?_⟩⟩;rw[bX,ë,ë];rfl
 rintro ys σ Hc hy⟨rfl,_,rfl⟩;rw[Ĩ];refine⟨⟨_,Ê.of B1.rp.e,Z1⟩,λD hD=>?_⟩;have s2:=À.upd (o:=.lst ((ps.map λr=>fl r 3).map V.int)) hD;have eD:=aj (H:=Hc) (a:=D) (o:=.lst ((ps.map λr=>fl r 3).map V.int));generalize upd Hc D (.lst ((ps.map λr=>fl r 3).map V.int))=H2 at s2 eD⊢;refine⟨l1,D,_,_,rfl,rfl,s2 _ _ Ĺ,eD,by rw[Ð,Ð,sizeLine_eq];show 1+_<=_;lia,λl2 eC=>⟨l2,((xc.length:Int)-1)::ps.map λr=>fl r 3,rfl,É.of aj,by simp,λM hM hm=>?_⟩⟩;have s3:=(s1.trans s2).trans (À.upd (o:=.lst ([V.int ((xc.length:Int)-1)]++(ps.map λr=>fl r 3).map V.int)) eC);generalize upd H2 l2 (.lst ([V.int ((xc.length:Int)-1)]++(ps.map λr=>fl r 3).map V.int))=H3 at s3⊢;refine aG ?_;dsimp only;clear s2 eD Ĺ hD eC;refine aH (aU ?_);have B3:=B.same s3;have gE:cs≠[]:=λz=>by rw[z]at gL;exact absurd gL Z3
 refine⟨_,rfl,_,rfl,λ_=>False,.ref ac,g,100,cs,rfl,B3.rc.th,yd okc,gE,lc,g0,g1,Z1,by decide,λv' H4 s4 P5=>?_⟩;obtain⟨a4,UC,rfl,Nl⟩:=kW P5;have B4:=B3.same s4;refine⟨_,rfl,_,rfl,zL,λnb UD=>?_⟩;have s5:=À.upd (o:=.tup [.ref a4,.ref ap,.ref ar]) UD;have eb:=aj (H:=H4) (a:=nb) (o:=.tup [.ref a4,.ref ap,.ref ar]);generalize upd H4 nb (.tup [.ref a4,.ref ap,.ref ar])=H5 at s5 eb⊢;have B5:=B4.same s5;rw[show(100:Int).toNat=100 from rfl]at Nl;have P6:=Nl.same s5;have gl:(gi g cs (100-cs.length)).length=100:=by rw[j9];lia
 have A6:∀r∈gi g cs (100-cs.length),r.length=3/\∀x∈r,0<=x:=λr hr=>(let o:=wu g0 g1 (yd okc) gE (100-cs.length) r hr;⟨o.1,λx hx=>(o.2 x hx).1⟩);have UE:=(s3.trans s4).trans s5;have pj:∀j,ww g cs ps ss j↔(cs.length<=j+1/\(∀p∈ps,fl p 3<=(j:Int))/\aO (gi g cs (100-cs.length)) ps ss (j+1) 3=0):=λj=>Iff.rfl;generalize gi g cs (100-cs.length)=G at P6 gl A6 pj;clear P5 Nl;refine⟨_,_,rfl,rfl,nb,99,a4,UC,G,ap,xp,ps,ar,xs,ss,rfl,eb,P6,A6,Z1,by decide,Z1,B5.rp,lp,B.okp,B5.rs,B.ls,B.h5,B.un,λl ts H6 s6 nl el lt hy=>?_⟩;refine aG ?_;dsimp only;refine aH ?_;have lt:ts.length=100:=Z1;refine⟨_,rfl,l,ts.map V.ref,rfl,É.of el,?_⟩;have P7:=UE.trans s6;refine ZT.for_enum false (xs:=ts.map V.ref) (λi σ Hc=>∃x7 x8 x9 lP,σ=[some (.ref bk),some (.int g),some (.ref ac),some (.ref ap),some (.ref ar),some (.int M),some (.ref l),x7,x8,x9,lP]/\À H6 Hc/\∀j,j<i->¬ww g cs ps ss j) ?_ ?_ ?_ ?_;.exact⟨none,none,none,none,rfl,À.refl _,λj hj=>absurd hj (Ϩ _)⟩
 .rintro i σ Hc hi⟨x7,x8,x9,lP,rfl,sm,hh⟩;exact É.of (sm _ _ el)
 .rintro i x σ Hc T0 hx⟨x7,x8,x9,lP,rfl,sm,hh⟩nT;have hi:i<ts.length:=by have:=(ĩ.mp hx).1;rw[Ð]at this;exact this
  rw[ý,Ö hi]at hx;cases hx;obtain⟨gg,k,tl,xg,xk,_,R,_,u1,n1,n2,d1,d2,u2,u3,u4,u5,u6,_,_,_,P8,_⟩:=hy i ts[i] (Ö hi);have sT:=À.upd (o:=.tup [.int i,.ref ts[i]]) nT;have eT:=aj (H:=Hc) (a:=T0) (o:=.tup [.int i,.ref ts[i]]);generalize upd Hc T0 (.tup [.int i,.ref ts[i]])=H7 at sT eT⊢;have ES:=sm.trans sT;refine⟨T0,_,rfl,Ê.of eT,rfl,_,_,rfl,_,_,rfl,ts[i],_,rfl,Ê.of (ES _ _ u1),rfl,_,_,rfl,_,_,rfl,_,_,rfl,rfl,rfl,?_⟩;dsimp only;have ET:decide (M<=(i:Int))=true↔(cs.length<=i+1/\∀p∈ps,fl p 3<=(i:Int)):=by
   rw[ă];constructor;.intro h;have a1:=hm _ (.head _);refine⟨Z1,λp hp=>?_⟩;have:=hm (fl p 3) (.tail _ (è.mpr ⟨p,hp,rfl⟩));lia
   .rintro⟨h1,h2⟩;rcases Ġ.mp hM with z|z;.lia
    .obtain⟨p,hp,rfl⟩:=è.mp z;exact h2 p hp
  refine⟨_,rfl,_,rfl,_,_,rfl,rfl,_,rfl,?_⟩;refine mU (λc=>?_) (λc=>?_)
  .have cM:=ET.mp c;refine⟨_,rfl,!xk.isEmpty,.inl ⟨xk,É.of (ES _ _ u4),rfl⟩,?_⟩;have lk:=u5.1;refine mU (λc2=>?_) (λc2=>?_);.have:=(P8.nil B.okp).mp (by cases xk with|nil=>exact List.eq_nil_of_length_eq_zero lk.symm;|cons _ _=>cases c2);exact⟨_,rfl,q (some i) _ (P7.trans ES) ⟨Z1,(pj i).mpr ⟨cM.1,cM.2,this⟩,hh⟩⟩
   .refine⟨_,_,_,_,rfl,ES,λj hj=>?_⟩;rcases Nat.lt_or_ge j i with z|z;.exact hh j z
    .have:j=i:=Z1;subst this;intro m;have e:=(P8.nil B.okp).mpr ((pj j).mp m).2.2;rw[e]at lk;cases xk with|nil=>exact c2 rfl;|cons _ _=>cases lk
  .refine⟨_,_,_,_,rfl,ES,λj hj=>?_⟩;rcases Nat.lt_or_ge j i with z|z;.exact hh j z
   .have:j=i:=Z1;subst this;intro m;have e:=(pj j).mp m;exact c (ET.mpr ⟨e.1,e.2.1⟩)
 .rintro σ Hc⟨x7,x8,x9,lP,rfl,sm,hh⟩;rw[Ð,lt]at hh;exact q none _ (P7.trans sm) hh
def Ķ(ss:PK)(k:Nat):PK:=ss.filter λs=>decide (fl s 0<(k:Int))
theorem zV(a b:PK)(k:Nat):Ķ (a++b) k=Ķ a k++Ķ b k:=Zat ..
theorem nR{r:PK}{k:Nat}(h:fl s 0<(k:Int)):Ķ (s::r) k=s::Ķ r k:=zBf (p:=λ(s:PP)=>decide (fl s 0<(k:Int))) (ñ h)
theorem nU{r:PK}{k:Nat}(h:¬fl s 0<(k:Int)):Ķ (s::r) k=Ķ r k:=zBe (p:=λ(s:PP)=>decide (fl s 0<(k:Int))) (by rw[ă];exact h)
theorem pZ{n y:Int}{k:Nat}(h:n<k):∀ss L,(Ķ ss k).foldl (å n y) L=ss.foldl (å n y) L
 |[],_=>rfl|s::ss,L=>by
  by_cases e:fl s 0<(k:Int);.rw[nR e];exact pZ h ss _
  .rw[nU e,pZ h ss L];show _=ss.foldl (å n y) (å n y L s);rw[show å n y L s=L by unfold å;rw[Æ Z1]]
theorem Cm{n y:Int}{k:Nat}(h:n<k):bA p (Ķ ss k) n y=bA p ss n y:=by unfold bA;rw[pZ h]
theorem Cp{ps:PK}(h:n<k):(ps.take k).getD n []=ps.getD n []:=by rw[Ğ,Ğ,Za2 h]
theorem ye{k:Nat}(h:cF ps ah s=true)(hk:fl s 0<(k:Int)):cF (ps.take k) (Ķ ah k) s=true:=by
 unfold cF at h⊢;obtain⟨h1,h2⟩:=Bool.and_eq_true_iff.mp h;have CF:=h1;unfold mX at CF;simp only[Bool.and_eq_true,ă]at CF;have e:jn (ps.take k) s=jn ps s:=by unfold jn;exact Cp Z1
 have eh:∀y,bA (jn ps s) (Ķ ah k) (fl s 0) y=bA (jn ps s) ah (fl s 0) y:=λy=>Cm hk;simp only[e,eh];rw[h2,Bool.and_true];unfold mX at h1⊢;rw[e];simp only[Bool.and_eq_true,ă]at h1⊢;rw[Ė];refine⟨⟨h1.1.1,Z1⟩,h1.2⟩
theorem rN:∀(r ah:PK),(∀j,j<r.length->cF ps (ah++r.take j) (r.getD j [])=true)->∀j,j<(Ķ r k).length->cF (ps.take k) (Ķ ah k++(Ķ r k).take j) ((Ķ r k).getD j [])=true
 |[],_,_,j,hj=>absurd hj (Ϩ _)|s::r,ah,h,j,hj=>by
  have h0:cF ps ah s=true:=by have:=h 0 (Nat.zero_lt_succ _);rw[Za0,Į]at this;exact this
  have hr:∀j,j<r.length->cF ps ((ah++[s])++r.take j) (r.getD j [])=true:=λj hj=>by have:=h (j+1) (Nat.succ_lt_succ hj);rw[į];exact this
  have ih:=rN (k:=k) r (ah++[s]) hr;rw[zV]at ih;by_cases e:fl s 0<(k:Int);.rw[nR e]at hj⊢;have e1:Ķ [s] k=[s]:=nR e;rw[e1]at ih;cases j with|zero=>rw[Za0,Į];exact ye h0 e;|succ j=>have:=ih j (Nat.lt_of_succ_lt_succ hj);rw[į]at this;exact this
  .rw[nU e]at hj⊢;have e1:Ķ [s] k=[]:=nU e;rw[e1,Į]at ih;exact ih j hj
theorem zW(hu:un ps ss=none)(k:Nat):un (ps.take k) (Ķ ss k)=none:=by refine tY λj hj=>?_;have:=rN (k:=k) ss [] (λj hj=>by rw[List.nil_append];exact xN hu j hj) j hj;exact this
def zZ(g:Int)(cs ps ss:PK)(n:Nat):Prop:=∀j,j<100->¬ww g cs (ps.take (n+1)) (Ķ ss (n+1)) j
theorem Aa{m:Nat}:ju xs none (some (m:Int))=xs.take m:=by
 unfold ju;rw[HT.sIx_none,HT.sIx_nat,List.drop_zero,Nat.sub_zero];by_cases h:m<=xs.length;.rw[Nat.min_eq_left h]
 .rw[Nat.min_eq_right Z1,Ĩ,ϩ Z1]
theorem rO(h:Ã H a xs rs)(e:H c=some (.tup (xs.take m))):Ã H c (xs.take m) (rs.take m):=by
 refine⟨e,by rw[Ė,Ė,h.l],λi r er=>?_⟩;have hi:i<m:=by have:=(ĩ.mp er).1;rw[Ė]at this;lia
 rw[Za2 hi]at er⊢;exact h.g i r er
inductive ŝ(vs:List V)(H:Hp)(Q:VK):Prop|mk:∀bk n ac xc cs ap xp ps ar xs ss,(vs=[.ref bk,.int n])->(í H bk ac xc cs ap xp ps ar xs ss)->(0<=n)->(∀GY Nn Nw NA CH H',À H H'->í H' GY ac xc cs Nn Nw (ps.take (n.toNat+1)) NA CH (Ķ ss (n.toNat+1))->Q (.ref GY) H')->ŝ  vs H Q
def wy:Sp:=λvs H Q _=>ŝ  vs H Q
def N5(R:Int->PK->PK->PK->Option Nat->Prop):Sp:=λvs H Q _=>∃S bk g d ac xc cs ap xp ps ar xs ss,vs=[.ref bk,.int g]/\Ò S H (.ref bk) d/\sz d<=4000/\jr d=true/\í H bk ac xc cs ap xp ps ar xs ss/\(∀r∈cs,okC r)/\1<=cs.length/\-100<=g/\g<=100/\∀o H',À H H'->R g cs ps ss o->Q (ϻ o) H'
def Jd:Int->PK->PK->PK->Option Nat->Prop:=λg cs ps ss o=>iG ps.length (zZ g cs ps ss) o
theorem wz{ss:PK}(hi:i<ss.length):Ķ (ss.take (i+1)) k=Ķ (ss.take i) k++(if fl ss[i] 0<(k:Int)then[ss[i]]else[]):=by
 rw[Ĝ,Ö hi];show Ķ (ss.take i++[ss[i]]) k=_;rw[zV];split;.rw[nR (by assumption)];rfl
 .rw[nU (by assumption)];rfl
theorem Oh:(["sale","number"]:ç).Nodup:=by decide+kernel
theorem Z00:Á ["book","number","clips","promises","sales"] ["book","number"] (aD (top 68)):=ù
theorem Cq(F:Û K "book_to" "book_to" (top 68) f fd)(T:Mg mg):Í P w K mg base Ý 1 f fd ["book","number"] wy:=by
 refine F.oq Z00 λai A outer s H vs Q E hr h=>?_;obtain⟨bk,n,ac,xc,cs,ap,xp,ps,ar,xs,ss,rfl,B,n0,q⟩:=h;refine K52P.ok_b (aN ⟨cO (pv 0) (bC rfl (au (Î 2 Z00.nd) (au (Î 3 Z00.nd) (au (Î 4 Z00.nd) aW))))⟩ (bW (fZ ⟨bO (aK (pv 2) (aK (iK zJ (pv 3) jK (jL (aQ bL (pv 1) aB))) (aK (bB bF rfl T.tuple Ó (aA (bI ["sale","number"] [none,some 1] rfl (dX (pv 4)) (λC fp Z7 s₂ Ï=>⟨Î 0 Oh,fD (bf bT (pX (K52P.ix_tupK (K:=K) rfl) (pv 0) aB) (pv 1) (bh _)),pv 0⟩) (λC=>cI trivial) ⟨rfl,rfl,rfl,rfl⟩) ao)) ao)))⟩))) ?_;refine aH ?_;refine⟨_,rfl,bk,_,rfl,Ê.of B.e,rfl,_,_,rfl,_,_,rfl,_,_,rfl,rfl,?_⟩;dsimp only;refine tE ?_;have ls:=B.ls;have lx:=B.rs.l;obtain⟨m,rfl⟩:∃m:Nat,n=m:=⟨n.toNat,Z1⟩;rw[Ľ]at q;refine⟨_,rfl,_,rfl,_,rfl,_,_,rfl,rfl,_,rfl,ap,xp,rfl,B.rp.e,λk1 H1 s1 y8=>?_⟩;rw[show(m:Int)+1=((m+1:Nat):Int)by lia,Aa]at y8;have NC:=rO (B.rp.same s1) y8;have B1:=B.same s1;refine⟨_,rfl,ar,rfl,⟨_,Ê.of B1.rs.e⟩,?_⟩;refine dR ss.length (λi ys σ Hc=>Hc=H1/\(∃o1,σ=[o1,some (.int m)])/\â H1 ys (Ķ (ss.take i) (m+1))) ⟨rfl,⟨_,rfl⟩,â.nil⟩ Z6 ?_ ?_
 .rintro i ys σ Hc hi hy⟨rfl,⟨o1,rfl⟩,dv⟩;obtain⟨t,ex,et⟩:=B1.rs.g i ss[i] (Ö hi);have l5:=B.h5 _ (Č hi);refine⟨⟨_,_,Ê.of B1.rs.e,ex⟩,λv H' y' R' iS=>?_⟩;obtain⟨rfl,y'⟩:=y';have hv:=y' _ (Ê.of B1.rs.e);rw[ex]at hv;cases hv;refine aG ?_;rw[wz hi]at iS;refine⟨_,rfl,t,_,0,_,rfl,rfl,Ê.of et,dU (j:=0) (iC Z1),_,rfl,_,_,rfl,rfl,_,rfl,?_⟩;refine mU (λc=>?_) (λc=>?_);.have c:fl ss[i] 0<=(m:Int):=ŋ c;rw[È (show fl ss[i] 0<((m+1:Nat):Int)by lia)]at iS;exact⟨_,rfl,iS _ _ _ (by rw[ì];exact Nat.succ_le_succ hy) ⟨rfl,⟨_,rfl⟩,dv.app (â.one et)⟩⟩
  .have c:¬fl ss[i] 0<=(m:Int):=λz=>c (ñ z);rw[Æ (show¬fl ss[i] 0<((m+1:Nat):Int)by lia),Į]at iS;exact iS _ _ _ Z1 ⟨rfl,⟨_,rfl⟩,dv⟩
 rintro ys σ Hc hy⟨rfl,_,dv⟩;rw[Ĩ]at dv;refine⟨⟨_,Ê.of B1.rs.e,Z1⟩,λD hD=>⟨D,_,rfl,.inl ⟨É.of aj,λt ht=>?_⟩⟩⟩;have s2:=(À.upd (o:=.lst ys) hD).updR (o:=.tup ys) ht;have et:=aj (H:=upd Hc D (.lst ys)) (a:=t) (o:=.tup ys);generalize upd (upd Hc D (.lst ys)) t (.tup ys)=H2 at s2 et⊢;refine⟨zL,λb hb=>?_⟩;have s3:=s2.updR (o:=.tup [.ref ac,.ref k1,.ref t]) hb;have fm:=dv.same s3;have r3:=NC.same s3;have B3:=B1.same s3;refine q b k1 _ t ys _ (s1.trans s3) ⟨aj,B3.rc,B.okc,B.lc,r3,by have:=B.lp;rw[Ė];lia,λr hr=>B.okp r (Zaq hr),⟨by rw[aq (λz=>by rw[z,hb]at et;cases et)];exact et,fm.1,fm.2⟩,ĺ (Zay _ _) ls,λs hs=>B.h5 s (Ũ.mp hs).1,zW B.un _⟩
theorem ϒ:Á ["book","growth","clips","promises","sales","number"] ["book","growth"] (aD (top 69)):=ù
theorem Ii(F:Û K "too_many" "too_many" (top 69) f fd)(T:Mg mg)(Tr:mg "range"=none)(c1:ã P w K mg base 7 "refuse_no_book" ["thing"] Fv)(c2:ã P w K mg base 3 "refuse_no_growth" ["thing"] FW)(c3:ã P w K mg base 11 "year_of_all" ["book","growth"] FZ)(c4:ã P w K mg base 1 "book_to" ["book","number"] wy):Í P w K mg base Ý 12 f fd ["book","growth"] (N5 Jd):=by
 refine F.oq ϒ λai A outer s H vs Q E hr h=>?_;obtain⟨S,bk,g,d,ac,xc,cs,ap,xp,ps,ar,xs,ss,rfl,th,hz,hb,B,okc,gL,g0,g1,q⟩:=h;refine⟨_,aC (cA (aJ c1 hr (aA (pv 0) ao))) (aC (cA (aJ c2 hr (aA (pv 1) ao))) (aC (cO (pv 0) (bC rfl (au (Î 2 ϒ.nd) (au (Î 3 ϒ.nd) (au (Î 4 ϒ.nd) aW))))) (aC (bZ ĥ rfl (d7 rfl Tr (aA (aM bu rfl T.len PySem.boot_len (aA (pv 3) ao)) ao)) (Î 5 ϒ.nd) (aF (cG (bf rW (aJ c3 hr (aA (aJ c4 hr (aA (pv 0) (aA (pv 5) ao))) (aA (pv 1) ao))) fW (bh _)) (aF (aR (pv 5))) bj))) (aF (aR fW))))),?_⟩;refine aH ?_;refine⟨_,rfl,S,_,d,rfl,th,hz,hb,λH1 s1=>?_⟩;dsimp only;refine aH ?_;refine⟨_,rfl,g,rfl,g0,g1,λH2 s2=>?_⟩;dsimp only;have tJ:=s1.trans s2;have B2:=B.same tJ;refine aH ?_;refine⟨_,rfl,bk,_,rfl,Ê.of B2.e,rfl,_,_,rfl,_,_,rfl,_,_,rfl,rfl,?_⟩;dsimp only;have lx:=B.rp.l;have lp:=B.lp;refine aH ?_;refine⟨_,rfl,ap,xp,rfl,.inr (Ê.of B2.rp.e),(xp.length:Int),rfl,Z1,Z1,?_⟩;refine cU (lo:=0) (λi σ Hc=>∃x5,σ=[some (.ref bk),some (.int g),some (.ref ac),some (.ref ap),some (.ref ar),x5]/\À H2 Hc/\∀j,j<i->¬zZ g cs ps ss j) ?_ ?_ ?_;.exact⟨none,rfl,À.refl _,λj hj=>absurd hj (Ϩ _)⟩
 .rintro i σ Hc hi⟨x5,rfl,sm,hh⟩;have hi:i<ps.length:=Z1;refine aG ?_;rw[show(0:Int)+(i:Int)=i by lia];refine⟨_,rfl,_,rfl,bk,i,ac,xc,cs,ap,xp,ps,ar,xs,ss,rfl,B2.same sm,Z1,λGY Nn Nw NA CH H3 s3 B3=>?_⟩;rw[Ľ]at B3;refine⟨_,rfl,GY,g,ac,xc,cs,Nn,Nw,_,NA,CH,_,rfl,B3,okc,gL,g0,g1,λo H4 s4 h=>⟨rfl,_,rfl,?_⟩⟩;have rf:=(sm.trans s3).trans s4;cases o with|none=>refine cg ?_;exact⟨_,rfl,q (some i) _ (tJ.trans rf) ⟨hi,h,hh⟩⟩;|some m=>
   refine bH ?_;refine⟨_,rfl,rf,λj hj=>?_⟩;rcases Nat.lt_or_ge j i with z|z;.exact hh j z
   .have:j=i:=Z1;subst this;exact λnv=>nv m h.1 h.2.1
 .rintro σ Hc⟨x5,rfl,sm,hh⟩;exact q none _ (tJ.trans sm) λj hj=>hh j Z1
def Oi(Cs:Nat->Addr)(o:Option Nat)(R:VK->Hp->Prop)(H:Hp)(Q:VK)(E:XK):Prop:=(∀j,o=some j->∀a H',À H H'->H' a=none->E (.ref a) (some (Cs j)) H')/\(o=none->R Q H)
def Oj:VK->Hp->Prop:=λQ H=>∀H',À H H'->Q .non H'
def Ω(d:PyData):Option Nat:=if jr d=false then some 3 else none
def Ab(d:PyData):Option Nat:=if lU d (-100) 100=false then some 8 else none
def Ij(Cs:Nat->Addr)(k:PyData->Option Nat):Sp:=λvs H Q E=>∃S v d,vs=[v]/\Ò S H v d/\sz d<=4000/\Oi Cs (k d) Oj H Q E
def G3(Cs:Nat->Addr):Sp:=λvs H Q E=>∃S v d vy y j,vs=[v,vy]/\Ò S H v d/\sz d<=4000/\Ò S H vy y/\sz y<=4000/\(Ω d=some j\/(Ω d=none/\Ab y=some j))/\∀a H',À H H'->H' a=none->E (.ref a) (some (Cs j)) H'
section
theorem G4(F:Û K "refuse_no_book" "refuse_no_book" (top 44) f fd)(O3:PyProof.Rows.OwnCls "NoBook" (Cs 3) VE "ValueError.__new__" mg base)(c1:ã P w K mg base 6 "is_book" ["thing"] (ō jr)):Í P w K mg base (Ŧ P w) 7 f fd ["thing"] (Ij Cs Ω):=by refine F.oqX Jb λai A outer s H vs Q E hr h=>?_;obtain⟨S,v,d,rfl,th,hz,q1,q2⟩:=h;refine⟨_,aF (cG (cC (dH (aJ c1 hr (aK (pv 0) ao)))) (aF (vg O3 PySem.F.excBase_ValueError rfl rfl rfl (aA nZ ao) nG)) bj),?_⟩;refine⟨_,rfl,S,v,d,rfl,th,hz,λH1 s1=>⟨_,rfl,?_⟩⟩;cases e:jr d with|true=>exact bH (q2 (Æ (by rw[e];decide)) _ s1);|false=>exact cg ⟨by decide,λa ha=>q1 3 (È e) a _ s1 ha⟩
theorem G5(F:Û K "refuse_no_growth" "refuse_no_growth" (top 65) f fd)(N:NG mg)(O8:PyProof.Rows.OwnCls "NoGrowth" (Cs 8) VE "ValueError.__new__" mg base)(c1:ã P w K mg base 2 "is_whole_from" ["thing","least","most"] (lO lU)):Í P w K mg base (Ŧ P w) 3 f fd ["thing"] (Ij Cs Ab):=by refine F.oqX MT λai A outer s H vs Q E hr h=>?_;obtain⟨S,v,d,rfl,th,hz,q1,q2⟩:=h;obtain⟨t1,e1⟩:=N.least;obtain⟨t2,e2⟩:=N.mostg;refine⟨_,aF (cG (cC (dH (aJ c1 hr (aK (pv 0) (aK (bM (v:=.int (-100)) rfl e1 ⟨_,rfl⟩) (aK (bM (v:=.int 100) rfl e2 ⟨_,rfl⟩) ao)))))) (aF (vg O8 PySem.F.excBase_ValueError rfl rfl rfl (aA nZ ao) nG)) bj),?_⟩;refine⟨_,rfl,S,v,d,-100,100,rfl,th,hz,λH1 s1=>⟨_,rfl,?_⟩⟩;cases e:lU d (-100) 100 with|true=>exact bH (q2 (Æ (by rw[e];decide)) _ s1);|false=>exact cg ⟨by decide,λa ha=>q1 8 (È e) a _ s1 ha⟩
theorem G6(F:Û K "too_many" "too_many" (top 69) f fd)(c1:Fw P w K mg base 7 "refuse_no_book" ["thing"] (Ij Cs Ω))(c2:Fw P w K mg base 3 "refuse_no_growth" ["thing"] (Ij Cs Ab)):Í P w K mg base (Ŧ P w) 8 f fd ["book","growth"] (G3 Cs):=by
 refine F.oqX ϒ λai A outer s H vs Q E hr h=>?_;obtain⟨S,v,d,vy,y,j,rfl,th,hz,ty,zy,kj,q1⟩:=h;refine⟨_,aC (cA (nO (E:=E) c1 hr Z3 rfl nG rfl (aA (pv 0) ao))) (aC (cA (nO (E:=E) c2 hr Z3 rfl nG rfl (aA (pv 1) ao))) lA),?_⟩;refine aH ⟨_,rfl,S,v,d,rfl,th,hz,λj' hj a H' s' ha=>?_,λkn H1 s1=>eQ (aH ⟨_,rfl,S,vy,y,rfl,ty.same s1,zy,λj' hj a H' s' ha=>?_,λkg=>?_⟩)⟩
 .rcases kj with kj|⟨kj,_⟩;.rw[kj]at hj;cases hj;exact q1 a H' s' ha
  .rw[kj]at hj;cases hj
 .rcases kj with kj|⟨_,kj⟩;.rw[kj]at kn;cases kn
  .rw[kj]at hj;cases hj;exact q1 a H' (s1.trans s') ha
 .rcases kj with kj|⟨_,kj⟩;.rw[kj]at kn;cases kn
  .rw[kj]at kg;cases kg
end
theorem Lk.all{cs ps ss M:PK}(okp:∀r∈ps,č r)(g:Lk cs ps ss y M):aP M=aO cs ps ss y 3:=by rw[j6 λr hr=>by obtain⟨p,_,ep,op⟩:=fK okp (g.ok r hr).2.1 (g.ok r hr).2.2.1;unfold aZ;rw[ep];exact op.2.2.1,g.sm 0 Z3,g.sm 1 Z3,g.sm 2 Z3];show _=0+oS cs ps ss y 0+oS cs ps ss y 1+oS cs ps ss y 2;rw[Int.zero_add]
def lz(M:PK):PK:=M.filter λr=>decide (0<fl r 3)
theorem Ac:∀{M:PK},(∀r∈M,0<=fl r 3)->aP (lz M)=aP M
 |[],_=>rfl|r::M,h=>by
  have ih:=Ac λq hq=>h q (.tail _ hq);have h0:=h r (.head _);have es:aP (r::M)=fl r 3+aP M:=rfl;rw[es,<-ih];unfold lz;by_cases hp:0<fl r 3;.rw[zBf (p:=λr=>decide (0<fl r 3)) (ñ hp)];rfl
  .rw[zBe (p:=λr=>decide (0<fl r 3)) (by rw[ă];exact hp)];lia
theorem Lk.pos(g:Lk cs ps ss y M):Lk cs ps ss y (lz M):=by have m:∀{r},r∈lz M->r∈M:=λhr=>(Ũ.mp hr).1;refine⟨(List.filter_sublist.map _).nodup g.kd,λr hr=>g.ok r (m hr),λr hr=>g.yr r (m hr),λs hs=>?_,ĺ (Zay _ _) g.len⟩;rw[<-g.sm s hs,<-Ac (M:=aY ps M s) λr hr=>(g.ok r (Ũ.mp hr).1).2.2.2.1];unfold lz aY;rw[List.filter_filter,List.filter_filter];congr 1;exact List.filter_congr λr _=>Bool.and_comm _ _
theorem Lk.pm(g:Lk cs ps ss y M)(p:M'.Perm M):Lk cs ps ss y M':=⟨(p.map _).nodup_iff.mpr g.kd,λr hr=>g.ok r (p.mem_iff.mp hr),λr hr=>g.yr r (p.mem_iff.mp hr),λs hs=>(xO ((p.filter _).map _)).trans (g.sm s hs),by rw[p.length_eq];exact g.len⟩
theorem Ad{M:PK}{r:PP}(e:H d=some (.frz o (.dT (M.map ó))))(nd:(M.map Ç).Nodup)(hr:r∈M)(eb:H b=some (.tup ((Ç r).map V.int))):Ć H d (.ref b) (some (.int (fl r 3))):=by have:=pO (ug nd) (è.mpr ⟨r,hr,rfl⟩);rw[<-this];exact .inr ⟨_,_,b,.inr ⟨o,e⟩,rfl,by rw[eb,ħ];rfl,rfl⟩
def Δ(H:Hp)(l:þ)(M:PK):Prop:=l.length=M.length/\∀(j:Nat)kv,(M.map ó)[j]?=some kv->∃a b,l[j]?=some a/\H a=some (.tup [.ref b,kv.2])/\H b=some (.tup (kv.1.map kV))
theorem Δ.keep(h:Δ H l M)(k:∀b z,H b=some (.tup z)->H' b=some (.tup z)):Δ H' l M:=⟨h.1,λj kv e=>by obtain⟨a,b,e1,e2,e3⟩:=h.2 j kv e;exact⟨a,b,e1,k _ _ e2,k _ _ e3⟩⟩
theorem Δ.app(h:Δ H l M)(ea:H a=some (.tup [.ref b,.int (fl r 3)]))(eb:H b=some (.tup ((Ç r).map V.int))):Δ H (l++[a]) (M++[r]):=by
 refine⟨by rw[ì,ì,h.1];rfl,λj kv e=>?_⟩;rw[ë]at e;by_cases hj:j<M.length;.rw[Ϸ (by rw[Ð];exact hj)]at e;obtain⟨a,b,e1,e2⟩:=h.2 j kv e;exact⟨a,b,by rw[Ϸ (by rw[h.1];exact hj)];exact e1,e2⟩
 .have MO:j=M.length:=by have:=(ĩ.mp e).1;rw[ì,Ð]at this;simp at this;lia
  subst MO;rw[ϸ (by rw[Ð];exact Ø _),Ð,Nat.sub_self]at e;cases e;exact⟨a,b,by rw[<-h.1,ϸ (Ø _),Nat.sub_self];rfl,ea,by rw[eb];unfold ó;rw[ħ];rfl⟩
inductive Ϫ(vs:List V)(H:Hp)(Q:VK):Prop|mk:∀ac xc cs ap xp ps,∀bb:Bool,∀ar xs ss g,(vs=[.ref ac,.ref ap,.ref ar,.int g])->(Ã H ac xc cs)->((∀r∈cs,okC r))->(1<=cs.length)->(cs.length<=20)->(Ã H ap xp ps)->(ps.length<=10)->((∀r∈ps,č r))->(Ş bb H ar xs ss)->(ss.length<=12)->((∀s∈ss,s.length=5))->(un ps ss=none)->(-100<=g)->(g<=100)->(∀o H',À H H'->iG 100 (ww g cs ps ss) o->Q (ϻ o) H')->Ϫ  vs H Q
def Je:Sp:=λvs H Q _=>Ϫ  vs H Q
theorem yf:bootBuiltins "dict"=some (.type "dict"):=by decide+kernel
theorem Ol:([Τ,Ϛ]:ç).Nodup:=by decide+kernel
theorem Om:(["_law_promise"]:ç).Nodup:=by decide+kernel
theorem N6:([Τ,AAp]:ç).Nodup:=by decide+kernel
theorem Ů:Á [AAq,Z4,ŧ,Ϛ,"_law_grown","_law_last",ļ,AAp,Υ,AAx] [AAq,Z4,ŧ,Ϛ] (aD (top 89)):=ù
theorem Kr(F:Û K "_law_met" "_law_met" (top 89) f fd)(T:Mg mg)(Te:mg "enumerate"=none)(Tl:mg "list"=none)(Tm:mg "max"=none)(Ts:mg "sum"=none)(Td:mg "dict"=none)(c1:ã P w K mg base 2 "_law_sold" [Z4,ŧ] ul)(c2:ã P w K mg base 2 "_law_year" [Z4,ļ,AAp,Υ,AAx] zM):Í P w K mg base Ý 3 f fd [AAq,Z4,ŧ,Ϛ] Je:=by
 refine F.oq Ů λai A outer s H vs Q E hr h=>?_;obtain⟨ac,xc,cs,ap,xp,ps,bb,ar,xs,ss,g,rfl,rc,okc,gL,lc,rp,lp,okp,rs,ls,h5,hu,g0,g1,q⟩:=h;refine K52P.ok_b (aN (fQ 4 Ů.nd ⟨bB gR rfl Tl jD (aA (pv 0) ao)⟩) (aN ⟨uA ĥ (bf jJ (aM bu rfl T.len PySem.boot_len (aA (pv 4) ao)) aB (bh _)) (aF (cA (gK ό Ϲ Ϻ d9 (pv 4) (aA (bB bF rfl T.tuple Ó (aA (bI [Τ,Ϛ] [none,some 3] rfl (dX (pX bV (pv 4) (yj rT aB))) (λC fp Z7 s₂ Ï=>⟨Î 0 Ol,bR,aQ je (aQ fY (pv 0) (aQ bL aB (pv 1))) aB⟩) (λC=>cI trivial) ⟨rfl,rfl,rfl,rfl⟩) ao)) ao))))⟩ (aN (fQ 5 Ů.nd ⟨aM (jq rfl) rfl Tm rM (aA (aQ iM (cP (aA (aQ du (aM bu rfl T.len PySem.boot_len (aA (pv 0) ao)) aB) ao)) (bI ["_law_promise"] [none] rfl (dX (pv 1)) (λC fp Z7 s₂ Ï=>⟨Î 0 Om,bR,pX (K52P.ix_tupK (K:=K) rfl) (pv 0) aB⟩) (λC=>trivial) ⟨rfl,rfl,rfl,rfl⟩)) ao)⟩) (aN ⟨cO (bO (aA (pX cB (aJ c1 hr (aA (pv 1) (aA (pv 2) ao))) aB) (aA oR ao))) (bC rfl (au (Î 6 Ů.nd) (au (bN (i:=7) Ů.nd rfl (Or.inr rfl)) aW)))⟩ (aN ⟨bZ ĥ rfl (ZT.pi_enum false rfl Te (aA (pv 4) ao)) (bC rfl (au (Î 8 Ů.nd) (au (Î 9 Ů.nd) aW))) (jR (aN ⟨cA (aJ c2 hr (aA (pv 1) (aA (pv 6) (aA (pv 7) (aA (pv 8) (aA (pv 9) ao))))))⟩ (aN ⟨cG (PW.pt (wB (bf uC (pv 8) (pv 5) (bh _)) (rQ (bf mz (aM (cX rfl) rfl Ts à (aA (xu (bI [Τ,AAp] [none,some 7] rfl (tL (pv 7)) (λC fp Z7 s₂ Ï=>⟨Î 0 N6,bR,fG (eO hr) (pv 1) (pv 0) (λ_ _=>rfl)⟩) (λC=>cI trivial) ⟨rfl,rfl,rfl,rfl⟩)) ao)) aB (bh _))))) (aF (aR (pv 8))) bj⟩ (bW (wW (i:=7) Ů.nd rfl (Or.inr rfl) ⟨bB (DI.call_dictT rfl hr.units) rfl Td yf (aA (xu (bI [Τ,AAp] [none,some 7] rfl (tL (pv 7)) (λC fp Z7 s₂ Ï=>⟨Î 0 N6,fD (bf mD (fG (eO hr) (pv 1) (pv 0) (λ_ _=>rfl)) aB (bh _)),bO (aA (pv 0) (aA (fG (eO hr) (pv 1) (pv 0) (λ_ _=>rfl)) ao))⟩) (λC=>cI trivial) ⟨rfl,rfl,rfl,rfl⟩)) ao)⟩)))))⟩ (bW (fZ ⟨fW⟩))))))) ?_;have UG:=rc.th;have gE:cs≠[]:=λz=>by rw[z]at gL;exact absurd gL Z3
 cases UG with|@tup _ xs0 ds ea r=>
 refine aH (aU ?_);refine⟨_,rfl,ac,xs0,rfl,Ê.of ea,λp hp np=>?_⟩;refine aG ?_;dsimp only;refine aH ?_;have len0:=r.length;rw[Ð]at len0;have P9:=yd okc;refine⟨λm σ H'=>∃i ys,m=(100-cs.length)-i/\i<=100-cs.length/\σ=[some (.ref ac),some (.ref ap),some (.ref ar),some (.int g),some (.ref p),none,none,none,none,none]/\(∀b o,b≠p->H b=some o->H' b=some o)/\H' p=some (.lst ys)/\Å (λ_=>False) H' ys ((gi g cs i).map cu),⟨_,0,xs0,rfl,Ě _,rfl,λb o n e=>by rw[aq n];exact e,aj,?_⟩,?_⟩;.exact(pY (S':=λ_=>False) r).keep (λc l e=>by rw[aq (az e hp)];exact e) (λ_ _ z _=>z.elim) λ_ _ z _=>z.elim
 .rintro m σ H'⟨i,ys,rfl,hi,rfl,kp,ep,it⟩;have ly:=it.length;rw[Ð,j9]at ly;refine⟨_,rfl,p,ys,rfl,.inl (É.of ep),_,_,rfl,rfl,_,rfl,?_⟩;refine mU (λc=>?_) (λc=>?_)
  .have c:=ŋ c;have c:(ys.length:Int)<100:=c;refine⟨λaf sF=>∃cE,af=[some (.ref ac),some (.ref ap),some (.ref ar),some (.int g),some (.ref p),none,none,none,none,none]/\(∀b o,b≠p->H b=some o->sF b=some o)/\sF p=some (.lst cE)/\Å (λ_=>False) sF cE ((gi g cs (i+1)).map cu),λaf sF⟨cE,e1,e2,e3,e4⟩=>⟨100-cs.length-(i+1),Z1,i+1,cE,rfl,Z1,e1,e2,e3,e4⟩,?_⟩;have ne:gi g cs i≠[]:=λz=>by have:=j9 g cs i;rw[z]at this;simp at this;lia
   obtain⟨t,e5,e6⟩:=rK it ne;have lr:((gi g cs i).getLastD []).length=3:=(wu g0 g1 P9 gE i _ (pW ne)).1;refine⟨_,rfl,.inl ⟨rfl,_,É.of ep⟩,_,rfl,1,rfl,p,ys,-1,.ref t,rfl,rfl,É.of ep,e5,t,rfl,⟨_,Ê.of e6⟩,zT e6 lr g0 g1 λD hD=>⟨D,_,rfl,.inl ⟨É.of aj,λl hl=>?_⟩⟩⟩;have sm:À H' (upd (upd H' D (.lst ((up g ((gi g cs i).getLastD [])).map V.int))) l (.tup ((up g ((gi g cs i).getLastD [])).map V.int))):=(À.upd hD).updR hl;have Nd:l≠p:=λz=>by rw[z,À.upd hD _ _ ep]at hl;cases hl
   refine⟨p,ys,.ref l,rfl,rfl,sm _ _ ep,by rw[sizeLine_eq];lia,?_⟩;refine⟨ys++[.ref l],rfl,λb o n e=>?_,aj,?_⟩;.rw[aq n];exact sm _ _ (kp b o n e)
   .show Å _ _ _ ((gi g cs i++[up g ((gi g cs i).getLastD [])]).map cu);rw[ë];refine Å.append ?_ (.cons (.tup (by rw[aq Nd];exact aj) (Å.ints _)) .nil);exact(it.same sm).keep (λc l' e'=>by rw[aq λz=>by rw[z,sm _ _ ep]at e';cases e'];exact e') (λ_ _ z _=>z.elim) λ_ _ z _=>z.elim
  .have c:¬(ys.length:Int)<100:=λz=>c (ñ z);have ei:i=100-cs.length:=Z1;subst ei;have sH:À H H':=λb o e=>kp b o (az e hp) e;clear kp r ea;have A6:∀r∈gi g cs (100-cs.length),r.length=3/\∀x∈r,0<=x:=λr hr=>(let o:=wu g0 g1 P9 gE (100-cs.length) r hr;⟨o.1,λx hx=>(o.2 x hx).1⟩);have gl:(gi g cs (100-cs.length)).length=100:=by rw[j9];lia
   have pj:∀j,ww g cs ps ss j↔(cs.length<=j+1/\(∀p∈ps,fl p 3<=(j:Int))/\aO (gi g cs (100-cs.length)) ps ss (j+1) 3=0):=λj=>Iff.rfl;have rows:∀j,j<100->∃t,ys[j]?=some (.ref t)/\H' t=some (.tup (((gi g cs (100-cs.length)).getD j []).map V.int)):=λj hj=>by obtain⟨d,hd,tv⟩:=it.get (Ö (by lia:j<ys.length));rw[ý,Ö Z1]at hd;cases hd;generalize ev:ys[j]=v at tv;cases tv with|tup e r=>refine⟨_,by rw[Ö Z1,ev],?_⟩;rw[nQ r]at e;rw[Ú Z1];exact e
   generalize gi g cs (100-cs.length)=G at A6 gl pj rows;clear it;have UH:ys.length=100:=Z1;dsimp only;refine aH (aU ?_);have lx:=rc.l;have UB:=rp.l;refine⟨_,rfl,ac,xc,rfl,.inr (Ê.of (sH _ _ rc.e)),_,_,rfl,rfl,zL,λl1 dQ=>?_⟩;have s1:=À.upd (o:=.lst [V.int ((xc.length:Int)-1)]) dQ;have Ĺ:=aj (H:=H') (a:=l1) (o:=.lst [V.int ((xc.length:Int)-1)]);generalize upd H' l1 (.lst [V.int ((xc.length:Int)-1)])=H1 at s1 Ĺ⊢;have kN:=rp.same (sH.trans s1);refine⟨_,rfl,ap,rfl,⟨_,Ê.of kN.e⟩,cY ps.length (λi ys σ Hc=>Hc=H1/\(∃o1,σ=[o1])/\ys=((ps.take i).map λr=>fl r 3).map V.int) ⟨rfl,⟨_,rfl⟩,rfl⟩ Z6 ?_ ?_⟩
   .rintro i ys σ Hc hi hy⟨rfl,⟨o1,rfl⟩,rfl⟩;obtain⟨t,ex,et⟩:=kN.g i ps[i] (Ö hi);have bX:ps.take (i+1)=ps.take i++[ps[i]]:=by rw[Ĝ,Ö hi];rfl
    have l6:=(okp _ (Č hi)).1;refine⟨⟨_,_,Ê.of kN.e,ex⟩,λv H' y' R' iS=>?_⟩;obtain⟨rfl,y'⟩:=y';have hv:=y' _ (Ê.of kN.e);rw[ex]at hv;cases hv;refine aG ?_;refine⟨_,rfl,t,_,3,_,rfl,rfl,Ê.of et,dU (j:=3) (iC Z1),iS _ _ _ ⟨rfl,⟨_,rfl⟩,?_⟩⟩;rw[bX,ë,ë];rfl
   rintro yc σ Hc hy⟨rfl,_,rfl⟩;rw[Ĩ];refine⟨⟨_,Ê.of kN.e,Z1⟩,λD hD=>?_⟩;have s2:=À.upd (o:=.lst ((ps.map λr=>fl r 3).map V.int)) hD;have eD:=aj (H:=Hc) (a:=D) (o:=.lst ((ps.map λr=>fl r 3).map V.int));generalize upd Hc D (.lst ((ps.map λr=>fl r 3).map V.int))=H2 at s2 eD⊢;refine⟨l1,D,_,_,rfl,rfl,s2 _ _ Ĺ,eD,by rw[Ð,Ð,sizeLine_eq];show 1+_<=_;lia,λl2 eC=>⟨l2,((xc.length:Int)-1)::ps.map λr=>fl r 3,rfl,É.of aj,by simp,λM hM hm=>?_⟩⟩;have s3:=(s1.trans s2).trans (À.upd (o:=.lst ([V.int ((xc.length:Int)-1)]++(ps.map λr=>fl r 3).map V.int)) eC);generalize upd H2 l2 (.lst ([V.int ((xc.length:Int)-1)]++(ps.map λr=>fl r 3).map V.int))=H3 at s3⊢;refine aG ?_;dsimp only;clear s2 eD Ĺ hD eC kN s1 dQ;have G0:=sH.trans s3;have F5:=rp.same G0;have ET:∀i:Nat,decide (M<=(i:Int))=true↔(cs.length<=i+1/\∀p∈ps,fl p 3<=(i:Int)):=λi=>by
    rw[ă];constructor;.intro h;have a1:=hm _ (.head _);refine⟨Z1,λp hp=>?_⟩;have:=hm (fl p 3) (.tail _ (è.mpr ⟨p,hp,rfl⟩));lia
    .rintro⟨h1,h2⟩;rcases Ġ.mp hM with z|z;.lia
     .obtain⟨p,hp,rfl⟩:=è.mp z;exact h2 p hp
   clear hM hm;refine aX λc_ av=>?_;refine⟨_,rfl,_,rfl,ap,xp,ps,bb,ar,xs,ss,rfl,F5,lp,okp,rs.same G0,Z1,h5,λtt fo H4 s4 GS mw=>⟨tt,_,0,.ref fo,rfl,rfl,Ê.of GS,rfl,λlk oP=>⟨zL,λt3 Qa=>⟨t3,_,rfl,Ê.of aj,rfl,_,_,rfl,_,_,rfl,rfl,?_⟩⟩⟩⟩;obtain⟨b,kvs,dt⟩:=mw hu;have dt:ğ fo H3 H4 (ũ ps) (rF ps ss) b kvs:=dt;have u2:=À.upd (o:=.dT []) oP;have u3:=À.upd (o:=.tup [.ref fo,.ref lk]) Qa;have lI:H3 lk=none:=s4.free oP;have nf:fo≠lk:=az dt.e oP;refine av _ _ ?_;clear av c_;try dsimp only
   refine eV (λH5=>À H3 H5/\ĭ H5 lk []/\ğ fo H3 H5 (ũ ps) (rF ps ss) b kvs) ⟨(s4.trans u2).trans u3,⟨[],u3 _ _ aj,List.Perm.refl _⟩,(dt.same u2).same u3⟩ λH5=>?_;rintro⟨S5,UI,UJ⟩;clear dt u2 u3 oP Qa GS mw s4;have Qb:=s3 _ _ ep;refine aH ?_;refine⟨_,rfl,p,ys,rfl,É.of (S5 _ _ Qb),?_⟩;refine ZT.for_enum false (xs:=ys) (λi σ Hc=>∃x8 x9 lk M',σ=[some (.ref ac),some (.ref ap),some (.ref ar),some (.int g),some (.ref p),some (.int M),some (.ref fo),some (.ref lk),x8,x9]/\À H3 Hc/\ĭ Hc lk M'/\Lk G ps ss i M'/\ğ fo H3 Hc (ũ ps) (rF ps ss) b kvs/\fo≠lk/\H3 lk=none/\∀j,j<i->¬ww g cs ps ss j) ?_ ?_ ?_ ?_;.exact⟨none,none,lk,[],rfl,S5,UI,⟨List.nodup_nil,λr hr=>(by cases hr),λr hr=>(by cases hr),λ_ _=>rfl,Ø _⟩,UJ,nf,lI,λj hj=>absurd hj (Ϩ _)⟩
   .rintro i σ Hc hi⟨x8,x9,lk,M',rfl,k,_⟩;exact É.of (k _ _ Qb)
   .rintro i x σ Hc T0 hx⟨x8,x9,lk,M',rfl,k,la,F6,dt,nf,lI,hh⟩nT;have hi:i<100:=by have:=(ĩ.mp hx).1;lia
    obtain⟨tc,fE,rL⟩:=rows i hi;have:x=.ref tc:=by rw[hx]at fE;exact ŉ fE
    subst this;have ec:G.getD i []∈G:=by rw[Ú Z1];exact Č _
    have sT:=À.upd (o:=.tup [V.int i,V.ref tc]) nT;have k1:=k.trans sT;have He:=la.same sT;have pd:=dt.same sT;have eT:=aj (H:=Hc) (a:=T0) (o:=.tup [V.int i,V.ref tc]);generalize upd Hc T0 (.tup [V.int i,V.ref tc])=H1 at k1 He pd eT⊢;clear dt la sT k nT;refine⟨T0,_,rfl,Ê.of eT,rfl,_,_,rfl,_,_,rfl,rfl,?_⟩;try dsimp only
    refine aX λc_ av=>?_;refine⟨_,rfl,_,rfl,_,rfl,_,rfl,_,rfl,ap,xp,ps,fo,H3,b,kvs,lk,M',i,tc,G,ss,rfl,F5.same k1,lp,okp,pd,nf,lI,He,F6,hi,k1 _ _ (s3 _ _ rL),(A6 _ ec).1,(A6 _ ec).2,hu,h5,λt g' tl M2 H2 kb et Qd Qe=>?_⟩;have k2:À H3 H2:=λb o e=>kb _ _ (az e lI) (k1 _ _ e);obtain⟨_,EU,_⟩:=id He;have Qf:=pd.but kb nf lI EU;obtain⟨Mo,iP,A4⟩:=id Qd;have lo:=Qe.pm A4;clear pd He kb k1 EU et Qd Qe A4 eT;refine av _ _ ?_;clear av c_;try dsimp only
    have T9:Mo.length<=24000:=by have:=lo.len;lia
    refine aX λc_ av=>?_;have go:∀Hx,À H2 Hx->¬ww g cs ps ss i->c_ [some (.ref ac),some (.ref ap),some (.ref ar),some (.int g),some (.ref p),some (.int M),some (.ref fo),some (.ref lk),some (.int i),some (.ref tc)] Hx:=λHx sx nm=>by
     refine av _ _ ?_;clear av c_;try dsimp only
     refine aU ?_;have Qg:=sx _ _ iP;refine⟨lk,_,Qg,λo=>?_⟩;have ez:=aj (H:=Hx) (a:=lk) (o:=.frz o (.dT (Mo.map ó)));have sz:∀b u,b≠lk->Hx b=some u->upd Hx lk (.frz o (.dT (Mo.map ó))) b=some u:=λb u n e=>by rw[aq n];exact e
     generalize upd Hx lk (.frz o (.dT (Mo.map ó)))=Hz at ez sz⊢;refine⟨_,rfl,lk,o,_,rfl,ez,dR Mo.length (λj ys σ Hd=>À Hz Hd/\(∃o1,σ=[o1,some (.ref lk)])/\∃l:þ,ys=l.map V.ref/\Δ Hd l (lz (Mo.take j))) ⟨À.refl _,⟨_,rfl⟩,[],rfl,rfl,λj kv e=>(by simp[lz]at e)⟩ Z6 ?_ ?_⟩
     .rintro j ys σ Hd hj hy⟨sd,⟨o1,rfl⟩,l,rfl,pr⟩;have bX:lz (Mo.take (j+1))=lz (Mo.take j)++(if 0<fl Mo[j] 3 then[Mo[j]]else[]):=by
       rw[Ĝ,Ö hj,show(some Mo[j]).toList=[Mo[j]]from rfl];unfold lz;rw[Zat];congr 1;by_cases h:0<fl Mo[j] 3;.rw[È h,zBf (p:=λ(r:PP)=>decide (0<fl r 3)) (ñ h)];rfl
       .rw[Æ h,zBe (p:=λ(r:PP)=>decide (0<fl r 3)) (by rw[ă];exact h)];rfl
      refine⟨⟨sd _ _ ez,by rw[Ð];exact hj⟩,λx H' yv R hR=>?_⟩;obtain⟨rfl,bb,kk,vv,rfl,vt,kQ⟩:=yv;rw[ý,Ö hj]at vt;cases vt;have kQ:H' bb=some (.tup ((Ç Mo[j]).map V.int)):=kQ;have gt:=Ad (sd _ _ ez) lo.kd (Č hj) kQ;refine aG ?_;refine⟨_,rfl,_,rfl,lk,_,rfl,gt,_,_,rfl,rfl,_,rfl,?_⟩;by_cases h:0<fl Mo[j] 3;.rw[ñ h];refine cg ⟨_,rfl,_,rfl,_,rfl,lk,_,rfl,gt,zL,λt1 pb=>?_⟩;have s1:=À.upd (o:=.tup [.ref bb,V.int (fl Mo[j] 3)]) pb;refine hR _ _ _ (by rw[ì];show _+1<=j+1;lia) ⟨sd.trans s1,⟨_,rfl⟩,l++[t1],by rw[ë];rfl,?_⟩;rw[bX,È h];exact(pr.keep λb z e=>s1 _ _ e).app aj (s1 _ _ kQ)
      .rw[Ŋ h];refine bH (hR _ _ _ Z1 ⟨sd,⟨_,rfl⟩,l,rfl,?_⟩);rw[bX,Æ h,Į];exact pr
     rintro ys σ Hd hy⟨sd,_,l,rfl,pr⟩;rw[Ĩ]at pr;refine⟨⟨sd _ _ ez,by rw[Ð];exact Ø _⟩,λD hD=>⟨À.upd hD _ _ (sd _ _ ez),?_⟩⟩;have nD:D≠lk:=λz=>by rw[z,sd _ _ ez]at hD;cases hD
     have S6:À Hx (upd (upd Hd D (.lst (l.map V.ref))) lk (.dT (Mo.map ó))):=λb u e=>by
      by_cases hb:b=lk;.subst hb;rw[Qg]at e;cases e;exact aj
      .rw[aq hb];exact À.upd hD _ _ (sd _ _ (sz _ _ hb e))
     have eD:upd (upd Hd D (.lst (l.map V.ref))) lk (.dT (Mo.map ó)) D=some (.lst (l.map V.ref)):=by rw[aq nD];exact aj
     have si:upd Hd D (.lst (l.map V.ref)) lk=some (.frz o (.dT (Mo.map ó))):=À.upd hD _ _ (sd _ _ ez);have ND:Δ (upd (upd Hd D (.lst (l.map V.ref))) lk (.dT (Mo.map ó))) l (lz Mo):=pr.keep λb z e=>by rw[aq λw=>by rw[w,sd _ _ ez]at e;cases e];exact À.upd hD _ _ e
     generalize upd (upd Hd D (.lst (l.map V.ref))) lk (.dT (Mo.map ó))=H6 at S6 eD ND⊢;clear pr sd sz ez hD si;refine⟨D,l,(lz Mo).map ó,rfl,eD,by rw[Ð];exact ND.1,ug lo.pos.kd,ND.2,λnk NF _=>?_⟩;refine aG ?_;have S7:=(sx.trans S6).trans (À.upd (o:=.dT ((lz Mo).map ó)) NF);have UK:=Qf.same S7;refine⟨_,_,nk,lz Mo,rfl,k2.trans S7,⟨_,aj,List.Perm.refl _⟩,lo.pos,UK,az ((Qf.same (sx.trans S6)).e) NF,(k2.trans (sx.trans S6)).free NF,λj hj=>?_⟩;rcases Nat.lt_or_ge j i with z|z;.exact hh j z
     .have:j=i:=Z1;rw[this];exact nm
    refine⟨_,rfl,_,rfl,_,_,rfl,rfl,_,rfl,?_⟩;refine mU (λc=>?_) (λc=>?_)
    .have cM:=(ET i).mp c;refine⟨lk,_,iP,λo=>?_⟩;have ez:=aj (H:=H2) (a:=lk) (o:=.frz o (.dT (Mo.map ó)));have sz:∀b u,b≠lk->H2 b=some u->upd H2 lk (.frz o (.dT (Mo.map ó))) b=some u:=λb u n e=>by rw[aq n];exact e
     generalize upd H2 lk (.frz o (.dT (Mo.map ó)))=Hz at ez sz⊢;refine⟨_,rfl,lk,o,_,rfl,ez,cY Mo.length (λj ys σ Hd=>Hd=Hz/\(∃o1,σ=[o1,some (.ref lk)])/\ys=(ü (Mo.take j)).map V.int) ⟨rfl,⟨_,rfl⟩,rfl⟩ Z6 ?_ ?_⟩;.rintro j ys σ Hd hj hy⟨rfl,⟨o1,rfl⟩,rfl⟩;refine⟨⟨ez,by rw[Ð];exact hj⟩,λx H' yv R hR=>?_⟩;obtain⟨rfl,bb,kk,vv,rfl,vt,kQ⟩:=yv;rw[ý,Ö hj]at vt;cases vt;have kQ:H' bb=some (.tup ((Ç Mo[j]).map V.int)):=kQ;refine aG ?_;refine⟨_,rfl,_,rfl,lk,_,rfl,Ad ez lo.kd (Č hj) kQ,hR _ _ _ ⟨rfl,⟨_,rfl⟩,?_⟩⟩;rw[Ĝ,Ö hj];unfold ü;rw[ë,ë];rfl
     rintro ys σ Hd hy⟨rfl,_,rfl⟩;rw[Ĩ];refine⟨⟨ez,by rw[Ð];exact Ø _⟩,λD hD=>⟨À.upd hD _ _ ez,?_⟩⟩;have nD:D≠lk:=λz=>by rw[z,ez]at hD;cases hD
     have S6:À H2 (upd (upd Hd D (.lst ((ü Mo).map V.int))) lk (.dT (Mo.map ó))):=λb u e=>by
      by_cases hb:b=lk;.subst hb;rw[iP]at e;cases e;exact aj
      .rw[aq hb];exact À.upd hD _ _ (sz _ _ hb e)
     have eD:upd (upd Hd D (.lst ((ü Mo).map V.int))) lk (.dT (Mo.map ó)) D=some (.lst ((ü Mo).map V.int)):=by rw[aq nD];exact aj
     generalize upd (upd Hd D (.lst ((ü Mo).map V.int))) lk (.dT (Mo.map ó))=H6 at S6 eD⊢;refine⟨D,ü Mo,rfl,.inl (É.of eD),?_⟩;have eS:(ü Mo).sum=aO G ps ss (i+1) 3:=lo.all okp;rw[eS];refine⟨rfl,_,rfl,?_⟩;refine mU (λc2=>?_) (λc2=>?_);.have e0:=ŋ c2;injection e0 with e0;exact⟨_,rfl,q (some i) _ (G0.trans (k2.trans S6)) ⟨hi,(pj i).mpr ⟨cM.1,cM.2,e0⟩,hh⟩⟩
     .exact go _ S6 λm=>c2 (ñ (congrArg V.int ((pj i).mp m).2.2))
    .exact go _ (À.refl _) λm=>c ((ET i).mpr ⟨((pj i).mp m).1,((pj i).mp m).2.1⟩)
   .rintro σ Hc⟨x8,x9,lk,M',rfl,k,la,F6,dt,nf,lI,hh⟩;rw[UH]at hh;exact q none _ (G0.trans k) hh
inductive Ϭ(vs:List V)(H:Hp)(Q:VK):Prop|mk:∀bk ac xc cs ap xp ps ar xs ss g,(vs=[.ref bk,.int g])->(í H bk ac xc cs ap xp ps ar xs ss)->((∀r∈cs,okC r))->(1<=cs.length)->(-100<=g)->(g<=100)->(∀o H',À H H'->iG ps.length (zZ g cs ps ss) o->Q (ϻ o) H')->Ϭ  vs H Q
def Jf:Sp:=λvs H Q _=>Ϭ  vs H Q
theorem Oo:([ϙ,ϛ]:ç).Nodup:=by decide+kernel
theorem Z0l:Á [AAn,Ϛ,ϛ,ŧ] [AAn,Ϛ] (aD (top 90)):=ù
theorem Ks(F:Û K "_law_due" "_law_due" (top 90) f fd)(T:Mg mg)(Tr:mg "range"=none)(c1:ã P w K mg base 3 "_law_met" [AAq,Z4,ŧ,Ϛ] Je):Í P w K mg base Ý 4 f fd [AAn,Ϛ] Jf:=by
 refine F.oq Z0l λai A outer s H vs Q E hr h=>?_;obtain⟨bk,ac,xc,cs,ap,xp,ps,ar,xs,ss,g,rfl,B,okc,gL,g0,g1,q⟩:=h;refine K52P.ok_b (aN ⟨bZ ĥ rfl (d7 rfl Tr (aA (aM bu rfl T.len PySem.boot_len (aA (pX cB (pv 0) aB) ao)) ao)) (bN (i:=2) Z0l.nd rfl (Or.inr rfl)) (jR (aN ⟨gM (i:=3) [ϙ,ϛ] [none,some 2] rfl Z0l.nd rfl (Or.inl rfl) (dX (pX cB (pv 0) aB)) (λC fp Z7 s₂ Ï=>⟨Î 0 Oo,fD (bf bT (pX (K52P.ix_tupK (K:=K) rfl) (pv 0) aB) (pv 1) (bh _)),pv 0⟩) (λC=>cI trivial) ⟨rfl,rfl,rfl,rfl⟩⟩ (bW ⟨cG (bf rW (aJ c1 hr (aK (pX cB (pv 0) aB) (aK (iK zJ (pX cB (pv 0) aB) jK (jL (aQ bL (pv 2) aB))) (aK (pv 3) (aK (pv 1) ao))))) fW (bh _)) (aF (aR (pv 2))) bj⟩)))⟩ (bW (fZ ⟨fW⟩))) ?_;refine aH ?_;have lx:=B.rp.l;have lp:=B.lp;have ls:=B.ls;have PH:=B.rs.l;refine⟨_,rfl,bk,_,1,.ref ap,rfl,rfl,Ê.of B.e,rfl,ap,xp,rfl,.inr (Ê.of B.rp.e),(xp.length:Int),rfl,Z1,Z1,?_⟩;refine cU (lo:=0) (λi σ Hc=>∃x2 x3,σ=[some (.ref bk),some (.int g),x2,x3]/\À H Hc/\∀j,j<i->¬zZ g cs ps ss j) ?_ ?_ ?_;.exact⟨none,none,rfl,À.refl _,λj hj=>absurd hj (Ϩ _)⟩
 .rintro m σ Hc hi⟨x2,x3,rfl,sm,hh⟩;have hi:m<ps.length:=Z1;refine aG ?_;rw[show(0:Int)+(m:Int)=m by lia];have B1:=B.same sm;refine aH ?_;refine⟨_,rfl,bk,_,2,.ref ar,rfl,rfl,Ê.of B1.e,rfl,ar,rfl,⟨_,Ê.of B1.rs.e⟩,?_⟩;refine dR ss.length (λi ys σ Hd=>Hd=Hc/\(∃o1,σ=[o1,some (.int m)])/\â Hc ys (Ķ (ss.take i) (m+1))) ⟨rfl,⟨_,rfl⟩,â.nil⟩ Z6 ?_ ?_
  .rintro i ys σ Hd hi hy⟨rfl,⟨o1,rfl⟩,dv⟩;obtain⟨t,ex,et⟩:=B1.rs.g i ss[i] (Ö hi);have l5:=B.h5 _ (Č hi);refine⟨⟨_,_,Ê.of B1.rs.e,ex⟩,λv H' y' R' iS=>?_⟩;obtain⟨rfl,y'⟩:=y';have hv:=y' _ (Ê.of B1.rs.e);rw[ex]at hv;cases hv;refine aG ?_;rw[wz hi]at iS;refine⟨_,rfl,t,_,0,_,rfl,rfl,Ê.of et,dU (j:=0) (iC Z1),_,rfl,_,_,rfl,rfl,_,rfl,?_⟩;refine mU (λc=>?_) (λc=>?_);.have c:fl ss[i] 0<=(m:Int):=ŋ c;rw[È (show fl ss[i] 0<((m+1:Nat):Int)by lia)]at iS;exact⟨_,rfl,iS _ _ _ (by rw[ì];exact Nat.succ_le_succ hy) ⟨rfl,⟨_,rfl⟩,dv.app (â.one et)⟩⟩
   .have c:¬fl ss[i] 0<=(m:Int):=λz=>c (ñ z);rw[Æ (show¬fl ss[i] 0<((m+1:Nat):Int)by lia),Į]at iS;exact iS _ _ _ Z1 ⟨rfl,⟨_,rfl⟩,dv⟩
  rintro ys σ Hd hy⟨rfl,_,dv⟩;rw[Ĩ]at dv;refine⟨⟨_,Ê.of B1.rs.e,Z1⟩,λD hD=>?_⟩;refine aG ?_;dsimp only;have s2:=À.upd (o:=.lst ys) hD;have eD:=aj (H:=Hd) (a:=D) (o:=.lst ys);generalize upd Hd D (.lst ys)=H2 at s2 eD⊢;have B2:=B1.same s2;refine⟨_,rfl,bk,_,0,.ref ac,rfl,rfl,Ê.of B2.e,rfl,_,rfl,bk,_,1,.ref ap,rfl,rfl,Ê.of B2.e,rfl,_,rfl,_,_,rfl,rfl,_,rfl,ap,xp,rfl,B2.rp.e,λk1 H3 s3 y8=>?_⟩;rw[show(m:Int)+1=((m+1:Nat):Int)by lia,Aa]at y8;have NC:=rO (B2.rp.same s3) y8;have B3:=B2.same s3;have fm:=(dv.same s2).same s3;refine⟨_,rfl,_,rfl,ac,xc,cs,k1,_,_,false,D,ys,_,g,rfl,B3.rc,okc,gL,B.lc,NC,by rw[Ė];lia,λr hr=>B.okp r (Zaq hr),⟨s3 _ _ eD,fm.1,fm.2⟩,ĺ (Zay _ _) ls,λs hs=>B.h5 s (Ũ.mp hs).1,zW B.un _,g0,g1,λo H4 s4 h=>⟨rfl,_,rfl,?_⟩⟩;have rf:=((sm.trans s2).trans s3).trans s4;cases o with|none=>exact cg ⟨_,rfl,q (some m) _ rf ⟨hi,h,hh⟩⟩;|some k=>
   refine bH ⟨_,_,rfl,rf,λj hj=>?_⟩;rcases Nat.lt_or_ge j m with z|z;.exact hh j z
   .have:j=m:=Z1;subst this;exact λnv=>nv k h.1 h.2.1
 .rintro σ Hc⟨x2,x3,rfl,sm,hh⟩;exact q none _ sm λj hj=>hh j Z1
theorem G7{fl:Addr}(kd:ϗ K Cs j)(L:Ť H2 fl fd)(Z:ń fd body N)(C:Ļ fd.closure N vs H2 cs)(hN:vs.length=N.length)(run:∀A outer E Q,ä kk A->(∀a H',À H2 H'->H' a=none->E (.ref a) (some (Cs j)) H')->∃te,(∀s,PE (cxL P w K mg base N fd fl A outer s H2 E) body te)/\te (vs.map some) H2 Q)(q:∀p H3,À (fz H2 cs) H3->H3 p=some (.tup [.str (words.getD j "")])->Q (.ref p) H3):xZ P w K mg base Cs kk [.ref fl] (fz H2 cs) Q E0:=by
 have no:ϳ cs H2:=C.no;have Qh:∀b o,H2 b=some o->fz H2 cs b=some o:=λb o e=>by cases z:cs.lookup b with|some u=>rw[no b u z]at e;cases e;|none=>rw[dM z];exact e
 refine⟨fl,λ_ _=>False,λa C' H3=>C'=Cs j/\À (fz H2 cs) H3,rfl,⟨fd,body,N,vs,cs,?_,Z,λb o e=>qT e,C.cell,C.val,hN,λA' iX Q' E' hJ h1 h2=>?_⟩,λ_ _ h=>h.elim,?_⟩;.obtain⟨⟨o,e1,e2⟩,c,oc,vs,t,a1,a2,a3⟩:=L;exact⟨⟨o,Qh _ _ e1,e2⟩,c,oc,vs,t,a1,Qh _ _ a2,a3⟩
 .rw[Ma no];exact run A' iX _ _ hJ λa H' s' na Y4=>h2 a (Cs j) (fz H' cs) ⟨rfl,s'.fz⟩
 .rintro a C' H3⟨rfl,s3⟩;exact⟨j,rfl,kd,λfa p H4 s4 e4=>q _ _ (s3.trans s4) e4⟩
theorem N7(j:Nat):PySem.SeqAt.shaped (.tuple [.str (words.getD j "")])=true:=by
 have:PyData.strOk (words.getD j "")=true:=by
  rcases Nat.lt_or_ge j 16 with h|h;.exact(by decide+kernel:∀i,i<16->PyData.strOk (words.getD i "")=true) j h
  .rw[Ğ,Zan (show words.length<=j from h)];decide+kernel
 simp only[PySem.SeqAt.shaped,PyData.canLay0,PyData.canLayAll0,PyData.depth,PyData.depthAll,this];rfl
def qnT:Str:=(PyProof.Rows.envOfC "law" (aD (top 91)) 0 0 .none).qual++"<lambda>"
inductive ϫ(K:Frag)(T:Addr)(vs:List V)(H:Hp)(Q:VK):Prop|mk:∀a(ns:PP),(vs=[.ref a])->(É K H a (ns.map V.int))->(ns.length<=63)->(õ H T qnT)->(∀H',Q (.bl true) H')->ϫ K T vs H Q
def Ae(K:Frag)(T:Addr):Sp:=λvs H Q _=>ϫ K T vs H Q
theorem G8(t:õ H T q)(sa:jm H st)(g:Dr st H H'):õ H' T q:=by
 obtain⟨x,y,e,_⟩:=sa;refine t.keep (λps e'=>g.bt _ _ e' λz=>?_) λb o e'=>g.bt _ _ e' λz=>?_;.rw[z,e]at e';cases e'
 .rw[z,e]at e';cases e'
theorem uo{rs:PK}(h:∀r∈rs,∀i∈r,-10<=i/\i<=2000000):ύ (2^100) (rs.map cu)=true:=by refine š.mpr λd hd=>?_;obtain⟨r,hr,rfl⟩:=è.mp hd;show ύ (2^100) (r.map PyData.int)=true;refine š.mpr λd hd=>?_;obtain⟨i,hi,rfl⟩:=è.mp hd;have:=h r hr i hi;exact ñ (show i.natAbs<2^100 by lia)
def Ϟ(cs ps ss:PK):PyData:=.tuple [bU cs,bU ps,bU ss]
structure Bk(T st bk ac:Addr)(xc:List V)(cs:PK)(ap:Addr)(xp:List V)(ps:PK)(ar:Addr)(xs:List V)(ss:PK)(H0 H:Hp):Prop where
 kp:∀b o,b≠T->b≠st->H0 b=some o->H b=some o
 sa:jm H st
 tb:õ H T qnT
 b:í H bk ac xc cs ap xp ps ar xs ss
section
theorem í.keep(h:í H bk ac xc cs ap xp ps ar xs ss)(k:∀b l,H b=some (.tup l)->H' b=some (.tup l)):í H' bk ac xc cs ap xp ps ar xs ss:=⟨k _ _ h.e,h.rc.keep k,h.okc,h.lc,h.rp.keep k,h.lp,h.okp,h.rs.keep k,h.ls,h.h5,h.un⟩
theorem í.th(h:í H bk ac xc cs ap xp ps ar xs ss):Ò S H (.ref bk) (Ϟ cs ps ss):=(Ò.tup h.e (.cons h.rc.th (.cons h.rp.th (.cons h.rs.th .nil)))).keep (λ_ _ e=>e) (λ_ _ z _=>z.elim) λ_ _ z _=>z.elim
theorem Bk.dr(a:Bk T st bk ac xc cs ap xp ps ar xs ss H0 H)(g:Dr st H H'):Bk T st bk ac xc cs ap xp ps ar xs ss H0 H':=by refine⟨λb o n1 n2 e=>g.bt _ _ (a.kp b o n1 n2 e) n2,g.sa,G8 a.tb a.sa g,a.b.keep λb l e=>g.bt _ _ e λz=>?_⟩;obtain⟨x,y,e',_⟩:=a.sa;rw[z,e']at e;cases e
theorem Bk.same(a:Bk T st bk ac xc cs ap xp ps ar xs ss H0 H)(s:À H H'):Bk T st bk ac xc cs ap xp ps ar xs ss H0 H':=a.dr (Dr.same ⟨Ι.refl,a.sa⟩ s)
theorem Bk.right(a:Bk T st bk ac xc cs ap xp ps ar xs ss H0 H)(k:∀b o,b≠T->H b=some o->H' b=some o)(t:õ H' T qnT):Bk T st bk ac xc cs ap xp ps ar xs ss H0 H':=by
 obtain⟨qs,e',_⟩:=id a.tb;have nT:∀b l,H b=some (.tup l)->b≠T:=λb l e z=>by rw[z,e']at e;cases e
 refine⟨λb o n1 n2 e=>k b o n1 (a.kp b o n1 n2 e),?_,t,a.b.keep λb l e=>k _ _ (nT _ _ e) e⟩;obtain⟨x,y,e,r⟩:=a.sa;exact⟨x,y,k _ _ (λz=>by rw[z,e']at e;cases e) e,r⟩
end
def unD:Option Nat->PyData|none=>.none|some i=>.int i
theorem Jg:∀o,Ò S H (ϻ o) (unD o)|none=>.non|some i=>.int i
theorem N8:∀{o:Option Nat},(∀i,o=some i->i<100)->ø (unD o)=true/\sz (unD o)<=1000|none,_=>⟨rfl,by show 1<=1000;decide⟩|some i,h=>⟨ñ (show((i:Nat):Int).natAbs<2^128 by have:=h i rfl;lia),by show 1<=1000;decide⟩
theorem G9{P:Nat->Prop}(f:iG n P o):∀i,o=some i->i<n:=λi e=>by rw[e]at f;exact f.1
theorem yg(hK:X.K=K):dF X (.type "list") (λxs H Q=>∃p ys,xs=[.ref p]/\Ê K H p ys/\∀l,H l=none->l≠sysModules->Q (.ref l) (upd H l (.lst ys))):=by subst hK;exact gR
theorem Ga(h:x∈[V.int (-101),.non,.bl true]):∃y,(∀S H,Ò S H x y)/\sz y<=4000/\Ab y=some 8:=by
 simp only[List.mem_cons,List.not_mem_nil,or_false]at h;rcases h with rfl|rfl|rfl;.exact⟨_,λ_ _=>.int _,by show 1<=4000;decide,by decide+kernel⟩
 .exact⟨_,λ_ _=>.non,by show 1<=4000;decide,by decide+kernel⟩
 .exact⟨_,λ_ _=>.bl _,by show 1<=4000;decide,by decide+kernel⟩
theorem Cr:bootBuiltins "max"=some (.builtin "max"):=by decide+kernel
theorem Cu:bootBuiltins "min"=some (.builtin "min"):=by decide+kernel
abbrev NR:ç:=[Ŭ,ϵ,ċ,AAn,"_law_kept",Ϛ,"_law_bad"]
theorem Ν:Á NR [Ŭ] (aD (top 91)):=ù
theorem Ku(F:Û K "law" "law" (top 91) f fd)(hc:fd.code=.ref cc)(hC:PySem.W.CodeHd base cc T0)(hB:base.BuiltinsAt mg T0)(T:Mg mg)(Tr:mg "range"=none)(Tm:mg "max"=none)(Tn:mg "min"=none)(Tp:mg "repr"=none)(Tl:mg "list"=none)(kd:∀j,j=3\/j=8->ϗ K Cs j)(c1:ã P w K mg base 2 "_law_state" [Ŭ,ϵ] (yS K))(c2:ã P w K mg base 4 "_law_book" [ċ,AAo,Š,ŧ] zO)(c3:ã P w K mg base 1 AAt [ċ,AAr] lV)(c4:ã P w K mg base 4 "_law_due" [AAn,Ϛ] Jf)(c5:ã P w K mg base 12 "too_many" ["book","growth"] (N5 Jd))(c6:ã P w K mg base 61 "_law_same" [ϋ,AAv] Ed)(c7:ã P w K mg base 11 "_law_said" [AAy] (xZ P w K mg base Cs 9))(ca:Fw P w K mg base 8 "too_many" ["book","growth"] (G3 Cs)):Í P w K mg base Ý 63 f fd [Ŭ] (Ae K T0):=by
 refine F.oqC hc Ν λA outer s H vs Q E hr h=>?_;obtain⟨a,ns,rfl,hS,hl,tab,q⟩:=h;obtain⟨f7,Y5,F7,m7,k7,b7⟩:=id c7;have oo:ä 11 (A.deeper (PyProof.Rows.envOfC "law" (aD (top 91)) s.heap.objs.size f (.ref cc))):=hr.mono Z3;refine ok_b (aN ⟨bZ ĥ rfl (d7 rfl Tr (aA (aM (qC rfl) rfl Tm Cr (aA aB (aA (aM (gW rfl) rfl Tn Cu (aA (aM bu rfl T.len PySem.boot_len (aA (pv 0) ao)) (aA aB ao))) ao))) ao)) (Î 1 Ν.nd) (jR (aN (fQ 2 Ν.nd ⟨aJ (hjk:=Z1) c1 hr (aA (pv 0) (aA (pv 1) ao))⟩) (aN (wW (i:=3) Ν.nd rfl (Or.inr rfl) ⟨aJ (hjk:=Z1) c2 hr (aA (pv 2) (aA aB (aA aB (aA aB ao))))⟩) (aN (fQ 4 Ν.nd ⟨aM (jg (S:=λ_=>False) hr.gd id) rfl Tp iB (aA (pv 3) ao)⟩) (aN ⟨bZ ĥ rfl (di (uT (fj (bJ (qP bV (fj (bJ tD (bJ tD (bJ tD (bJ tu (bJ tu (bJ ⟨aQ du (aJ (hjk:=Z1) c3 hr (aA (pv 2) (aA aB ao))) aB⟩ cj))))))) ⟨aJ (hjk:=Z1) c3 hr (aA (pv 2) (aA aB ao))⟩ (λ_ _=>rfl)) cj)))) (Î 5 Ν.nd) (jR (bW (zQ ⟨PW.pt (o9 (cC (dH (aJ (hjk:=Z1) c6 hr (aA (aJ (hjk:=Z1) c5 hr (aA (pv 3) (aA (pv 5) ao))) (aA (aJ (hjk:=Z1) c4 hr (aA (pv 3) (aA (pv 5) ao))) ao))))) (o7 (bf CN (aM (jg (S:=λ_=>False) hr.gd id) rfl Tp iB (aA (pv 3) ao)) (pv 4) (bh _))))⟩ (bW (fZ uU)) nP)))⟩ (aN ⟨bZ ĥ rfl (di (uT (fj (bJ tD (bJ JK (bJ uU cj)))))) (bN (i:=6) Ν.nd rfl (Or.inr rfl)) (jR (bW (zQ ⟨bf (DX (S:=λ_=>True) hr.units) (vC (N:=[AAn,"_law_bad"]) (ix:=[3,6]) (sc:=aD (top 91)) (NX:=NR) F7 oo rfl m7 k7 b7 rfl (λ_=>rfl) rfl hC hB rfl rfl rfl (λ_ _ _ _ _=>rfl) Z5) (bO (aA nZ ao)) (bh _)⟩ (bW (fZ uU)) nP)))⟩ (bW (zQ ⟨PW.pt (o9 (bf (DX (S:=λ_=>True) hr.units) (vC (N:=[AAn]) (ix:=[3]) (sc:=aD (top 91)) (NX:=NR) F7 oo rfl m7 k7 b7 rfl (λ_=>rfl) rfl hC hB rfl rfl rfl (λ_ _ _ _ _=>rfl) Z5) (bO (aA nZ ao)) (bh _)) (o7 (bf Gh (aJ (hjk:=Z1) c5 hr (aA (uT (iw (bJ ⟨pX cB (pv 3) aB⟩ (bJ (iw cj) (bJ (iw cj) cj))))) (aA aB ao))) fW (bh _))))⟩ (bW (fZ uU)) nP))))))))⟩ (bW (fZ uU))) ?_;refine aH ?_;have oQ:(ns.map V.int).length<=63:=by rw[Ð];exact hl
 refine⟨_,rfl,a,_,rfl,.inl hS,_,_,rfl,_,_,rfl,_,rfl,?_,?_,?_⟩;.split<;>split<;>lia
 .split<;>split<;>lia
 refine cU (lo:=0) (λi σ Hc=>∃x1 x2 x3 x4 x5 x6,σ=[some (.ref a),x1,x2,x3,x4,x5,x6]/\(∀b o,b≠T0->H b=some o->Hc b=some o)/\õ Hc T0 qnT) ?_ ?_ ?_;.exact⟨none,none,none,none,none,none,rfl,λ_ _ _ e=>e,tab⟩
 .rintro i σ H1 hi⟨x1,x2,x3,x4,x5,x6,rfl,k1,Ap⟩;have UL:É K H1 a (ns.map V.int):=by
   obtain⟨ps,eT,_⟩:=tab;rcases hS with(h|⟨o,h⟩)|h;.exact .inl (.inl (k1 _ _ (λz=>by rw[z,eT]at h;cases h) h))
   .exact .inl (.inr ⟨o,k1 _ _ (λz=>by rw[z,eT]at h;cases h) h⟩)
   .exact .inr h
  refine aG ?_;refine Ej λDe UM=>?_;refine aX λc_ av=>?_;refine aU ?_;refine⟨_,rfl,_,rfl,a,ns,_,rfl,UL,Z1,λst x y hn LF UN y7=>?_⟩;have nT:st≠T0:=λz=>by obtain⟨ps,eT,_⟩:=Ap;rw[z,eT]at hn;cases hn
  have EH:H st=none:=by cases e:H st with|none=>rfl;|some o=>rw[k1 st o nT e]at hn;cases hn
  have g1:jm (upd H1 st (.lst [.int x,.int y])) st:=⟨x,y,aj,LF,UN,y7⟩;have DA:∀b o,b≠T0->b≠st->H b=some o->upd H1 st (.lst [.int x,.int y]) b=some o:=λb o n1 n2 e=>by rw[aq n2];exact k1 b o n1 e
  have As:=õ.same Ap (À.upd (o:=.lst [.int x,.int y]) hn);refine aG ?_;refine av _ _ ?_;clear av c_;generalize upd H1 st (.lst [.int x,.int y])=H2 at g1 DA As⊢;refine aX λc_ av=>?_;refine aU ?_;refine⟨_,rfl,st,6,8,5,rfl,g1,by decide,by decide,by decide,by decide,by decide,by decide,λbk ac xc cs ap xp ps ar xs ss H3 d3 eb rc gL MX okc rp lp okp rs ls cy vE=>?_⟩;have B3:Bk T0 st bk ac xc cs ap xp ps ar xs ss H H3:=⟨λb o n1 n2 e=>d3.bt _ _ (DA b o n1 n2 e) n2,d3.sa,G8 As g1 d3,⟨eb,rc,λr hr=>⟨(okc r hr).1,λx hx=>((okc r hr).2 x hx).1⟩,Z1,rp,Z1,okp,rs,Z1,λs hs=>(cy s hs).1,vE⟩⟩;have UO:tm (2^100) (Ϟ cs ps ss)=true:=by show(tm (2^100) (bU cs)&&(tm (2^100) (bU ps)&&(tm (2^100) (bU ss)&&true)))=true;rw[show tm (2^100) (bU cs)=true from uo λr hr i hi=>(by have:=(okc r hr).2 i hi;lia),show tm (2^100) (bU ps)=true from uo λr hr=>Kf (okp r hr),show tm (2^100) (bU ss)=true from uo λr hr=>(cy r hr).2];rfl
  have Qi:ø (Ϟ cs ps ss)=true:=Hr UO Z3;have UP:L2.sz (Ϟ cs ps ss)<=240:=by have zc:Ģ (cs.map cu)=4*cs.length:=j8 (k:=3) λr hr=>(okc r hr).1;have zp:Ģ (ps.map cu)=7*ps.length:=j8 (k:=6) λr hr=>(okp r hr).1;have zs:Ģ (ss.map cu)=6*ss.length:=j8 (k:=5) λr hr=>(cy r hr).1;show 1+((1+Ģ (cs.map cu))+((1+Ģ (ps.map cu))+((1+Ģ (ss.map cu))+0)))<=240;lia
  have Qj:jr (Ϟ cs ps ss)=true:=zP gL Z1 okc Z1 okp Z1 (λs hs=>(cy s hs).1) vE;have lcs:cs.length<=6:=Z1;clear d3 eb rc rp rs g1 DA As cy MX;refine aG ?_;refine av _ _ ?_;clear av c_;refine aX λc_ av=>?_;refine aU ?_;refine⟨_,rfl,.ref bk,Ϟ cs ps ss,rfl,B3.b.th,Qi,Z1,nH hr Z3 Z1,?_⟩;refine aG ?_;refine av _ _ ?_;clear av c_;refine aX λc_ av=>?_;refine⟨100,rfl,30,rfl,5,rfl,_,rfl,st,12,rfl,B3.sa,by decide,by decide,λr a' b' r0 r1 h1 h2 h3=>⟨_,_,rfl,rfl,zL,λL0 EV=>?_⟩⟩;have B4:=B3.dr (Dr.take ⟨Ι.refl,B3.sa⟩ h1 h2 h3);generalize upd H3 st (.lst [.int a',.int b'])=H4 at B4 EV⊢;refine⟨_,rfl,st,6,rfl,(B4.same (À.upd EV)).sa,by decide,by decide,λr' a' b' Y6 Y7 h1 h2 h3=>?_⟩;have B5:=B4.same (À.upd (o:=.lst [.int (-100),.int (-30),.int (-5),.int 0,.int 3,.int (r-8)]) EV);have UQ:L0≠st:=Dr.ne ⟨Ι.refl,B4.sa⟩ EV;have e5:∀o,upd (upd H4 L0 (.lst [.int (-100),.int (-30),.int (-5),.int 0,.int 3,.int (r-8)])) st o L0=some (.lst [.int (-100),.int (-30),.int (-5),.int 0,.int 3,.int (r-8)]):=λo=>by rw[aq UQ];exact aj
  have B6:=B5.dr (Dr.take ⟨Ι.refl,B5.sa⟩ h1 h2 h3);obtain⟨u,hu,mu⟩:∃u,ŏ [V.int (-100),.int (-30),.int (-5),.int 0,.int 3,.int (r-8)] r'=some u/\u∈[V.int (-100),.int (-30),.int (-5),.int 0,.int 3,.int (r-8)]:=by have hJ:r'.toNat<6:=Z1;have e:[V.int (-100),.int (-30),.int (-5),.int 0,.int 3,.int (r-8)][r'.toNat]?=some _:=Ö hJ;have:=dU e;rw[show((r'.toNat:Nat):Int)=r' by lia]at this;exact⟨_,this,Č hJ⟩
  refine⟨L0,_,r',u,rfl,rfl,É.of (e5 _),hu,zL,λL hL=>?_⟩;have B7:=B6.same (À.upd (o:=.lst [u]) hL);have all:∀v∈[u],∃g:Int,v=.int g/\-100<=g/\g<=100:=by
   intro v hv;simp only[List.mem_cons,List.not_mem_nil,or_false]at hv mu;rw[hv];rcases mu with rfl|rfl|rfl|rfl|rfl|rfl;.exact⟨_,rfl,by decide,by decide⟩
   .exact⟨_,rfl,by decide,by decide⟩
   .exact⟨_,rfl,by decide,by decide⟩
   .exact⟨_,rfl,by decide,by decide⟩
   .exact⟨_,rfl,by decide,by decide⟩
   .exact⟨_,rfl,Z1,Z1⟩
  have eL:=aj (H:=upd (upd H4 L0 (.lst [.int (-100),.int (-30),.int (-5),.int 0,.int 3,.int (r-8)])) st (.lst [.int a',.int b'])) (a:=L) (o:=.lst [u]);generalize upd (upd (upd H4 L0 (.lst [.int (-100),.int (-30),.int (-5),.int 0,.int 3,.int (r-8)])) st (.lst [.int a',.int b'])) L (.lst [u])=H7 at B7 eL⊢;clear B3 B4 B5 B6 e5 hu mu hL EV;generalize[u]=us at all eL;refine⟨L,rfl,⟨_,É.of eL⟩,?_⟩;refine gU (xs:=us) (λk σ Hk=>∃x5,σ=[some (.ref a),some (.int (0+i)),some (.ref st),some (.ref bk),some (.str (Ϟ cs ps ss).shown),x5,x6]/\Bk T0 st bk ac xc cs ap xp ps ar xs ss H Hk/\Hk L=some (.lst us)) ?_ ?_ ?_ ?_;.exact⟨_,rfl,B7,eL⟩
  .rintro k σ Hk hk⟨y5,rfl,B,e⟩;exact É.of e
  .rintro k v σ Hk hv⟨y5,rfl,B,e⟩;obtain⟨g,rfl,g0,g1⟩:=all v (Κ hv);refine aG ?_;refine⟨_,rfl,_,rfl,λ_=>False,bk,g,Ϟ cs ps ss,ac,xc,cs,ap,xp,ps,ar,xs,ss,rfl,B.b.th,Z1,Qj,B.b,okc,gL,g0,g1,λo' H8 s8 f8=>?_⟩;have B8:=B.same s8;refine⟨_,rfl,_,rfl,bk,ac,xc,cs,ap,xp,ps,ar,xs,ss,g,rfl,B8.b,okc,gL,g0,g1,λo H9 s9 f9=>?_⟩;have:=Ck f9 f8;subst this;have B9:=B8.same s9;obtain⟨mo,zo⟩:=N8 λi e=>ĵ (G9 f8 i e) Z1;refine⟨λ_=>False,_,_,unD o,unD o,rfl,id,Jg o,Jg o,mo,mo,zo,zo,_,rfl,?_⟩;rw[ñ rfl];refine bH ?_;refine⟨_,rfl,.ref bk,Ϟ cs ps ss,rfl,B9.b.th,Qi,Z1,nH hr Z3 Z1,_,rfl,rfl,_,rfl,?_⟩;rw[ñ rfl];exact bH ⟨_,rfl,B9,s9 _ _ (s8 _ _ e)⟩
  .rintro σ Hk⟨y5,rfl,B,e⟩;clear B7 eL;refine av _ _ ?_;clear av c_;refine aX λc_ av=>?_;refine⟨101,rfl,zL,λL2 Qk=>?_⟩;have B7:=B.same (À.upd (o:=.lst [.int (-101),.non,.bl true]) Qk);have eL:=aj (H:=Hk) (a:=L2) (o:=.lst [.int (-101),.non,.bl true]);generalize upd Hk L2 (.lst [.int (-101),.non,.bl true])=H8 at B7 eL⊢;clear B Qk e;have bad:∀v∈[V.int (-101),.non,.bl true],_:=λv hv=>Ga hv;generalize[V.int (-101),.non,.bl true]=us at eL bad;refine⟨L2,rfl,⟨_,É.of eL⟩,?_⟩;refine gU (xs:=us) (λk σ Hk=>∃y6,σ=[some (.ref a),some (.int (0+i)),some (.ref st),some (.ref bk),some (.str (Ϟ cs ps ss).shown),y5,y6]/\Bk T0 st bk ac xc cs ap xp ps ar xs ss H Hk/\Hk L2=some (.lst us)) ?_ ?_ ?_ ?_;.exact⟨_,rfl,B7,eL⟩
   .rintro k σ Hk hk⟨y6,rfl,B,e⟩;exact É.of e
   .rintro k v σ Hk hv⟨y6,rfl,B,e⟩;obtain⟨yy,ty,zy,ky⟩:=bad v (Κ hv);refine aG ?_;refine⟨B.tb,λfl pm cv ct H8 HC Au nf L Z=>⟨[.ref bk,v],rfl,λj' i' z e1 e2=>?_,λHE C=>?_⟩⟩
    .rcases j' with _|_|j';.cases e1;cases e2;rfl
     .cases e1;cases e2;rfl
     .simp at e1
    have UR:L2≠T0:=λz=>by obtain⟨ps,e',_⟩:=B.tb;rw[z,e']at e;cases e
    have B8:=B.right HC Au;refine G7 (j:=8) (kd 8 (.inr rfl)) L Z C rfl (λA' iX E' Q' hJ out=>⟨_,λs'=>nO ca (hJ.deeper _) Z3 rfl vA rfl (aA (pv 0) (aA (pv 1) ao)),⟨.ref bk,rfl,v,rfl,λ_=>False,.ref bk,Ϟ cs ps ss,v,yy,8,rfl,B8.b.th,Z1,ty _ _,zy,.inr ⟨Æ (by rw[Qj];decide),ky⟩,out⟩⟩) λp H9 s9 e9=>?_;have HG:=s9.er C.no;have NH:er H9 HE p=some (.tup [.str (words.getD 8 "")]):=yR s9 (λ_ _ z=>by cases z) e9;refine⟨zL,λpS A7=>⟨.tuple [.str (words.getD 8 "")],.tup (À.upd A7 _ _ NH) (.cons (.str _) .nil),.tup aj (.cons (.str _) .nil),N7 8,rfl,_,rfl,?_⟩⟩;refine bH ⟨_,rfl,(B8.same HG).same (À.upd A7),À.upd A7 _ _ (HG _ _ (HC _ _ UR e))⟩
   .rintro σ Hk⟨y6,rfl,B,e⟩;clear B7 eL bad;refine av _ _ ?_;clear av c_;refine⟨B.tb,λfl pm cv ct H8 HC Au nf L Z=>⟨[.ref bk],rfl,λj' i' z e1 e2=>?_,λHE C=>?_⟩⟩
    .rcases j' with _|j';.cases e1;cases e2;rfl
     .simp at e1
    have B8:=B.right HC Au;refine G7 (j:=3) (kd 3 (.inl rfl)) L Z C rfl (λA' iX E' Q' hJ out=>⟨_,λs'=>nO ca (hJ.deeper _) Z3 rfl vA rfl (aA (bB (yg (K:=K) rfl) rfl Tl jD (aA (pv 0) ao)) (aA aB ao)),?_⟩) λp H9  s9 e9=>?_;.refine⟨_,rfl,bk,_,rfl,Ê.of B8.b.e,λl hl nl=>?_⟩;have sl:=À.upd (o:=.lst [V.ref ac,.ref ap,.ref ar]) hl;exact⟨λa=>a≠sysModules,.ref l,.list [bU cs,bU ps,bU ss],.int 0,.int 0,3,rfl,.lst nl aj (.cons ((B8.b.rc.same sl).th.keep (λ_ _ e=>e) (λ_ _ z _=>z.elim) λ_ _ z _=>z.elim) (.cons ((B8.b.rp.same sl).th.keep (λ_ _ e=>e) (λ_ _ z _=>z.elim) λ_ _ z _=>z.elim) (.cons ((B8.b.rs.same sl).th.keep (λ_ _ e=>e) (λ_ _ z _=>z.elim) λ_ _ z _=>z.elim) .nil))),ĺ (show sz (.list [bU cs,bU ps,bU ss])<=240 from UP) Z3,.int _,by show 1<=4000;decide,.inl (È rfl),λa H' s' na=>out a H' (sl.trans s') na⟩
    have HG:=s9.er C.no;have NH:er H9 HE p=some (.tup [.str (words.getD 3 "")]):=yR s9 (λ_ _ z=>by cases z) e9;refine⟨zL,λpS A7=>⟨.tuple [.str (words.getD 3 "")],.tup (À.upd A7 _ _ NH) (.cons (.str _) .nil),.tup aj (.cons (.str _) .nil),N7 3,rfl,_,rfl,?_⟩⟩;have Bz:=(B8.same HG).same (À.upd (o:=.tup [.str "book"]) A7);refine bH ?_;refine⟨_,rfl,bk,_,0,.ref ac,rfl,rfl,Ê.of Bz.b.e,rfl,zL,λp1 mP=>⟨zL,λp2 iA=>⟨zL,λp3 fq=>?_⟩⟩⟩;generalize upd (er H9 HE) pS (.tup [.str "book"])=Hx at Bz mP iA fq⊢;have s3:=((À.upd (o:=.tup []) mP).updR (o:=.tup []) iA).updR (o:=.tup [.ref ac,.ref p1,.ref p2]) fq;have e1:upd (upd (upd Hx p1 (.tup [])) p2 (.tup [])) p3 (.tup [.ref ac,.ref p1,.ref p2]) p1=some (.tup []):=À.upd fq _ _ (À.upd iA _ _ aj);have e2:upd (upd (upd Hx p1 (.tup [])) p2 (.tup [])) p3 (.tup [.ref ac,.ref p1,.ref p2]) p2=some (.tup []):=À.upd fq _ _ aj;have e3:=aj (H:=upd (upd Hx p1 (.tup [])) p2 (.tup [])) (a:=p3) (o:=.tup [.ref ac,.ref p1,.ref p2]);generalize upd (upd (upd Hx p1 (.tup [])) p2 (.tup [])) p3 (.tup [.ref ac,.ref p1,.ref p2])=H3 at s3 e1 e2 e3⊢;have B3:=Bz.same s3;have r0:∀{p:Addr},H3 p=some (.tup [])->Ã H3 p [] []:=λe=>⟨e,rfl,λi r h=>by simp at h⟩;have BE:í H3 p3 ac xc cs p1 [] [] p2 [] []:=⟨e3,B3.b.rc,B3.b.okc,B3.b.lc,r0 e1,by decide,λ_ h=>(nomatch h),r0 e2,by decide,λ_ h=>(nomatch h),rfl⟩;refine⟨λ_=>False,p3,0,Ϟ cs [] [],ac,xc,cs,p1,[],[],p2,[],[],rfl,BE.th,?_,zP gL Z1 okc Z3 (λ_ h=>(nomatch h)) Z3 (λ_ h=>(nomatch h)) rfl,BE,okc,gL,by decide,by decide,λo H4 s4 f4=>?_⟩;.have zc:Ģ (cs.map cu)=4*cs.length:=j8 (k:=3) λr hr=>(okc r hr).1;show 1+((1+Ģ (cs.map cu))+((1+0)+((1+0)+0)))<=4000;lia
    have B4:=B3.same s4;cases o with|some n=>exact absurd f4.1 (Ϩ _);|none=>refine⟨rfl,_,rfl,?_⟩;refine bH (UM _ _ ⟨_,_,_,_,_,_,rfl,λb o n e=>B4.kp b o n (az e EH) e,B4.tb⟩)
 .rintro σ Hc⟨x1,x2,x3,x4,x5,x6,rfl,k1,Ap⟩;exact q _
end K52
structure PySem.W.Fast:Prop where(tw7857574871983980544 tw18315245299703538720 tw9095126002591711328 tw651849197541888128 tw6120780767148606752 tw4362366257354575296 tw16678830063706485216 tw4128404899755267744 tw3630845758413237056 tw6426619749865997120 tw17608954119961220032 tw13560869169337632929 tw5998618687337461025 tw2394627353266527553 tw16277337845623123297 tw5299147035514019297 tw14136108963931210241 tw16712019662357539361 tw2863142106895922721 tw5485762151973516833 tw3019417509344396961 tw2392839225823853249 tw4221099437931263809 tw3101729419289568258 tw11740986527226036418 tw18173098819550223778 tw14888779783054682530 tw11507146024425457090 tw6028929775387266594 tw17010947517024602978 tw9220150466009123810 tw16731366818467534019 tw17320141400190824803 tw232769326255154659 tw15201646065004772867 tw14917879155642833443 tw3723259983837635299 tw10835676367433443139 tw2775460453632321443 tw6755834092944668708 tw18167147518339393604 tw14722722255932639300 tw12211150020504165476 tw5953460998530797700 tw17475905028937451780 tw15828984355698071908 tw2775061807006486948 tw5030561597298585028 tw10858148859733549636 tw6896114230383560292 tw769699119720160964 tw13498608352858110660 tw10106230506994479844 tw17276533247394169764 tw4446548390727275525 tw2790413339370373157 tw18348945420233917573 tw5968316801079530949 tw12403160564349531589 tw9532238809905319429 tw2865708513830310405 tw5668338668406577701 tw13596022956502239813 tw1933174995778542277 tw11447045717525075909 tw15974930770624044997 tw13538879956350258310 tw1899479836218635526 tw16680161713818310950 tw1861627881465443814 tw8151641587638024678 tw2398739850962191910 tw15084667155604850342 tw782665300367810470 tw8140470428169600998 tw13529061302449551367 tw9267755101865949255 tw17445185868044940423 tw18199848419862386855 tw6989838114199309511 tw4129549002814526663 tw12595033304519624999 tw16228737538178571591 tw9773205167460103655 tw17896692939161979527 tw3783111584710214279 tw16260861739754154759 tw11339739394494414663 tw2062361838043808743 tw18117447217777713192 tw3062049827800565032 tw14026977101276398024 tw7066102373635843848 tw13933350390524406600 tw1395454849722452904 tw1465704016876972169 tw10002306864330186889 tw14853278674079940841 tw9812641412592073961 tw2448266124267560361 tw17249927774328737513 tw4287110444352254793 tw14669352419138858985 tw7874122274614465546 tw1836855402170625226 tw7435955928561105162 tw13019231027074205034 tw7963821381013068266 tw4188802575979851402 tw12676152744987501226 tw13367928352937558826 tw15252422857486926826 tw4198880647415649291 tw17879172566107755563 tw10151987516368684171 tw10589702593203699915 tw9372090804851664203 tw15704015402526546347 tw7027257230398986923 tw5217610129744158379 tw13963933550420469900 tw18395054655420405036 tw18164967079760916908 tw10511200393401484716 tw2057874871330366924 tw7061741650640107980 tw8317319169325072940 tw1028687926130794060 tw10074544297817208460 tw5458571783548295852 tw16395648003731849229 tw9341655977572239469 tw18105020993874512397 tw13924116276752320013 tw8304580229525452333 tw9478384313947551277 tw691387974317989485 tw15558095659547092653 tw17074626526838934317 tw3744380825510975373 tw16133489656913054637 tw12180791619478511662 tw12236452761364743278 tw7414252126889751694 tw14154505683950363790 tw9918802563366287598 tw8586878144246712590 tw17970765184597935406 tw5000935859845450414 tw14007014658774017774 tw11627278143435282254 tw15553335555822464047 tw16011817749545227375 tw13117788424284330095 tw16230409576534068463 tw3782040412054080815 tw14463890291117411631 tw15161322068050963791 tw3216314123607143951 tw9226200961621702191 tw1584923692618508943 tw11888694269140310703 tw12593666107805219567 tw14026599658043996943 tw17389603312280019791 tw6462501990185630607 tw7080357714974598095 tw17656668487472321552 tw10667042296957634672 tw3556369727264363632 tw582593381427817616 tw477840561291022544 tw9139386945662457104 tw13445915402834283888 tw2796513157792136560 tw8143383800176296368 tw15315469888650940880 tw2624824557477724720 tw602944694423494416 tw14476417114393296656 tw4403296040714849136 tw1495937916391122896 tw10939464042849894417 tw14316564156956009521 tw12785951699408694321 tw15611589194370450577 tw4572062588952788209 tw14011463266299279665 tw11924255386546921809 tw18344554596611488177 tw3669717353215128113 tw12602491355459715697 tw7066683976514423441 tw3638271849330299697 tw1840765881477950289 tw9332270440065064881 tw16711972449989140401 tw13272960936017539186 tw16100232098501407858 tw1940960624163833074 tw6753771590644101458 tw1354160717681125874 tw7289448889699466930 tw14809491860560081810 tw7411435618436009938 tw11522419193279386739 tw1921358377147177107 tw11400980662805740851 tw13443678650843456083 tw18005096212298814131 tw9455820720247969555 tw5338519664262960340 tw16266589803788813588 tw8085595070491879732 tw18036360727059448148 tw2011534309279439284 tw15847523166759092724 tw10872304975823391252 tw12633118463167540788 tw14227348313281925684 tw5518081051450227284 tw10172331846157633140 tw5704180043024539252 tw13278998920846162548 tw14454540917092945556 tw15754649750386796244 tw1956422526329496436 tw12373329909765485524 tw6688999314343233492 tw12655817224141481013 tw986229356452192405 tw4057430489425162421 tw7573746810746374421 tw3195564147069626645 tw9301074493144807733 tw12462799798891026933 tw16572939794934825525 tw3181953190835902005 tw5928324107375162037 tw354971252996598613 tw7315492618899871766 tw18297816192339235926 tw14163689179902865526 tw12675172532956630198 tw15098066097539584182 tw6603568190009257174 tw6371574063545606358 tw8902632943892214262 tw2586732707378514486 tw1722816381944549942 tw676202552543335990 tw1337988752233029206 tw6167872342715923030 tw95048803127373494 tw7448184720745003702 tw12808569019383161686 tw6521586621072869431 tw4911980413117368375 tw5886176342713888887 tw5432823648052970967 tw8486468675459584663 tw16689771546625570551 tw10487381471432024855 tw11129010900022380311 tw16594826653129272087 tw12090517389198814039 tw3076285198667770711 tw12487649835366986615 tw10175505200158190680 tw8569623231658366136 tw11027525742278122712 tw3895805407495854488 tw2338797329256073784 tw15515828858444696152 tw13388941325169337976 tw17296425210319792888 tw12075408015536143128 tw1891680585384598488 tw8311924022793613401 tw14732404656232842329 tw4748480940281986233 tw1345054489885173977 tw10006518476993484089 tw17774028254980732217 tw14732277678661773689 tw16240252977199833529 tw7887565480597803545 tw12372677926317963865 tw2493868958943811193 tw51977698325698169 tw6003333690626924153 tw7192067342912950937 tw2957857604612269721 tw9175322516002717529 tw3516473285659703161 tw9763189320411788217 tw9154012813239434426 tw4165939197031042266 tw5423930496463101306 tw6715396198283149754 tw989230040807984570 tw4145467236301193722 tw4121055459268378170 tw9679356407959287354 tw5824848322281495130 tw5792738066631773914 tw18138290674235741914 tw13717090205955418874 tw6599290761216057146 tw3883055459597829018 tw6980667875667275835 tw10020986720039367739 tw17679199967600560219 tw13631531190323758299 tw13908965737374591227 tw4790608921200510331 tw16890471770506860155 tw13096113268639148795 tw13799108386437809947 tw591436831048344347 tw4671598647099484987 tw10334448802424131419 tw18275330698573507612 tw16982573908019448892 tw15540189591748132124 tw7575490677836527964 tw1118028181247842684 tw4983476937855324668 tw15646997612074579484 tw16907506460350601948 tw17527790780467885884 tw2033166695551054141 tw10833560920084385117 tw1463173502302503293 tw356337980612142493 tw2646815200254489021 tw3691199130695235101 tw15930640590149954205 tw12081197783566003997 tw6788747974341954493 tw6584372844061488158 tw15538825267915810846 tw11598809854825898046 tw2773284810161103102 tw7941761375602892030 tw17083434967962532126 tw17232913710457317726 tw13408084751015908702 tw16524981280690764158 tw16653147945562452382 tw10705894962314843678 tw7378363117883415134 tw3122666251351491230 tw4501322254605502174 tw7749359515451900670 tw244615577122842430 tw7511341668948889406 tw4012707121898555326 tw9680818246539335711 tw18237841900350840927 tw3813028410569161855 tw16020323953250105503 tw18096235398544230559 tw877570878237935839 tw219477188681097503 tw10397007520856301887 tw7857020490505707007 tw2156111971533468191 tw14248753603129299551 tw6674497449910753887 tw4653028361529155167 tw16874085238586998431 tw8136641074483482335 tw15404222000366919423 tw14837344869162501887 tw4573703705187792671 tw17623531567201318751 tw4875787054502181791 tw11572218792317889441:True)
namespace K52
open PySem L2
theorem elZ{C:gV->Prop}(h:C []):∀us,us.length=0->C us:=by intro us e;cases us with|nil=>exact h;|cons _ _=>cases e
theorem Ο{C:gV->Prop}(h:∀a,∀us,us.length=n->C (a::us)):∀us,us.length=n+1->C us:=by intro us e;cases us with|nil=>cases e;|cons a r=>exact h a r (Nat.succ.inj e)
theorem Ĺ{C:gV->Prop}(h:∀a0,C [a0]):∀us,us.length=1->C us:=Ο (λa0=>elZ (h a0))
theorem γ{C:gV->Prop}(h:∀a0 a1,C [a0,a1]):∀us,us.length=2->C us:=Ο (λa0=>Ο (λa1=>elZ (h a0 a1)))
theorem el3{C:gV->Prop}(h:∀a0 a1 a2,C [a0,a1,a2]):∀us,us.length=3->C us:=Ο (λa0=>Ο (λa1=>Ο (λa2=>elZ (h a0 a1 a2))))
theorem el4{C:gV->Prop}(h:∀a0 a1 a2 a3,C [a0,a1,a2,a3]):∀us,us.length=4->C us:=Ο (λa0=>Ο (λa1=>Ο (λa2=>Ο (λa3=>elZ (h a0 a1 a2 a3)))))
theorem el5{C:gV->Prop}(h:∀a0 a1 a2 a3 a4,C [a0,a1,a2,a3,a4]):∀us,us.length=5->C us:=Ο (λa0=>Ο (λa1=>Ο (λa2=>Ο (λa3=>Ο (λa4=>elZ (h a0 a1 a2 a3 a4))))))
def ê(K:Frag)(x:Str)(st:Stmt):Prop:=∃f od an sl oc kV dc pm cd ct,PySem.W.nsIn K mainGlobals x=some (some (.ref f))/\K.lookup f=some ⟨oc,od,.func (PySem.W.fnOf x x (gm st) (cJ st) (aD st) .none kV dc pm an cd ct),sl⟩/\PySem.W.codeIn K cd x=true/\PySem.W.keepIn K (.ref f)=true
theorem has_mk{oc kV dc pm cd ct:Value}(a:PySem.W.nsIn K mainGlobals x=some (some (.ref f)))(l:K.lookup f=some ⟨oc,od,.func (PySem.W.fnOf x x (gm st) (cJ st) (aD st) .none kV dc pm an cd ct),sl⟩)(c:PySem.W.codeIn K cd x=true)(k:PySem.W.keepIn K (.ref f)=true):ê K x st:=⟨f,od,an,sl,oc,kV,dc,pm,cd,ct,a,l,c,k⟩
theorem ê.get(H:ê K x st)(X:K.In h)(G:h.Ns mainGlobals mg):∃f fd,Û K x x st f fd/\mg x=some (.ref f):=by obtain⟨f,od,an,sl,oc,kV,dc,pm,cd,ct,a,l,c,k⟩:=H;exact⟨f,_,CW (st:=st) l c k,PySem.W.mg_of X G a⟩
abbrev Bd(x:Str)(st:Stmt)(ps:ç)(us:gV):Prop:=∀kV doc pm an ai ct,bindArgs (PySem.W.fnOf x x (gm st) (cJ st) (aD st) .none kV doc pm an ai ct) ⟨us,[]⟩=pure (ps.zip us)
theorem ê.g(H:ê K x st)(X:K.In h)(G:h.Ns mainGlobals mg)(ps:ç)(hb:∀us,us.length=ps.length->Bd x st ps us):∃f fd,Û K x x st f fd/\mg x=some (.ref f)/\ï K fd ps []:=by obtain⟨f,fd,F,m⟩:=H.get X G;exact⟨f,fd,F,m,F.binds λa b c d e g us l=>hb us l a b c d e g⟩
theorem aV(P:Program)(w:World)(base:Heap)(F:Í P w K mg base Ý k f fd ps sp)(m:mg x=some (.ref f))(kp:PySem.W.keepIn K (.ref f)=true)(b:ï K fd ps []):ã P w K mg base k x ps sp:=⟨f,fd,F,m,kp,b⟩
theorem uq(F:Í P w K mg base (Ŧ P w) k f fd ps sp)(m:mg x=some (.ref f))(kp:PySem.W.keepIn K (.ref f)=true)(b:ï K fd ps []):Fw P w K mg base k x ps sp:=⟨f,fd,F,m,kp,b⟩
theorem Ik(F:ş P w K mg base Ý k f fd ps sp)(m:mg x=some (.ref f))(kp:PySem.W.keepIn K (.ref f)=true)(b:ï K fd ps []):Kp P w K mg base k x ps sp:=⟨f,fd,F,m,kp,b⟩
theorem Il(X:K.In h)(G:h.Ns mainGlobals mg)(F:Û K x qual st f fd)(m:mg x=some (.ref f))(t:PySem.W.tabIn K x=some (c,T)):fd.code=.ref c:=by obtain⟨oc,od,kV,doc,pm,an,ai,ct,kS,rfl,lk,_⟩:=F.ex;exact PySem.W.law_code X G t m (X _ _ lk) rfl
theorem ê.g1(H:ê K x st)(X:K.In h)(G:h.Ns mainGlobals mg)(a0:Str)(hb:∀u0,Bd x st [a0] [u0]:=by exact λ_ _ _ _ _ _ _=>rfl):∃f fd,Û K x x st f fd/\mg x=some (.ref f)/\ï K fd [a0] []:=H.g X G [a0] (Ĺ hb)
theorem ê.g2(H:ê K x st)(X:K.In h)(G:h.Ns mainGlobals mg)(a0 a1:Str)(hb:∀u0 u1,Bd x st [a0,a1] [u0,u1]:=by exact λ_ _ _ _ _ _ _ _=>rfl):∃f fd,Û K x x st f fd/\mg x=some (.ref f)/\ï K fd [a0,a1] []:=H.g X G [a0,a1] (γ hb)
theorem ê.g3(H:ê K x st)(X:K.In h)(G:h.Ns mainGlobals mg)(a0 a1 a2:Str)(hb:∀u0 u1 u2,Bd x st [a0,a1,a2] [u0,u1,u2]:=by exact λ_ _ _ _ _ _ _ _ _=>rfl):∃f fd,Û K x x st f fd/\mg x=some (.ref f)/\ï K fd [a0,a1,a2] []:=H.g X G [a0,a1,a2] (el3 hb)
theorem ê.g4(H:ê K x st)(X:K.In h)(G:h.Ns mainGlobals mg)(a0 a1 a2 a3:Str)(hb:∀u0 u1 u2 u3,Bd x st [a0,a1,a2,a3] [u0,u1,u2,u3]:=by exact λ_ _ _ _ _ _ _ _ _ _=>rfl):∃f fd,Û K x x st f fd/\mg x=some (.ref f)/\ï K fd [a0,a1,a2,a3] []:=H.g X G [a0,a1,a2,a3] (el4 hb)
theorem ê.g5(H:ê K x st)(X:K.In h)(G:h.Ns mainGlobals mg)(a0 a1 a2 a3 a4:Str)(hb:∀u0 u1 u2 u3 u4,Bd x st [a0,a1,a2,a3,a4] [u0,u1,u2,u3,u4]:=by exact λ_ _ _ _ _ _ _ _ _ _ _=>rfl):∃f fd,Û K x x st f fd/\mg x=some (.ref f)/\ï K fd [a0,a1,a2,a3,a4] []:=H.g X G [a0,a1,a2,a3,a4] (el5 hb)
theorem all_mk{l:PySem.W.OpenLaw}(X:K.In h)(G:h.Ns mainGlobals mg)(Qt:mg "law"=some (.ref fa))(h20:ê K "is_whole" (top 20))(h21:ê K "is_whole_from" (top 21))(h22:ê K "is_tuple_of" (top 22))(h23:ê K "are_wholes" (top 23))(h34:ê K "is_clip" (top 34))(h35:ê K "are_clips" (top 35))(h36:ê K "is_promise" (top 36))(h37:ê K "are_promises" (top 37))(h38:ê K "are_sales" (top 38))(h39:ê K "held_in" (top 39))(h40:ê K "is_sale_between" (top 40))(h41:ê K "sale_holds" (top 41))(h42:ê K "first_unheld" (top 42))(h43:ê K "is_book" (top 43))(h44:ê K "refuse_no_book" (top 44))(h48:ê K "are_weights" (top 48))(h49:ê K "refuse_unpartable" (top 49))(h50:ê K "places_by_rest" (top 50))(h51:ê K "parts_of" (top 51))(h52:ê K "parted" (top 52))(h54:ê K "sacks_of" (top 54))(h55:ê K "claims_in" (top 55))(h56:ê K "shares_of" (top 56))(h57:ê K "made_good" (top 57))(h58:ê K "sort_given" (top 58))(h59:ê K "year_given" (top 59))(h60:ê K "years_given" (top 60))(h65:ê K "refuse_no_growth" (top 65))(h66:ê K "grown" (top 66))(h67:ê K "year_of_all" (top 67))(h68:ê K "book_to" (top 68))(h69:ê K "too_many" (top 69))(h71:ê K "_law_cell_at" (top 71))(h72:ê K "_law_state" (top 72))(h73:ê K AAt (top 73))(h74:ê K "_law_clips" (top 74))(h75:ê K ABc (top 75))(h76:ê K "_law_begun" (top 76))(h77:ê K "_law_holds" (top 77))(h78:ê K "_law_sell" (top 78))(h79:ê K "_law_sold" (top 79))(h80:ê K ABd (top 80))(h81:ê K "_law_sales" (top 81))(h82:ê K "_law_book" (top 82))(h83:ê K "_law_parted" (top 83))(h84:ê K "_law_claims" (top 84))(h85:ê K "_law_year" (top 85))(h89:ê K "_law_met" (top 89))(h90:ê K "_law_due" (top 90))(h88:ê K "_law_same" (top 88))(h86:ê K "_law_kind" (top 86))(h87:ê K "_law_said" (top 87))(aL:PySem.W.nsIn K mainGlobals "law"=some (some (.ref fL)))(lL:K.lookup fL=some ⟨UU,US,.func (PySem.W.fnOf "law" "law" (gm (top 91)) (cJ (top 91)) (aD (top 91)) .none Qm Qn AK Ql NI Qo),UT⟩)(cL:PySem.W.codeIn K NI "law"=true)(kL:PySem.W.keepIn K (.ref fL)=true)(n0:PySem.W.nsIn K mainGlobals "SORTS"=some (some (.int 3 t0)))(n1:PySem.W.nsIn K mainGlobals "HOLDERS"=some (some (.int 8 t1)))(n2:PySem.W.nsIn K mainGlobals "LAST_YEAR"=some (some (.int 19 t2)))(n3:PySem.W.nsIn K mainGlobals "MOST_CLIPS"=some (some (.int 20 t3)))(n4:PySem.W.nsIn K mainGlobals "MOST_PROMISES"=some (some (.int 10 t4)))(n5:PySem.W.nsIn K mainGlobals "MOST_WOOL"=some (some (.int 999 t5)))(n6:PySem.W.nsIn K mainGlobals "MOST_SACKS"=some (some (.int 99 t6)))(n7:PySem.W.nsIn K mainGlobals "MOST_PRICE"=some (some (.int 1000000 t7)))(n8:PySem.W.nsIn K mainGlobals "MOST_SALES"=some (some (.int 12 t8)))(n9:PySem.W.nsIn K mainGlobals "MOST_WEIGHTS"=some (some (.int 80 t9)))(n10:PySem.W.nsIn K mainGlobals "MOST_WEIGHT"=some (some (.int 99 Qp)))(n11:PySem.W.nsIn K mainGlobals "LEAST_GROWTH"=some (some (.int (-100) Qq)))(n12:PySem.W.nsIn K mainGlobals "MOST_GROWTH"=some (some (.int 100 Qr)))(n13:PySem.W.nsIn K mainGlobals "MOST_YEARS"=some (some (.int 100 Qs)))(cx:PySem.W.nsIn K mainGlobals "isinstance"=some none)(vF:PySem.W.nsIn K mainGlobals "int"=some none)(ot:PySem.W.nsIn K mainGlobals "bool"=some none)(kq:PySem.W.nsIn K mainGlobals "tuple"=some none)(vS:PySem.W.nsIn K mainGlobals "len"=some none)(vT:PySem.W.nsIn K mainGlobals "all"=some none)(ay:PySem.W.nsIn K mainGlobals "range"=some none)(eJ:PySem.W.nsIn K mainGlobals "list"=some none)(kr:PySem.W.nsIn K mainGlobals "max"=some none)(hZ:PySem.W.nsIn K mainGlobals "min"=some none)(wa:PySem.W.nsIn K mainGlobals "zip"=some none)(aw:PySem.W.nsIn K mainGlobals "enumerate"=some none)(bS:PySem.W.nsIn K mainGlobals "sorted"=some none)(dE:PySem.W.nsIn K mainGlobals "sum"=some none)(oz:PySem.W.nsIn K mainGlobals "repr"=some none)(AB:PySem.W.nsIn K mainGlobals "dict"=some none)(gy:PySem.W.nsIn K mainGlobals "ValueError"=some none)(k0:PySem.W.nsIn K mainGlobals "NoClips"=some (some (.ref C0)))(k1:PySem.W.nsIn K mainGlobals "NoPromises"=some (some (.ref C1)))(k2:PySem.W.nsIn K mainGlobals "NoSales"=some (some (.ref C2)))(k3:PySem.W.nsIn K mainGlobals "NoBook"=some (some (.ref C3)))(k4:PySem.W.nsIn K mainGlobals "NoNumber"=some (some (.ref C4)))(k5:PySem.W.nsIn K mainGlobals "NoYear"=some (some (.ref C5)))(k6:PySem.W.nsIn K mainGlobals "NoWeights"=some (some (.ref C6)))(k7:PySem.W.nsIn K mainGlobals "NoPaper"=some (some (.ref C7)))(k8:PySem.W.nsIn K mainGlobals "NoGrowth"=some (some (.ref C8)))(k9:PySem.W.nsIn K mainGlobals "NoPromise"=some (some (.ref C9)))(k10:PySem.W.nsIn K mainGlobals "NoSort"=some (some (.ref A8)))(k11:PySem.W.nsIn K mainGlobals "NoClip"=some (some (.ref A9)))(k12:PySem.W.nsIn K mainGlobals "NoSale"=some (some (.ref Bi)))(k13:PySem.W.nsIn K mainGlobals "NoDeed"=some (some (.ref Bn)))(k14:PySem.W.nsIn K mainGlobals "NoText"=some (some (.ref BA)))(k15:PySem.W.nsIn K mainGlobals "NoLine"=some (some (.ref BB)))(k16:PySem.W.nsIn K mainGlobals "TooMany"=some (some (.ref BC)))(k17:PySem.W.nsIn K mainGlobals "WoolError"=some (some (.ref BD)))(e3:PySem.W.excIn K C3 VE "ValueError.__new__"=true)(d3:Ie K [C0,C1,C2,C3,C4,C5,C6,C7,C8,C9,A8,A9,Bi,Bn,BA,BB,BC,BD] 3=true)(e8:PySem.W.excIn K C8 VE "ValueError.__new__"=true)(d8:Ie K [C0,C1,C2,C3,C4,C5,C6,C7,C8,C9,A8,A9,Bi,Bn,BA,BB,BC,BD] 8=true)(tb:PySem.W.tabIn K "law"=some (cT,T0)):∃fd,(∀s v,BindsTo s fd ⟨[v],[]⟩ [(Ŭ,v)])/\∀base,K.In base->base.Ns mainGlobals mg->PySem.W.CodeHd base cT T0->base.BuiltinsAt mg T0->Í l.prog w K mg base Ý 63 fa fd [Ŭ] (Ae K T0):=by have e:=Qt.symm.trans (PySem.W.mg_of X G aL);cases e;have FL:=CW (st:=top 91) lL cL kL;obtain⟨Y8,UW,Qu,UX,UY⟩:=h20.g1 X G "thing";obtain⟨Y9,UZ,Qv,U0,U1⟩:=h21.g3 X G "thing" "least" "most";obtain⟨Za,U2,Qx,U3,U4⟩:=h22.g3 X G "thing" "fewest" "most";obtain⟨Zb,U5,Qy,U6,U7⟩:=h23.g2 X G "thing" "many";obtain⟨Zc,U8,Qz,U9,Va⟩:=h34.g1 X G "thing";obtain⟨Zd,Vb,QA,Vc,Vd⟩:=h35.g1 X G "thing";obtain⟨Ze,Ve,QB,Vf,Vg⟩:=h36.g1 X G "thing";obtain⟨Zf,Vh,QC,Vi,Vj⟩:=h37.g1 X G "thing";obtain⟨Zg,Vk,QD,Vl,Vm⟩:=h38.g1 X G "thing";obtain⟨Zh,Vn,QE,Vo,Vp⟩:=h39.g4 X G "promises" "sales" "number" "year";obtain⟨Zi,Vq,QF,Vr,Vs⟩:=h40.g2 X G "promises" "sale";obtain⟨Zj,Vt,QG,Vu,Vv⟩:=h41.g3 X G "promises" "ahead" "sale";obtain⟨Zk,Vw,QH,Vx,Vy⟩:=h42.g2 X G "promises" "sales";obtain⟨Zl,Vz,QI,VA,VB⟩:=h43.g1 X G "thing";obtain⟨Zm,VC,HI,QJ,QK⟩:=h44.g1 X G "thing";obtain⟨Zn,VD,QL,VF,VG⟩:=h48.g1 X G "thing";obtain⟨Zo,VH,QM,VI,VJ⟩:=h49.g2 X G "sacks" "weights";obtain⟨Zp,VL,QN,VM,VN⟩:=h50.g1 X G "rests";obtain⟨Zq,VO,QO,VP,VQ⟩:=h51.g2 X G "sacks" "weights";obtain⟨Zr,VR,QP,VS,VT⟩:=h52.g2 X G "sacks" "weights";obtain⟨Zs,VU,QQ,VW,VX⟩:=h54.g1 X G "rows";obtain⟨Zt,VY,QR,VZ,V0⟩:=h55.g4 X G "promises" "sales" "sort" "year";obtain⟨Zu,V1,QS,V2,V3⟩:=h56.g2 X G "wool" "claims";obtain⟨Zv,V4,QT,V5,V6⟩:=h57.g2 X G "wool" "owed";obtain⟨Zw,V7,QU,V8,V9⟩:=h58.g3 X G "wool" "claims" "owed";obtain⟨Zx,Wa,QV,Wb,Wc⟩:=h59.g3 X G "book" "year" "owed";obtain⟨Zy,We,QW,Wf,Wg⟩:=h60.g2 X G "book" "year";obtain⟨Zz,Wh,HK,QX,QY⟩:=h65.g1 X G "thing";obtain⟨ZA,Wi,QZ,Wl,Wm⟩:=h66.g3 X G "clips" "growth" "years";obtain⟨ZC,Wn,Q0,Wo,Wq⟩:=h67.g2 X G "book" "growth";obtain⟨ZD,Wr,Q3,Ws,Wt⟩:=h68.g2 X G "book" "number";obtain⟨ZE,Wu,HL,Q4,Q5⟩:=h69.g2 X G "book" "growth";obtain⟨ZF,Wv,Q6,Ww,Wx⟩:=h71.g2 X G Ŭ ϵ;obtain⟨ZG,Wy,Q7,Wz,WC⟩:=h72.g2 X G Ŭ ϵ;obtain⟨ZH,WD,Q8,WE,WG⟩:=h73.g2 X G ċ AAr;obtain⟨ZI,WH,Q9,WI,WJ⟩:=h74.g2 X G ċ Š;obtain⟨ZJ,WK,Ra,WL,WM⟩:=h75.g3 X G ċ Š AAo;obtain⟨ZK,WN,Rb,WO,WQ⟩:=h76.g1 X G Z4;obtain⟨ZL,WR,Rc,WS,WT⟩:=h77.g3 X G Z4 ļ ϙ;obtain⟨ZM,WU,Rf,WV,WW⟩:=h78.g3 X G Z4 ļ ϙ;obtain⟨ZN,WX,HM,Rg,Rh⟩:=h79.g2 X G Z4 ŧ;obtain⟨ZO,WY,Ri,WZ,Xa⟩:=h80.g2 X G ċ Z4;obtain⟨ZQ,Xb,Rj,Xc,Xd⟩:=h81.g3 X G ċ Z4 Š;obtain⟨ZR,Xe,Rk,Xf,Xg⟩:=h82.g4 X G ċ AAo Š ŧ;obtain⟨ZS,Xh,Rl,Xi,Xj⟩:=h83.g2 X G ϊ AAw;obtain⟨ZU,Xk,Rm,Xl,Xm⟩:=h84.g4 X G Z4 ļ ϡ Υ;obtain⟨ZV,Xn,Rn,Xo,Xp⟩:=h85.g5 X G Z4 ļ AAp Υ AAx;obtain⟨ZW,Xq,Ro,Xr,Xs⟩:=h89.g4 X G AAq Z4 ŧ Ϛ;obtain⟨ZX,Xt,Rp,Xu,Xv⟩:=h90.g2 X G AAn Ϛ;obtain⟨ZY,Xw,Rq,Xx,Xy⟩:=h88.g2 X G ϋ AAv;obtain⟨ZZ,Xz,Rr,XA,XC⟩:=h86.g1 X G "_law_e";obtain⟨Z0,XD,Rt,XE,XF⟩:=h87.g1 X G AAy;have T:Mg mg:=⟨(æ X G cx),(æ X G vF),(æ X G ot),(æ X G kq),(æ X G vS),(æ X G vT)⟩;have TP:K52.Mg mg:=⟨(æ X G cx),(æ X G vF),(æ X G ot),(æ X G kq),(æ X G vS),(æ X G vT)⟩;have N:Nums mg:=⟨⟨t0,PySem.W.mg_of X G n0⟩,⟨t1,PySem.W.mg_of X G n1⟩,⟨t2,PySem.W.mg_of X G n2⟩,⟨t3,PySem.W.mg_of X G n3⟩,⟨t4,PySem.W.mg_of X G n4⟩,⟨t5,PySem.W.mg_of X G n5⟩,⟨t6,PySem.W.mg_of X G n6⟩,⟨t7,PySem.W.mg_of X G n7⟩⟩;have NP:K52P.Nums mg:=⟨⟨t9,PySem.W.mg_of X G n9⟩,⟨Qp,PySem.W.mg_of X G n10⟩⟩;have N2:MS mg:=⟨⟨t8,PySem.W.mg_of X G n8⟩⟩;have N3:NG mg:=⟨⟨Qq,PySem.W.mg_of X G n11⟩,⟨Qr,PySem.W.mg_of X G n12⟩,⟨Qs,PySem.W.mg_of X G n13⟩⟩;refine⟨PySem.W.fnOf "law" "law" (gm (top 91)) (cJ (top 91)) (aD (top 91)) .none Qm Qn AK Ql NI Qo,λs v=>.of_eq rfl,λbase kb _ hC hB=>?_⟩;have L:Z0p mg (λi=>[C0,C1,C2,C3,C4,C5,C6,C7,C8,C9,A8,A9,Bi,Bn,BA,BB,BC,BD].getD i 0):=⟨PySem.W.mg_of X G k0,PySem.W.mg_of X G k1,PySem.W.mg_of X G k2,PySem.W.mg_of X G k3,PySem.W.mg_of X G k4,PySem.W.mg_of X G k5,PySem.W.mg_of X G k6,PySem.W.mg_of X G k7,PySem.W.mg_of X G k8,PySem.W.mg_of X G k9,PySem.W.mg_of X G k10,PySem.W.mg_of X G k11,PySem.W.mg_of X G k12,PySem.W.mg_of X G k13,PySem.W.mg_of X G k14,PySem.W.mg_of X G k15,PySem.W.mg_of X G k16,PySem.W.mg_of X G k17⟩;have O3:=DG (mg:=mg) kb L.n3 e3;have K3:=Jc d3;have O8:=DG (mg:=mg) kb L.n8 e8;have K8:=Jc d8;have fw:=Il X G FL Qt tb;have Ru:=aV l.prog w base (vG Qu T) UX Qu.kp UY;have HP:=aV l.prog w base (qz Qv Ru) U0 Qv.kp U1;have BF:=aV l.prog w base (pI Qx T) U3 Qx.kp U4;have NJ:=aV l.prog w base (qw Qy T Ru BF) U6 Qy.kp U7;have XH:=aV l.prog w base (xx Qz T N NJ) U9 Qz.kp Va;have XI:=aV l.prog w base (tU QA T N XH BF) Vc QA.kp Vd;have XJ:=aV l.prog w base (qx QB T N NJ) Vf QB.kp Vg;have Rv:=aV l.prog w base (mW QC T N XJ BF) Vi QC.kp Vj;have Rw:=aV l.prog w base (tW QD T N2 NJ BF) Vl QD.kp Vm;have Rx:=aV l.prog w base (Hs QE N) Vo QE.kp Vp;have XN:=aV l.prog w base (Ht QF T N) Vr QF.kp Vs;have XO:=aV l.prog w base (Eh QG T (æ X G ay) XN Rx) Vu QG.kp Vv;have XQ:=aV l.prog w base (Ei QH (æ X G aw) Rv Rw XO) Vx QH.kp Vy;have Ry:=aV l.prog w base (Hu QI BF XI Rv Rw XQ) VA QI.kp VB;have XR:=aV l.prog w base (HW HI Ry) QJ HI.kp QK;have XB:=uq (P:=l.prog) (w:=w) (base:=base) (G4 (Cs:=λi=>[C0,C1,C2,C3,C4,C5,C6,C7,C8,C9,A8,A9,Bi,Bn,BA,BB,BC,BD].getD i 0) HI O3 Ry) QJ HI.kp QK;have XS:=aV l.prog w base (K52P.ok_are_weights QL TP NP HP BF) VF QL.kp VG;have XT:=aV l.prog w base (K52P.ok_refuse QM (æ X G dE) XS HP) VI QM.kp VJ;have XU:=aV l.prog w base (K52P.ok_places QN (æ X G aw) (æ X G bS)) VM QN.kp VN;have XW:=aV l.prog w base (K52P.ok_parts QO TP (æ X G dE) XU) VP QO.kp VQ;have XX:=aV l.prog w base (K52P.ok_parted QP XT XW) VS QP.kp VT;have XY:=aV l.prog w base (Ek QQ (æ X G dE)) VW QQ.kp VX;have XZ:=aV l.prog w base (BP QR (æ X G aw) Rx) VZ QR.kp V0;have X0:=aV l.prog w base (BL QS T (æ X G dE) XX) V2 QS.kp V3;have X1:=aV l.prog w base (Hv QT (æ X G hZ)) V5 QT.kp V6;have X2:=aV l.prog w base (Er QU (æ X G dE) (æ X G eJ) (æ X G wa) X0 X1) V8 QU.kp V9;have X3:=aV l.prog w base (Hy QV T N (æ X G ay) (æ X G bS) XZ X2 XY) Wb QV.kp Wc;have X4:=aV l.prog w base (Fq QW (æ X G ay) X3) Wf QW.kp Wg;have X5:=aV l.prog w base (Ig HK N3 HP) QX HK.kp QY;have XG:=uq (P:=l.prog) (w:=w) (base:=base) (G5 (Cs:=λi=>[C0,C1,C2,C3,C4,C5,C6,C7,C8,C9,A8,A9,Bi,Bn,BA,BB,BC,BD].getD i 0) HK N3 O8 HP) QX HK.kp QY;have X6:=aV l.prog w base (FT QZ T (æ X G eJ)) Wl QZ.kp Wm;have X7:=aV l.prog w base (Ih Q0 T N3 (æ X G kr) (æ X G aw) X6 X4) Wo Q0.kp Wq;have X8:=aV l.prog w base (Cq Q3 T) Ws Q3.kp Wt;have X9:=aV l.prog w base (Ii HL T (æ X G ay) XR X5 X7 X8) Q4 HL.kp Q5;have XM:=uq (P:=l.prog) (w:=w) (base:=base) (G6 HL XB XG) Q4 HL.kp Q5;have Ya:=aV l.prog w base (Hn Q6 T) Ww Q6.kp Wx;have Yb:=aV l.prog w base (Ec Q7 Ya) Wz Q7.kp WC;have EW:=aV l.prog w base (Ho Q8) WE Q8.kp WG;have Yc:=aV l.prog w base (Cg Q9 T (æ X G ay) EW) WI Q9.kp WJ;have Yd:=aV l.prog w base (um Ra T (æ X G ay) (æ X G hZ) EW) WL Ra.kp WM;have Rz:=aV l.prog w base (Fb Rb (æ X G aw) (æ X G ay)) WO Rb.kp WQ;have RA:=aV l.prog w base (BW Rc T (æ X G ay) (æ X G hZ)) WS Rc.kp WT;have RB:=aV l.prog w base (HQ Rf (æ X G ay)) WV Rf.kp WW;have Ye:=aV l.prog w base (vY HM (æ X G aw) Rz RA RB) Rg HM.kp Rh;have CS:=aV l.prog w base (HR (vY HM (æ X G aw) Rz RA RB)) Rg HM.kp Rh;have Yf:=aV l.prog w base (Ke Ri T (æ X G kr) EW) WZ Ri.kp Xa;have Yg:=aV l.prog w base (Ci Rj T (æ X G ay) EW Yf CS) Xc Rj.kp Xd;have Yh:=aV l.prog w base (Cj Rk T Yc Yd Yg) Xf Rk.kp Xg;have Yi:=aV l.prog w base (K52P.ok_lparted Rl (æ X G dE) (æ X G aw) (æ X G bS)) Xi Rl.kp Xj;have Yj:=aV l.prog w base (xX Rm (æ X G aw) (æ X G eJ) (æ X G bS)) Xl Rm.kp Xm;have Yk:=aV l.prog w base (Fp Rn T (æ X G ay) (æ X G wa) (æ X G bS) (æ X G hZ) (æ X G dE) Yj Yi) Xo Rn.kp Xp;have Yl:=aV l.prog w base (Kr Ro T (æ X G aw) (æ X G eJ) (æ X G kr) (æ X G dE) (æ X G AB) Ye Yk) Xr Ro.kp Xs;have Ym:=aV l.prog w base (Ks Rp T (æ X G ay) Yl) Xu Rp.kp Xv;have Yn:=aV l.prog w base (Hq Rq (æ X G oz)) Xx Rq.kp Xy;have Yo:=Ik (P:=l.prog) (w:=w) (base:=base) (I9 Rr T (æ X G gy) L) XA Rr.kp XC;have Yp:=aV l.prog w base (Ib (kk:=9) Rt L Yo) XE Rt.kp XF;exact Ku FL fw hC hB T (æ X G ay) (æ X G kr) (æ X G hZ) (æ X G oz) (æ X G eJ) (λj hj=>by rcases hj with rfl|rfl;exact K3;exact K8) Yb Yh EW Ym X9 Yn Yp XM
theorem walk{l:PySem.W.OpenLaw}{K:Params->Frag}(hn:l.most=some 63)(xb:d.params.defaults=[])(hY:∀w h,YP w h->(K w.params).In h)(LA:(PyProof.Rows.recsOf q).find? (λe=>e.name==("law":Str))=some dr)(DO:∀p,PySem.W.tabIn (K p) "law"=some (c,T0))(LB:∀p,PySem.W.noTabs (K p)=true)(F:∀w mg fa h,(K w.params).In h->h.Ns mainGlobals mg->mg d.name=some (.ref fa)->∃fd,(∀s u,BindsTo s fd ⟨[u],[]⟩ [(Ŭ,u)])/\∀base,(K w.params).In base->base.Ns mainGlobals mg->PySem.W.CodeHd base c T0->base.BuiltinsAt mg T0->Í l.prog w (K w.params) mg base Ý 63 fa fd [Ŭ] (Ae (K w.params) T0)):PySem.W.WalkO q loose XP YP l.row.toRowW d [] (λf vs=>PySem.call f vs):=L2.walk_ofT (n:=63) (k:=63) (x:=Ŭ) (nm:="law") (qn:=qnT) (CX:=λ_=>Ý) (sp:=λw=>Ae (K w.params) T0) hn Z3 xb ⟨rfl,by decide,by decide,rfl⟩ hY LA DO LB F (λ_ _ a ns hl hS hT=>⟨a,ns,rfl,hS,hl,hT,λ_=>rfl⟩) λ_ _ _ _ _ z=>z
end K52
open PySem PySem.W PyProof.Rows
set_option maxRecDepth 100000 in
set_option maxHeartbeats 0 in
theorem PySem.Challenge.cw_woolyears_k52_the_promise_that_is_too_ma_holds : PySem.Challenge.rw_woolyears_k52_the_promise_that_is_too_ma.Holds := by
 w_on;o_law;k_head;(case hw=>w_witness2);k_fill;refine' K52.walk (l:=PySem.Challenge.rw_woolyears_k52_the_promise_that_is_too_ma) rfl rfl (λw h Y=>PySem.W.km_in_of Y) ?fd ?tb ?nt ?F;case fd=>exact rfl
 case tb=>intro p;refine' K52.tab_mk ?a ?l ?c ?m ?v;(case a=>k_is);(case l=>k_is);(case c=>exact rfl);(case m=>k_is);(case v=>exact rfl)
 case nt=>intro p;kernel_rfl
 case F=>
  intro w mg fa h KX G hmg;refine' K52.all_mk KX G hmg ?h20 ?h21 ?h22 ?h23 ?h34 ?h35 ?h36 ?h37 ?h38 ?h39 ?h40 ?h41 ?h42 ?h43 ?h44 ?h48 ?h49 ?h50 ?h51 ?h52 ?h54 ?h55 ?h56 ?h57 ?h58 ?h59 ?h60 ?h65 ?h66 ?h67 ?h68 ?h69 ?h71 ?h72 ?h73 ?h74 ?h75 ?h76 ?h77 ?h78 ?h79 ?h80 ?h81 ?h82 ?h83 ?h84 ?h85 ?h89 ?h90 ?h88 ?h86 ?h87 ?aL ?lL ?cL ?kL ?n0 ?n1 ?n2 ?n3 ?n4 ?n5 ?n6 ?n7 ?n8 ?n9 ?n10 ?n11 ?n12 ?n13 ?z0 ?z1 ?z2 ?z3 ?z4 ?z5 ?z6 ?z7 ?z8 ?z9 ?z10 ?z11 ?z12 ?z13 ?z14 ?z15 ?z16 ?k0 ?k1 ?k2 ?k3 ?k4 ?k5 ?k6 ?k7 ?k8 ?k9 ?k10 ?k11 ?k12 ?k13 ?k14 ?k15 ?k16 ?k17 ?e3 ?d3 ?e8 ?d8 ?tb;case h20|h21|h22|h23|h34|h35|h36|h37|h38|h39|h40|h41|h42|h43|h44|h48|h49|h50|h51|h52|h54|h55|h56|h57|h58|h59|h60|h65|h66|h67|h68|h69|h71|h72|h73|h74|h75|h76|h77|h78|h79|h80|h81|h82|h83|h84|h85|h89|h90|h88|h86|h87=>refine' K52.has_mk ?a ?l ?c ?k;case a|l|c|k=>k_is
  case aL|lL|cL|kL|n0|n1|n2|n3|n4|n5|n6|n7|n8|n9|n10|n11|n12|n13|z0|z1|z2|z3|z4|z5|z6|z7|z8|z9|z10|z11|z12|z13|z14|z15|z16|k0|k1|k2|k3|k4|k5|k6|k7|k8|k9|k10|k11|k12|k13|k14|k15|k16|k17=>k_is
  case e3|d3|e8|d8=>kernel_rfl
  case tb=>refine' K52.tab_mk ?a ?l ?c ?m ?v;(case a=>k_is);(case l=>k_is);(case c=>exact rfl);(case m=>k_is);(case v=>exact rfl)
