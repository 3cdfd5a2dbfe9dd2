import PyProof.Rows.All
import Wide.All
import OpenK.AllK
import Wide.FinOn
import Lean
import PyProof.EqAt
import PyProof.EqKinds
import PyProof.TupleCall
import PyProof.StrLawsRepr
import PyProof.ZipIter
import PySem.Challenge.RW_woolyears_k51_by_when_all_is_met
import PyProof.Rows.SortRunsK
import PyProof.AttrMissHeap
import PyProof.SeqRoads
import PyProof.ListOps
import PyProof.DictUpdate
import PyProof.DictWalks
import KE.KDictList
import PyProof.Rows.SortWalk
import PyProof.StationsW
import KE.KItemsList
import PyProof.ListNew
import KE.KDictOf
import PyProof.ListRange
import PyProof.ExcBaseAll.ValueError
set_option compiler.extract_closed false
set_option Elab.async false
set_option linter.all false
set_option maxRecDepth 100000
set_option maxHeartbeats 4000000
noncomputable section
abbrev TQ:=PySem.Value->PySem.Shared->Prop
abbrev TX:=PySem.Str->Option PySem.Value
abbrev T7:=List (PySem.Addr×PySem.Obj)
abbrev ģ:=List PySem.PyData
abbrev ā:=List PySem.Value
abbrev Qa2:=Array PySem.Value
abbrev Qa3:=List PySem.Expr
abbrev ó:=List PySem.Str
abbrev Č:=List PySem.Addr
def â:=@PyProof.Rows.wpS_bind
def è:=@PyProof.Rows.wpS_pure
def ϣ:=@PySem.wpAny_newObj_type
def ō:=@List.all_eq_true
def ű:=@List.mem_singleton
def Ľ:=@List.sum_cons
def Ϭ:=@List.take_of_length_le
def ŝ:=@Nat.le_trans
def ϫ:=@Array.toList_append
def Zaj:=@List.getElem?_eq_none
def Zak:=@List.mem_cons_of_mem
def η:=@Nat.lt_irrefl
def Ϣ:=@List.mem_range
def Ϫ:=@List.of_mem_zip
def Zao:=@List.getElem_of_mem
def Zap:=@List.mem_cons_self
def Zaq:=@List.mem_of_mem_take
def Zar:=@List.drop_eq_getElem_cons
def Zas:=@Bool.eq_iff_iff
def Zat:=@Array.getElem?_toList
def Zau:=@Option.isSome_iff_exists
def Zav:=@List.length_drop
def Zaw:=@List.mem_append_left
def ϩ:=@Nat.ne_of_gt
def Zay:=@List.getElem?_set_self
def Zaz:=@List.filter_append
def Za0:=@List.length_set
def ϵ:=@Int.le_refl
def Za2:=@List.filterMap_cons
def Za3:=@List.getElem?_cons_succ
def Za4:=@Int.mul_le_mul_of_nonneg_left
def Za5:=@Int.emod_lt_of_pos
def Za6:=@Nat.le_of_lt
def Za7:=@Nat.not_lt_zero
def Za8:=@List.nodup_cons
def Za9:=@List.length_replicate
def Zba:=@Bool.true_and
def Zbb:=@List.nodup_append
def Zbc:=@Array.perm_iff_toList_perm
def Zbd:=@List.take_zero
def Zbe:=@List.lookup_cons
def Zbf:=@Nat.le_succ
def Zbg:=@List.map_congr_left
def Zbh:=@List.getElem?_range
def Zbi:=@Int.emod_nonneg
def Zbj:=@List.length_eq_zero_iff
def Zbk:=@List.getElem?_replicate
abbrev ć:PySem.Str:="_law_promises_here"
abbrev ĉ:PySem.Str:="_law_state_here"
abbrev Ā:PySem.Str:="_law_thing"
abbrev ŵ:PySem.Str:="_law_sales_here"
abbrev Ň:PySem.Str:="_law_rows"
abbrev ο:PySem.Str:="_law_year_here"
abbrev ż:PySem.Str:="_law_script"
abbrev ř:PySem.Str:="_law_one"
abbrev Ŭ:PySem.Str:="_law_most"
abbrev ϝ:PySem.Str:="_law_found"
abbrev Ϝ:PySem.Str:="_law_sacks"
abbrev ϭ:PySem.Str:="_law_sort"
abbrev AAm:PySem.Str:="_law_number"
abbrev AAn:PySem.Str:="_law_many"
abbrev AAo:PySem.Str:="_law_sale"
abbrev AAp:PySem.Str:="_law_years"
abbrev AAq:PySem.Str:="_law_take"
abbrev AAr:PySem.Str:="_law_lacks"
abbrev AAs:PySem.Str:="_law_growth"
abbrev AAt:PySem.Str:="_law_clips_here"
abbrev AAu:PySem.Str:="_law_high"
abbrev AAv:PySem.Str:="_law_k"
abbrev AAw:PySem.Str:="_law_low"
abbrev AAx:PySem.Str:="_law_holder"
abbrev AAy:PySem.Str:="_law_deep"
abbrev AAz:PySem.Str:="_law_are_promises"
abbrev ABa:PySem.Str:="_law_whole"
abbrev ABb:PySem.Str:="_law_between"
abbrev ABc:PySem.Str:="_law_row"
abbrev ABd:PySem.Str:="_law_weights"
abbrev ABe:PySem.Str:="_law_is_promise"
abbrev ABf:PySem.Str:="_law_sold"
abbrev ABg:PySem.Str:="_law_clip"
abbrev ABh:PySem.Str:="_law_call"
abbrev ABi:PySem.Str:="_law_spoilt"
abbrev ABj:PySem.Str:="_law_seller"
abbrev ABk:PySem.Str:="_law_are_clips"
abbrev ABl:PySem.Str:="_law_are_sales"
abbrev ABm:PySem.Str:="_law_due"
abbrev ABn:PySem.Str:="_law_total"
abbrev ABo:PySem.Str:="_law_promises"
abbrev ABp:PySem.Str:="_law_any_sale"
abbrev UV:=List (List Int)
abbrev WF:=List Int
theorem Â{p:Prop}(h:p:=by lia):p:=h
theorem Ù{p:Prop}(h:p:=by simp):p:=h
theorem Û{p:Prop}(h:p:=by decide):p:=h
theorem z03{p:Prop}(h:p:=by omega):p:=h
theorem z04{p:Prop}(h:p:=by decide+kernel):p:=h
theorem ŷ{p:Prop}(h:p:=by rw[sizeLine_eq];lia):p:=h
def Ć:=@decide_eq_true_eq
open PySem.W (Frag)
def ð:=@decide_eq_true
def Å:=@PySem.wpAny_bind
def î:=@PySem.W.mg_none_of
def Ë:=@if_neg
def Í:=@if_pos
def č:=@PySem.Heap.get?_push_of_some
def Ý:=@PySem.wpAny_pure
def ÿ:=@PySem.Heap.lt_size
def Ĝ:=@decide_eq_false
def Ŗ:=@List.mem_append_right
def ı:=@PySem.Heap.get?_push_size
def Ł:=@Nat.lt_of_lt_of_le
def ŕ:=@List.mem_of_getElem?
def Ŷ:=@PySem.F.plainAttrs_list
def Ĺ:=@PySem.PassesOwn.never
def Ĩ:=@Nat.ne_of_lt
def ŭ:=@of_decide_eq_true
def ϯ:=@PySem.F.type_list_append
def Ϯ:=@PySem.F.slot_list_append
def zBc:=@List.getElem?_append_right
def zBd:=@List.getElem?_append_left
def zBe:=@List.take_append_drop
def zBf:=@List.filter_cons_of_neg
def zBg:=@List.filter_cons_of_pos
def à:=@List.getElem?_eq_getElem
def Ø:=@List.length_map
def õ:=@List.length_append
def ß:=@Nat.le_refl
def ô:=@List.map_append
def ñ:=@List.mem_map
def Ę:=@List.mem_append
def Ĭ:=@List.getD_eq_getElem?_getD
def ē:=@List.size_toArray
def Ş:=@Array.length_toList
def ĵ:=@List.getElem?_eq_some_iff
def ċ:=@List.getElem?_map
def ġ:=@Bool.and_eq_true
def Ĵ:=@List.length_take
def ĳ:=@List.length_cons
def Ń:=@List.append_assoc
def Ř:=@Bool.false_ne_true
def Ě:=@List.getElem_mem
def ś:=@Int.toNat_natCast
def ī:=@List.take_add_one
def Ī:=@List.map_cons
def ŗ:=@Option.some.inj
def ł:=@List.take_length
def Ś:=@List.append_nil
def ĩ:=@List.mem_cons
def ĥ:=@Nat.zero_le
def δ:=@List.mem_filter
def Ĳ:=@List.map_map
def Ž:=@List.length_zip
namespace L2
open PySem PySem.Spec PyProof.Rows
abbrev Key:=Sum Int Str
def pG:Key->Value->Bool|.inl k,v=>Value.isInt k v|.inr x,v=>Value.isStrOf x v
def um(w:World):Key->Int|.inl k=>hashInt k|.inr x=>hashStr w x
theorem cG:∀{k:Key}{v:Value},pG k v=true->(∃i t,k=Sum.inl i/\v=Value.int i t)\/(∃x t,k=Sum.inr x/\v=Value.str x t)|.inl i,v,h=>by obtain⟨t,e⟩:=Value.isInt_shape (k:=i) (v:=v) h;exact .inl ⟨i,t,rfl,e⟩;|.inr x,v,h=>by obtain⟨t,e⟩:=Value.isStrOf_shape (x:=x) (v:=v) h;exact .inr ⟨x,t,rfl,e⟩
theorem Cd(i:Int)(t:Tok):pG (.inl i) (.int i t)=true:=by simp[pG,Value.isInt]
theorem Ce(x:Str)(t:Tok):pG (.inr x) (.str x t)=true:=by simp[pG,Value.isStrOf]
theorem KD(a b:Int):decide ((Sum.inl a:Key)=Sum.inl b)=(a==b):=by grind
theorem KH(a b:Str):decide ((Sum.inr a:Key)=Sum.inr b)=decide (a=b):=by simp
theorem KJ(a:Int)(b:Str):decide ((Sum.inl a:Key)=Sum.inr b)=false:=Ĝ (λq=>nomatch q)
theorem KN(a:Str)(b:Int):decide ((Sum.inr a:Key)=Sum.inl b)=false:=Ĝ (λq=>nomatch q)
def bF(prog:Program)(w:World):PySem.KeyKind prog w Key where
 is:=pG;hash:=um w;inj:=λv a b ha hb=>by
  rcases cG ha with⟨i,t,rfl,rfl⟩|⟨x,t,rfl,rfl⟩
  .rcases cG hb with⟨j,u,rfl,e⟩|⟨y,u,rfl,e⟩;.injection e with e1 _;rw[e1]
   .exact nomatch e
  .rcases cG hb with⟨j,u,rfl,e⟩|⟨y,u,rfl,e⟩;.exact nomatch e
   .injection e with e1 _;rw[e1]
 byValue:=λk v h=>by rcases cG h with⟨i,t,rfl,rfl⟩|⟨x,t,rfl,rfl⟩<;>rfl
 pyHash:=λhv h=>by
  rcases cG hv with⟨i,t,rfl,rfl⟩|⟨x,t,rfl,rfl⟩;.exact wpAny_pyHash_int h
  .exact wpAny_pyHash_str h
 eqBool:=λhu hv h=>by
  rcases cG hu with⟨i,t,rfl,rfl⟩|⟨x,t,rfl,rfl⟩
  .rcases cG hv with⟨j,u,rfl,rfl⟩|⟨y,u,rfl,rfl⟩;.rw[KD]at h;exact wpAny_eqBool_int h
   .rw[KJ]at h;exact SeqAt.EqAt.int_str i t y u _ _ _ _ h
  .rcases cG hv with⟨j,u,rfl,rfl⟩|⟨y,u,rfl,rfl⟩;.rw[KN]at h;exact SeqAt.EqAt.str_int x t j u _ _ _ _ h
   .rw[KH]at h;exact wpAny_eqBool_str h
 «strs»:=λk x t v h=>by
  rcases cG h with⟨i,u,rfl,e⟩|⟨y,u,rfl,e⟩;.exact nomatch e
  .injection e with e1 _;subst e1;cases v<;>rfl
theorem vH(prog:Program)(w:World)(i:Int)(t:Tok):(bF prog w).is (.inl i) (.int i t)=true:=Cd i t
theorem vI(prog:Program)(w:World)(x:Str)(t:Tok):(bF prog w).is (.inr x) (.str x t)=true:=Ce x t
inductive V where|non|bl(b:Bool)|int(i:Int)|str(x:Str)|byt(b:Array UInt8)|flt(b:UInt64)|ref(a:Addr)|ty(n:String)deriving DecidableEq
def Ô:V->Value->Prop|.non,u=>u=Value.none|.bl b,u=>u=Value.bool b|.int i,u=>∃t,u=Value.int i t|.str x,u=>∃t,u=Value.str x t|.byt b,u=>∃t,u=Value.bytes b t|.flt b,u=>∃t,u=Value.float b t|.ref a,u=>u=Value.ref a|.ty n,u=>u=Value.type n
abbrev Ï:List V->ā->Prop:=Paired Ô
theorem Ï.length(r:Ï xs us):xs.length=us.length:=Paired.length r
theorem Ï.get:∀{xs:List V}{us:ā}{i:Nat}{x:V},Ï xs us->xs[i]?=some x->∃u,us[i]?=some u/\Ô x u|_,_,_,_,.nil,e=>by simp at e;|_,_,0,_,.cons r _,e=>by simp at e;subst e;exact⟨_,rfl,r⟩;|_,_,i+1,x,.cons _ t,e=>by obtain⟨u,h1,h2⟩:=Ï.get (i:=i) (x:=x) t (by simpa using e);exact⟨u,by simpa using h1,h2⟩
theorem Ï.set(r:Ô x u):∀{xs:List V}{us:ā}i,Ï xs us->Ï (xs.set i x) (us.set i u)|_,_,_,.nil=>.nil|_,_,0,.cons _ t=>.cons r t|_,_,i+1,.cons q t=>.cons q (Ï.set r i t)
theorem Ï.append:∀{xs ys:List V}{us ws:ā},Ï xs us->Ï ys ws->Ï (xs++ys) (us++ws)|_,_,_,_,.nil,s=>s|_,_,_,_,.cons r t,s=>.cons r (Ï.append t s)
theorem Ï.take:∀{xs:List V}{us:ā}n,Ï xs us->Ï (xs.take n) (us.take n)|_,_,0,_=>.nil|_,_,_+1,.nil=>.nil|_,_,n+1,.cons r t=>.cons r (Ï.take n t)
theorem Ï.drop:∀{xs:List V}{us:ā}n,Ï xs us->Ï (xs.drop n) (us.drop n)|_,_,0,r=>r|_,_,_+1,.nil=>.nil|_,_,n+1,.cons _ t=>Ï.drop n t
def ķ:Option V->Option Value->Prop|some v,some u=>Ô v u|none,none=>True|_,_=>False
def KV:List (κ×V)->List (κ×Value)->Prop:=Paired λp q=>p.1=q.1/\Ô p.2 q.2
def kV:Key->V|.inl i=>.int i|.inr x=>.str x
inductive HO where|lst(xs:List V)|tup(xs:List V)|dK(kvs:List (Key×V))|dT(kvs:List (List Key×V))|set(S:Int->Bool)(n:Nat)|ins(C dx:Addr)(fs:List (Str×V))|own(x:Addr)|xd(fs:List (Str×V))|met(f x:Addr)|rng(lo hi:Int)|frz(o:Obj)(u:HO)|tbl(ps:Qa2)|ext(φ:Heap->Prop)
abbrev Hp:=Addr->Option HO
def upd(H:Hp)(a:Addr)(o:HO):Hp:=λb=>if b=a then some o else H b
theorem aj:upd H a o a=some o:=by unfold upd;rw[Í rfl]
theorem aq(h:b≠a):upd H a o b=H b:=by unfold upd;rw[Ë h]
theorem K9{H:Hp}(h:H a=some o)(h':H b=some u)(d:o≠u):a≠b:=by intro e;subst e;rw[h]at h';exact d (ŗ h')
theorem aB{H:Hp}(h:H a=some o)(h':H b=none):a≠b:=by intro e;subst e;rw[h]at h';cases h'
section
variable(P:Program)(w:World)
def Ú(H:Hp)(h:Heap)(a:Addr):HO->Prop|.lst xs=>xs.length<=sizeLine/\∃Æ n,Ï xs Æ/\h.get? a=some {cls:=.type "list",data:=.seq Æ.toArray n}|.tup xs=>xs.length<=sizeLine/\∃Æ,Ï xs Æ/\IsTup h a Æ.toArray|.dK kvs=>kvs.length<=sizeLine/\(a==sysModules)=false/\∃vs,KV kvs vs/\h.DictOf (bF P w) a vs|.dT kvs=>kvs.length<=sizeLine/\(a==sysModules)=false/\∃xs,Paired (λp q=>p.1=q.1/\H q.2.1=some (.tup (p.1.map kV))/\Ô p.2 q.2.2) kvs xs/\∃o es ep,h.get? a=some o/\o.ExactDict/\o.data=.dict es ep/\es.toList=xs.map (entryOfKey (tupleKind (bF P w)))/\(xs.map (·.1)).Nodup|.set S n=>h.SetOf (intKind P w) a S n|.ins C dx fs=>H dx=some (.own a)/\fs.length<=1000/\dx≠a/\h.get? a=some (PySem.W.instObj C dx)/\∃mA,h.Ns1 dx mA/\(∀f,ķ (fs.lookup f) (mA f))/\PySem.Within mA (fs.map (·.1))|.own _=>∃o,h.get? a=some o|.xd fs=>∃mA,h.Ns1 a mA/\∀f,ķ (fs.lookup f) (mA f)|.rng lo hi=>∃t u v,h.get? a=some {cls:=.type "range",data:=.fields #[.int lo t,.int hi u,.int 1 v]}|.frz o u=>h.get? a=some o/\Ú H h a u|.tbl ps=>h.get? a=some {cls:=.none,data:=.fields ps}|.met f x=>h.get? a=some (PySem.W.methodObj (.ref f) (.ref x))|.ext φ=>φ h/\(∃o,h.get? a=some o)/\∀h1 h2,φ h1->(∀o,h1.get? a=some o->h2.get? a=some o)->φ h2
def ą(H:Hp)(h:Heap):Prop:=∀a o,H a=some o->Ú P w H h a o
end
section
variable{a:Addr}
theorem Ú.lt(x:Ú P w H h a o):a<h.objs.size:=by cases o with|lst xs=>obtain⟨_,_,_,_,e⟩:=x;exact ÿ e;|tup xs=>obtain⟨_,_,_,p⟩:=x;exact p.lt;|dK kvs=>obtain⟨_,_,_,_,o,_,_,e,_⟩:=x;exact ÿ e;|dT kvs=>obtain⟨_,_,_,_,o,_,_,e,_⟩:=x;exact ÿ e;|set S n=>obtain⟨o,_,_,_,e,_⟩:=x;exact ÿ e;|ins C dx fs=>obtain⟨_,_,_,e,_⟩:=x;exact ÿ e;|own y=>obtain⟨_,e⟩:=x;exact ÿ e;|xd fs=>obtain⟨_,⟨_,_,_,e,_⟩,_⟩:=x;exact ÿ e;|rng lo hi=>obtain⟨_,_,_,e⟩:=x;exact ÿ e;|frz ob u=>obtain⟨e,_⟩:=x;exact ÿ e;|tbl ps=>exact ÿ (x);|met f y=>exact ÿ (x);|ext φ=>obtain⟨_,⟨_,e⟩,_⟩:=x;exact ÿ e
theorem Paired.mapP:∀{l₁:List α}{l₂:List β},Paired F l₁ l₂->(∀a b,F a b->G a b)->Paired G l₁ l₂|_,_,.nil,_=>.nil|_,_,.cons r t,f=>.cons (f _ _ r) (Paired.mapP t f)
theorem Ú.stay(x:Ú P w H h a o)(k:∀b u,(b=a\/H b=some (.own a))->h.get? b=some u->h'.get? b=some u)(ho:∀b,H b=some (.own a)->H' b=some (.own a))(ht:∀b xs,H b=some (.tup xs)->H' b=some (.tup xs)):Ú P w H' h' a o:=by induction o with|lst xs=>obtain⟨z,Æ,n,r,e⟩:=x;exact⟨z,Æ,n,r,k _ _ (.inl rfl) e⟩;|tup xs=>obtain⟨z,Æ,r,ob,e,c⟩:=x;exact⟨z,Æ,r,ob,k _ _ (.inl rfl) e,c⟩;|dK kvs=>obtain⟨z,y,vs,r,ob,es,ep,e,c⟩:=x;exact⟨z,y,vs,r,ob,es,ep,k _ _ (.inl rfl) e,c⟩;|dT kvs=>obtain⟨z,y,xs,r,ob,es,ep,e,c⟩:=x;exact⟨z,y,xs,Paired.mapP r λp q z=>⟨z.1,ht _ _ z.2.1,z.2.2⟩,ob,es,ep,k _ _ (.inl rfl) e,c⟩;|set S n=>obtain⟨ob,es,ep,t,e,c⟩:=x;exact⟨ob,es,ep,t,k _ _ (.inl rfl) e,c⟩;|ins C dx fs=>obtain⟨d,z,ne,e,mA,⟨od,es,ep,e2,c⟩,r⟩:=x;exact⟨ho _ d,z,ne,k _ _ (.inl rfl) e,mA,⟨od,es,ep,k _ _ (.inr d) e2,c⟩,r⟩;|own y=>obtain⟨ob,e⟩:=x;exact⟨ob,k _ _ (.inl rfl) e⟩;|xd fs=>obtain⟨mA,⟨od,es,ep,e,c⟩,r⟩:=x;exact⟨mA,⟨od,es,ep,k _ _ (.inl rfl) e,c⟩,r⟩;|rng lo hi=>obtain⟨t,u,v,e⟩:=x;exact⟨t,u,v,k _ _ (.inl rfl) e⟩;|frz ob u ih=>obtain⟨e,q⟩:=x;exact⟨k _ _ (.inl rfl) e,ih q⟩;|tbl ps=>have e:h.get? a=some {cls:=.none,data:=.fields ps}:=x;exact k a _ (.inl rfl) e;|met f y=>have e:h.get? a=some (PySem.W.methodObj (.ref f) (.ref y)):=x;exact k a _ (.inl rfl) e;|ext φ=>obtain⟨p,⟨o,e⟩,st⟩:=x;exact⟨st _ _ p λo q=>k _ _ (.inl rfl) q,⟨o,k _ _ (.inl rfl) e⟩,st⟩
theorem ą.lt(x:ą P w H h)(e:H a=some o):a<h.objs.size:=(x a o e).lt
theorem ą.fresh(x:ą P w H h)(e:h.objs.size<=a):H a=none:=by cases q:H a with|none=>rfl;|some u=>exact absurd (Ł (x.lt q) e) (η _)
theorem ą.kept(x:ą P w H h)(k:∀b u,h.get? b=some u->h'.get? b=some u):ą P w H h':=λa o e=>(x a o e).stay (λb u _ q=>k b u q) (λ_ q=>q) λ_ _ q=>q
theorem ą.laid(x:ą P w H h)(k:∀b u,h.get? b=some u->h'.get? b=some u)(hp:h.objs.size<=a)(new:Ú P w (upd H a o) h' a o):ą P w (upd H a o) h':=λb u e=>by
 have hn:=x.fresh hp;by_cases hb:b=a;.subst hb;rw[aj]at e;cases e;exact new
 .rw[aq hb]at e;exact(x b u e).stay (λc v _ q=>k c v q) (λc q=>by rw[aq (aB q hn)];exact q) λc xs q=>by rw[aq (aB q hn)];exact q
end
def Rd(H:Hp)(a:Addr)(u:HO):Prop:=H a=some u\/∃o,H a=some (.frz o u)
theorem Rd.ok(r:Rd H a u)(x:ą P w H h):Ú P w H h a u:=by
 rcases r with r|⟨o,r⟩;.exact x a u r
 .obtain⟨_,q⟩:=x a _ r;exact q
def Mut:Option HO->Prop|some (.lst _)=>True|some (.dK _)=>True|some (.dT _)=>True|some (.set _ _)=>True|some (.ins _ _ _)=>True|some (.ext _)=>True|_=>False
section
theorem ą.write(ok:ą P w H h)(mu:Mut (H x))(he:e=x\/H e=some (.own x))(k:∀b u,b≠e->h.get? b=some u->h'.get? b=some u)(AK:∃u,h'.get? e=some u)(new:Ú P w (upd H x o') h' x o'):ą P w (upd H x o') h':=λb u q=>by
 have B2:∀c y,H c=some (.own y)->c≠x:=λc y r z=>by subst z;rw[r]at mu;exact mu
 have IF:∀c xs,H c=some (.tup xs)->c≠x:=λc xs r z=>by subst z;rw[r]at mu;exact mu
 by_cases hb:b=x;.subst hb;rw[aj]at q;cases q;exact new
 .rw[aq hb]at q;by_cases Cb:b=e
  .have q':H b=some (.own x):=by grind
   rw[q]at q';cases q';obtain⟨v,hv⟩:=AK;exact⟨v,by rw[Cb];exact hv⟩
  .refine(ok b u q).stay (λc v hc r=>k c v ?_ r) (λc r=>by rw[aq (B2 c b r)];exact r) λc xs r=>by rw[aq (IF c xs r)];exact r
   rcases hc with rfl|hc;.exact Cb
   .rintro rfl;rcases he with z|z;.exact B2 c b hc z
    .rw[hc]at z;cases z;exact hb rfl
end
structure Un(fs ex:Č)(H H':Hp)(h h':Heap):Prop where
 keep:∀b o,h.get? b=some o->H b=none->b∉fs->b∉ex->h'.get? b=some o
 slot:∀b o,h.get? b=some o->H b=none->b∈fs->b∉ex->∃sl,h'.get? b=some {o with slots:=sl}free:∀b o,h.get? b=some o->H b=none->b∉ex->H' b=none
 there:∀b o,h.get? b=some o->b∉ex->∃o',h'.get? b=some o'
 tups:∀b xs,H b=some (.tup xs)->H' b=some (.tup xs)frzs:∀b o u,H b=some (.frz o u)->H' b=some (.frz o u)tbls:∀b ps,H b=some (.tbl ps)->∃more,H' b=some (.tbl (ps++more))
section
variable{h h1 h2 h':Heap}{a x e:Addr}
theorem Un.any(u:Un fs ex H H1 h h1)(q:h.get? b=some ob)(n:H b=none)(hx:b∉ex):∃sl,h1.get? b=some {ob with slots:=sl}:=by
 by_cases hb:b∈fs;.exact u.slot b ob q n hb hx
 .exact⟨ob.slots,u.keep b ob q n hb hx⟩
theorem Un.kept(k:∀b u,h.get? b=some u->h'.get? b=some u):Un fs ex H H h h':=⟨λb ob q _ _ _=>k b ob q,λb ob q _ _ _=>⟨ob.slots,k b ob q⟩,λ_ _ _ n _=>n,λb ob q _=>⟨ob,k b ob q⟩,λ_ _ q=>q,λ_ _ _ q=>q,λ_ ps q=>⟨#[],by rw[q];simp⟩⟩
theorem Un.refl:Un fs ex H H h h:=Un.kept λ_ _ q=>q
theorem Un.laid(k:∀b u,h.get? b=some u->h'.get? b=some u)(hp:h.objs.size<=a)(hn:H a=none):Un fs ex H (upd H a o) h h' where
 keep:=λb u q _ _ _=>k b u q;slot:=λb u q _ _ _=>⟨u.slots,k b u q⟩;free:=λb u q n _=>by rw[aq (Ĩ (Ł (ÿ q) hp))];exact n
 there:=λb u q _=>⟨u,k b u q⟩;tups:=λb xs q=>by rw[aq (aB q hn)];exact q
 frzs:=λb u xs q=>by rw[aq (aB q hn)];exact q
 tbls:=λb ps q=>⟨#[],by rw[aq (aB q hn),q];simp⟩
theorem Un.write(mu:Mut (H x))(he:e=x\/H e=some (.own x))(k:∀b u,b≠e->h.get? b=some u->h'.get? b=some u)(AK:∃u,h'.get? e=some u):Un fs ex H (upd H x o) h h':=by
 have hx:∀b,H b=none->b≠x:=λb n z=>by subst z;rw[n]at mu;exact mu
 have hb:∀b,H b=none->b≠e:=λb n z=>by
  subst z;rcases he with r|r;.exact hx b n r
  .rw[n]at r;cases r
 have hm:∀b u,H b=some u->¬Mut (some u)->b≠x:=λb u q nm z=>by subst z;rw[q]at mu;exact nm mu
 refine⟨λb u q n _ _=>k b u (hb b n) q,λb u q n _ _=>⟨u.slots,k b u (hb b n) q⟩,λb u q n _=>by rw[aq (hx b n)];exact n,λb u q _=>?_,λb xs q=>by rw[aq (hm b _ q λz=>z)];exact q,λb u xs q=>by rw[aq (hm b _ q λz=>z)];exact q,λb ps q=>⟨#[],by rw[aq (hm b _ q λz=>z),q];simp⟩⟩;by_cases Cb:b=e;.subst Cb;exact AK
 .exact⟨u,k b u Cb q⟩
end
def trk(h:Heap)(H:Hp):Č:=(List.range h.objs.size).filter λa=>(H a).isSome
def pH(h:Heap)(H:Hp):Heap:=PySem.W.hideAll h (trk h H)
theorem Cg(h:Heap)(H:Hp):(pH h H).objs.size=h.objs.size:=PySem.W.hideAll_size _ _
theorem Ed(e:h.get? b=some o)(n:H b=none):(pH h H).get? b=some o:=PySem.W.hideAll_get _ e λhm=>by have q:(H b).isSome=true:=(δ.mp hm).2;rw[n]at q;simp at q
theorem Ib(e:(pH h H).get? b=some o):h.get? b=some o/\H b=none:=by have e':h.get? b=some o:=PySem.W.of_hideAll (trk h H) e;refine⟨e',?_⟩;cases q:H b with|none=>rfl;|some x=>have hm:b∈trk h H:=δ.mpr ⟨Ϣ.mpr (ÿ e'),by simp[q]⟩;have z:(pH h H).get? b=none:=PySem.W.hideAll_none (trk h H) hm;rw[z]at e;cases e
structure Mod(K:Frag)(mg:TX)(base:Heap):Prop where
 kin:K.In base
 glob:base.Ns mainGlobals mg
 blt:∃mb,base.Ns builtinsNs mb/\∀x:Str,x≠"__name__"->mb x=bootBuiltins x
 nolimit:base.NoLimit
structure Cx where
 prog:Program
 w:World
 K:Frag
 mg:TX
 base:Heap
 A:Around
 N:ó
 s₀:Shared
 H₀:Hp
 env:Env
 outer:List Env
 stack:List Env
 ex:Č
 fn:Str->Bool
 calm:Bool
 pn:T7
 xe:TQ
def ė(l:List Env):Č:=l.filterMap (·.frame)
abbrev Cx.fs(X:Cx):Č:=ė X.outer
def Vis(sc:Scope)(x:Str):Prop:=sc.names.lookup x=some .local\/sc.names.lookup x=some .cell\/sc.names.lookup x=some .free
def Loc(sc:Scope)(x:Str):Prop:=sc.names.lookup x=some .local\/sc.names.lookup x=some .cell
def Look(env:Env)(h:Heap)(m:TX)(x:Str)(u:Value):Prop:=(env.kindOf x=some .local/\m x=some u)\/((env.kindOf x=some .cell\/env.kindOf x=some .free)/\∃c,env.cells.lookup x=some c/\h.IsCell c (some u))
structure Cx.Ok(X:Cx):Prop where
 mod:Mod X.K X.mg X.base
 kind:X.env.scope.kind=.function
 glob:X.env.globals=mainGlobals
 blt:X.env.builtins=builtinsNs
 above:X.s₀.heap.objs.size<=X.env.locals
 inj:∀x y c,X.env.cells.lookup x=some c->X.env.cells.lookup y=some c->x=y
 has:∀x,(X.env.kindOf x=some .cell\/X.env.kindOf x=some .free)->∃c,X.env.cells.lookup x=some c
 cab:∀x c,X.fn x=true->X.env.cells.lookup x=some c->X.s₀.heap.objs.size<=c
 hd:X.calm=true->X.A.handled=none
 frames:X.A.frames=some X.stack
 stk:X.stack=X.outer\/(X.stack=X.env::X.outer/\X.env.frame=some X.env.locals)exf:∀b∈X.ex,b≠X.env.locals/\∀x c,X.env.cells.lookup x=some c->c≠b
 bs:∀b o,X.base.get? b=some o->X.s₀.heap.get? b=some o/\X.H₀ b=none
 bsz:X.base.objs.size<=X.s₀.heap.objs.size
 noex:∀b o,X.base.get? b=some o->b∉X.ex
 exfs:∀b∈X.ex,b∉X.fs
 funs:X.s₀.heap.FunFrames X.base X.outer
 frf:∀b∈X.fs,X.H₀ b=none
structure Ç(X:Cx)(Á:T7)(σ:List (Option V))(H:Hp)(s:Shared):Prop where
 ok:X.Ok
 os:s.os=X.s₀.os
 bare:AllBare s.gens
 base:Un X.fs X.ex X.H₀ H X.s₀.heap s.heap
 loc:∃m,s.heap.Ns X.env.locals m/\∀(i:Nat)x v,X.N[i]?=some x->σ[i]?=some (some v)->Vis X.env.scope x->∃u,Ô v u/\Look X.env s.heap m x u
 cell:∀x c,X.env.cells.lookup x=some c->∃v,s.heap.IsCell c v
 free:H X.env.locals=none
 freeC:∀x c,X.env.cells.lookup x=some c->H c=none
 pin:∀p∈X.pn++Á,s.heap.get? p.1=some p.2/\H p.1=none/\p.1≠X.env.locals/\p.1∉X.fs/\∀v,p.2.data≠.cell v
 hok:ą X.prog X.w H s.heap
 len:σ.length=X.N.length
section
variable{X:Cx}
theorem Cx.Ok.nofr(ok:X.Ok)(e:X.base.get? b=some o):b∉X.fs:=λhb=>by have:=(ok.funs.mem hb).1;rw[e]at this;cases this
theorem Ç.bs(I:Ç X Á σ H s):∀b o,X.base.get? b=some o->s.heap.get? b=some o/\H b=none:=λb o e=>⟨I.base.keep b o (I.ok.bs b o e).1 (I.ok.bs b o e).2 (I.ok.nofr e) (I.ok.noex b o e),I.base.free b o (I.ok.bs b o e).1 (I.ok.bs b o e).2 (I.ok.noex b o e)⟩
theorem Ç.bk(I:Ç X Á σ H s):∀b o,X.base.get? b=some o->s.heap.get? b=some o:=λb o e=>(I.bs b o e).1
theorem Ç.mod(I:Ç X Á σ H s):Mod X.K X.mg X.base:=I.ok.mod
theorem Ç.kIn(I:Ç X Á σ H s):X.K.In s.heap:=I.ok.mod.kin.keeps I.bk
theorem Ç.lt(I:Ç X Á σ H s):X.env.locals<s.heap.objs.size:=by obtain⟨_,hn,_⟩:=I.loc;exact hn.lt
theorem Ç.sz(I:Ç X Á σ H s):X.s₀.heap.objs.size<=s.heap.objs.size:=ŝ I.ok.above (Za6 I.lt)
theorem Ç.nofs(I:Ç X Á σ H s){a:Addr}(h:s.heap.objs.size<=a):a∉X.fs:=λhb=>by obtain⟨_,o,ho,_⟩:=I.ok.funs.mem hb;exact absurd (Ł (ÿ ho) (ŝ I.sz h)) (η _)
theorem Ç.cne(I:Ç X Á σ H s):∀x c,X.env.cells.lookup x=some c->c≠X.env.locals:=λx c e z=>by obtain⟨v,o,ho,hd⟩:=I.cell x c e;obtain⟨m,⟨o',es,ep,kB,p9,_⟩,_⟩:=I.loc;rw[z,kB]at ho;cases ho;rw[p9]at hd;cases hd
theorem Ç.funs(I:Ç X Á σ H s):s.heap.FunFrames X.base X.outer:=by
 have all:∀(l:List Env),(∀b∈ė l,b∈X.fs)->X.s₀.heap.FunFrames X.base l->s.heap.FunFrames X.base l:=by intro l;induction l with|nil=>intro _ _;trivial;|cons env r ih=>intro hs hl;obtain⟨hk,⟨L,o,hf,hn,ho,hd⟩,hr⟩:=hl;have hL:L∈X.fs:=hs L (by unfold ė;rw[Za2,hf];exact Zap);obtain⟨sl,e⟩:=I.base.slot L o ho (I.ok.frf L hL) hL λz=>I.ok.exfs L z hL;exact⟨hk,⟨L,_,hf,hn,e,hd⟩,ih (λb hb=>hs b (by unfold ė;rw[Za2,hf];exact Zak _ hb)) hr⟩
 exact all X.outer (λ_ hb=>hb) I.ok.funs
theorem Ç.stack(I:Ç X Á σ H s):s.heap.FunFrames X.base X.stack:=by
 rcases I.ok.stk with e|⟨e,hf⟩;.rw[e];exact I.funs
 .rw[e];obtain⟨m,hn,_⟩:=I.loc;refine .cons (by rw[I.ok.kind];decide) hf hn ?_ I.funs;exact Heap.get?_none_of_le (ŝ I.ok.bsz I.ok.above)
theorem Ç.stkSub(I:Ç X Á σ H s):∀b∈ė X.stack,b∈X.env.locals::X.fs:=λb hb=>by
 rcases I.ok.stk with e|⟨e,hf⟩;.rw[e]at hb;exact Zak _ hb
 .rw[e]at hb;unfold ė at hb;rw[Za2,hf]at hb;exact hb
theorem Ç.stkFree(I:Ç X Á σ H s):∀b∈ė X.stack,H b=none:=λb hb=>by
 rcases ĩ.mp (I.stkSub b hb)with e|hb;.rw[e];exact I.free
 .obtain⟨_,o,ho,_⟩:=I.ok.funs.mem hb;exact I.base.free b o ho (I.ok.frf b hb) λz=>I.ok.exfs b z hb
theorem Ç.step{ch:Č}(I:Ç X Á σ H s)(oP:∀b∈ch,(b∈X.ex\/X.s₀.heap.objs.size<=b)/\b≠X.env.locals/\(∀x c,X.env.cells.lookup x=some c->c≠b)/\∀p∈X.pn++Á,p.1≠b)(keep:∀b o,b≠X.env.locals->b∉X.fs->b∉ch->s.heap.get? b=some o->H b=none->h'.get? b=some o)(slot:∀b o,b≠X.env.locals->b∈X.fs->b∉ch->s.heap.get? b=some o->H b=none->∃sl,h'.get? b=some {o with slots:=sl})(free:∀b o,b∉ch->s.heap.get? b=some o->H b=none->H' b=none)(there:∀b o,b∉ch->s.heap.get? b=some o->∃o',h'.get? b=some o')(tups:∀b xs,H b=some (.tup xs)->H' b=some (.tup xs))(frzs:∀b o u,H b=some (.frz o u)->H' b=some (.frz o u))(tbls:∀b ps,H b=some (.tbl ps)->∃more,H' b=some (.tbl (ps++more)))(ns:∀m,s.heap.Ns X.env.locals m->h'.Ns X.env.locals m)(hok:ą X.prog X.w H' h')(hg:AllBare g'):Ç X Á σ H' {s with heap:=h',gens:=g',drawn:=d',toks:=t'}:=by
 have Fc:∀b o,X.s₀.heap.get? b=some o->b≠X.env.locals:=λb o e=>Ĩ (Ł (ÿ e) I.ok.above);have Fh:∀b o,X.s₀.heap.get? b=some o->b∉X.ex->b∉ch:=λb o e hx hb=>by
  rcases(oP b hb).1 with z|z;.exact hx z
  .exact absurd (Ł (ÿ e) z) (η _)
 have cellK:∀x c,X.env.cells.lookup x=some c->∀v,s.heap.IsCell c v->h'.IsCell c v:=λx c e v hZ=>by
  obtain⟨o,ho,hd⟩:=hZ;have Cc:c∉ch:=λz=>(oP c z).2.2.1 x c e rfl;by_cases hc:c∈X.fs;.obtain⟨sl,q⟩:=slot c o (I.cne x c e) hc Cc ho (I.freeC x c e);exact⟨_,q,hd⟩
  .exact⟨o,keep c o (I.cne x c e) hc Cc ho (I.freeC x c e),hd⟩
 refine⟨I.ok,I.os,hg,⟨λb o e n hb hx=>?_,λb o e n hb hx=>?_,λb o e n hx=>?_,λb o e hx=>?_,λb xs e=>tups b xs (I.base.tups b xs e),λb o xs e=>frzs b o xs (I.base.frzs b o xs e),λb ps e=>?_⟩,?_,λx c e=>?_,?_,λx c e=>?_,λp hp=>?_,hok,I.len⟩;.exact keep b o (Fc b o e) hb (Fh b o e hx) (I.base.keep b o e n hb hx) (I.base.free b o e n hx)
 .obtain⟨sl,e1⟩:=I.base.slot b o e n hb hx;obtain⟨Fm,e2⟩:=slot b _ (Fc b o e) hb (Fh b o e hx) e1 (I.base.free b o e n hx);exact⟨Fm,e2⟩
 .obtain⟨o',e1⟩:=I.base.there b o e hx;exact free b o' (Fh b o e hx) e1 (I.base.free b o e n hx)
 .obtain⟨o',e1⟩:=I.base.there b o e hx;exact there b o' (Fh b o e hx) e1
 .obtain⟨m1,e1⟩:=I.base.tbls b ps e;obtain⟨m2,e2⟩:=tbls b _ e1;exact⟨m1++m2,by rw[e2,Array.append_assoc]⟩
 .obtain⟨m,hn,hl⟩:=I.loc;refine⟨m,ns m hn,λi x v e1 e2 e3=>?_⟩;obtain⟨u,r,l⟩:=hl i x v e1 e2 e3;refine⟨u,r,?_⟩;rcases l with l|⟨k,c,e,z⟩;.exact .inl l
  .exact .inr ⟨k,c,e,cellK x c e _ z⟩
 .obtain⟨v,z⟩:=I.cell x c e;exact⟨v,cellK x c e v z⟩
 .obtain⟨m,⟨o,_,_,ho,_⟩,_⟩:=I.loc;exact free _ o (λz=>(oP _ z).2.1 rfl) ho I.free
 .obtain⟨v,o,ho,hd⟩:=I.cell x c e;exact free c o (λz=>(oP c z).2.2.1 x c e rfl) ho (I.freeC x c e)
 .obtain⟨e,n,ne,nf,d⟩:=I.pin p hp;have Cc:p.1∉ch:=λz=>(oP p.1 z).2.2.2 p hp rfl;exact⟨keep p.1 p.2 ne nf Cc e n,free p.1 p.2 Cc e n,ne,nf,d⟩
theorem Ç.un(I:Ç X Á σ H s)(u:Un X.fs [] H H' s.heap h')(hok:ą X.prog X.w H' h'):Ç X Á σ H' {s with heap:=h',toks:=t'}:=by obtain⟨m,⟨o,es,ep,ho,r⟩,_⟩:=id I.loc;obtain⟨sl,hL⟩:=u.any ho I.free Ù;exact I.step (g':=s.gens) (d':=s.drawn) (ch:=[]) (λ_ z=>nomatch z) (λb o _ hb _ e n=>u.keep b o e n hb Ù) (λb o _ hb _ e n=>u.slot b o e n hb Ù) (λb o _ e n=>u.free b o e n Ù) (λb o _ e=>u.there b o e Ù) u.tups u.frzs u.tbls (λm' hm=>by obtain⟨o',gN,wq,kB,r'⟩:=hm;rw[ho]at kB;cases kB;exact⟨_,gN,wq,hL,r'⟩) hok I.bare
theorem Ç.call(I:Ç X Á σ H s)(u:Un (ė X.stack) ch H H' s.heap h')(hok:ą X.prog X.w H' h')(hg:AllBare g')(oP:∀b∈ch,(b∈X.ex\/X.s₀.heap.objs.size<=b)/\b≠X.env.locals/\(∀x c,X.env.cells.lookup x=some c->c≠b)/\∀p∈X.pn++Á,p.1≠b):Ç X Á σ H' {s with heap:=h',gens:=g',drawn:=d',toks:=t'}:=by obtain⟨m,⟨o,es,ep,ho,r⟩,_⟩:=id I.loc;obtain⟨sl,hL⟩:=u.any ho I.free λz=>(oP _ z).2.1 rfl;exact I.step (ch:=ch) oP (λb o hL hb hc e n=>u.keep b o e n (λz=>(ĩ.mp (I.stkSub b z)).elim hL hb) hc) (λb o _ _ hc e n=>u.any e n hc) (λb o hc e n=>u.free b o e n hc) (λb o hc e=>u.there b o e hc) u.tups u.frzs u.tbls (λm' hm=>by obtain⟨o',gN,wq,kB,r'⟩:=hm;rw[ho]at kB;cases kB;exact⟨_,gN,wq,hL,r'⟩) hok hg
theorem Ç.turned(I:Ç X Á σ H s)(k:∀b o,b≠it->s.heap.get? b=some o->h'.get? b=some o)(hn:H it=none)(hL:it≠X.env.locals)(h1:it∈X.ex\/X.s₀.heap.objs.size<=it)(h2:∀x c,X.env.cells.lookup x=some c->c≠it)(h3:∀p∈X.pn++Á,p.1≠it):Ç X Á σ H {s with heap:=h',toks:=t'}:=by
 have N9:∀b u,H b=some u->b≠it:=λb u e z=>by rw[z,hn]at e;cases e
 refine I.step (g':=s.gens) (d':=s.drawn) (ch:=[it]) (λb hb=>?_) (λb o _ _ hc e _=>k b o (λz=>hc (by simp[z])) e) (λb o _ _ hc e _=>⟨o.slots,k b o (λz=>hc (by simp[z])) e⟩) (λ_ _ _ _ n=>n) (λb o hc e=>⟨o,k b o (λz=>hc (by simp[z])) e⟩) (λ_ _ e=>e) (λ_ _ _ e=>e) (λb ps e=>⟨#[],by rw[e];simp⟩) (λm hm=>?_) (λb u e=>?_) I.bare
 .have e:b=it:=by simpa using hb
  subst e;exact⟨h1,hL,h2,h3⟩
 .obtain⟨o,es,ep,ho,r⟩:=hm;exact⟨o,es,ep,k _ o (Ne.symm hL) ho,r⟩
 .refine(I.hok b u e).stay (λc v hc q=>k c v ?_ q) (λ_ q=>q) λ_ _ q=>q;rcases hc with z|z;.rw[z];exact N9 b u e
  .exact N9 c _ z
theorem Ç.tok(I:Ç X Á σ H s)(t:Nat):Ç X Á σ H {s with toks:=t}:=I.un (h':=s.heap) (t':=t) Un.refl I.hok
theorem Ç.kept(I:Ç X Á σ H s)(k:∀b u,s.heap.get? b=some u->h'.get? b=some u):Ç X Á σ H {s with heap:=h',toks:=t'}:=I.un (Un.kept k) (I.hok.kept k)
theorem Ç.laid{a:Addr}(I:Ç X Á σ H s)(k:∀b u,s.heap.get? b=some u->h'.get? b=some u)(hp:s.heap.objs.size<=a)(new:Ú X.prog X.w (upd H a o) h' a o):Ç X Á σ (upd H a o) {s with heap:=h',toks:=t'}:=I.un (Un.laid k hp (I.hok.fresh hp)) (I.hok.laid k hp new)
theorem Ç.write(I:Ç X Á σ H s)(mu:Mut (H x))(he:e=x\/H e=some (.own x))(k:∀b u,b≠e->s.heap.get? b=some u->h'.get? b=some u)(AK:∃u,h'.get? e=some u)(new:Ú X.prog X.w (upd H x o) h' x o):Ç X Á σ (upd H x o) {s with heap:=h',toks:=t'}:=I.un (Un.write mu he k AK) (I.hok.write mu he k AK new)
theorem Ç.pins_of(I:Ç X Á σ H s)(h:∀p∈gS,s.heap.get? p.1=some p.2/\H p.1=none/\p.1≠X.env.locals/\p.1∉X.fs/\∀v,p.2.data≠.cell v):Ç X gS σ H s:=⟨I.ok,I.os,I.bare,I.base,I.loc,I.cell,I.free,I.freeC,λp hp=>(Ę.mp hp).elim (λz=>I.pin p (Zaw _ z)) (h p),I.hok,I.len⟩
theorem vJ{N:ó}(hN:N.Nodup){i j:Nat}(a:N[i]?=some x)(b:N[j]?=some x):i=j:=by obtain⟨h1,e1⟩:=ĵ.mp a;obtain⟨h2,e2⟩:=ĵ.mp b;exact(List.getElem_inj hN).mp (e1.trans e2.symm)
theorem jK(I:Ç X Á σ H s)(hN:X.N.Nodup)(hi:X.N[i]?=some x)(hx:Loc X.env.scope x)(r:Ô v u)(h:∀s',Ç X Á (σ.set i (some v)) H s'->(∃a,Heap.SameBut a s.heap s'.heap/\(a=X.env.locals\/X.env.cells.lookup x=some a))->Q () s')(hf:X.fn x=true\/X.env.scope.names.lookup x=some .local:=by first|exact .inl rfl|exact .inr rfl|assumption):wpAny M A (storeName X.env x u) Q E s:=by
 obtain⟨m,hn,hl⟩:=id I.loc;have IG:(X.env.scope.kind==.class||(X.env.scope.kind==.module&&X.env.locals !=X.env.globals))=false:=by rw[I.ok.kind];rfl
 have Cf:i<σ.length:=by rw[I.len];exact(ĵ.mp hi).1
 have cne:=I.cne;have tracked:∀{a:Addr}{h':Heap},(∃o,s.heap.get? a=some o/\H a=none)->Heap.SameBut a s.heap h'->ą X.prog X.w H h':=λ{a h'}ha hs b ob e=>by
  obtain⟨_,_,hfree⟩:=ha;refine(I.hok b ob e).stay (λc w' hc q=>(hs.2 c ?_).trans q) (λ_ q=>q) λ_ _ q=>q;rintro rfl;rcases hc with rfl|hc;.rw[hfree]at e;cases e
  .rw[hfree]at hc;cases hc
 rcases hx with hk|hk
 .refine wpAny_storeName_local hk hn (λh' AL hs=>?_) IG;obtain⟨oL,_,_,TR,_⟩:=id hn;refine h _ ⟨I.ok,I.os,I.bare,⟨λb o e n hb hx=>?_,λb o e n hb hx=>?_,I.base.free,λb o e hx=>?_,I.base.tups,I.base.frzs,I.base.tbls⟩,⟨_,AL,λj y v' e1 e2 e3=>?_⟩,λy c e=>?_,I.free,I.freeC,λp hp=>?_,tracked ⟨oL,TR,I.free⟩ hs,by simpa using I.len⟩ ⟨_,hs,.inl rfl⟩;.exact(hs.2 b (Ĩ (Ł (ÿ e) I.ok.above))).trans (I.base.keep b o e n hb hx)
  .obtain⟨sl,e1⟩:=I.base.slot b o e n hb hx;exact⟨sl,(hs.2 b (Ĩ (Ł (ÿ e) I.ok.above))).trans e1⟩
  .obtain⟨o',e1⟩:=I.base.there b o e hx;exact⟨o',(hs.2 b (Ĩ (Ł (ÿ e) I.ok.above))).trans e1⟩
  .by_cases hj:j=i;.subst hj;rw[hi]at e1;cases e1;rw[Zay Cf]at e2;cases e2;exact⟨u,r,.inl ⟨hk,by simp⟩⟩
   .rw[List.getElem?_set_ne (Ne.symm hj)]at e2;obtain⟨u',r',q⟩:=hl j y v' e1 e2 e3;refine⟨u',r',?_⟩;rcases q with⟨k,e⟩|⟨k,c,e,z⟩;.refine .inl ⟨k,?_⟩;have:y≠x:=λe=>hj (vJ hN e1 (e▸hi));simp[this,e]
    .exact .inr ⟨k,c,e,z.sameBut hs (cne y c e)⟩
  .obtain⟨w',z⟩:=I.cell y c e;exact⟨w',z.sameBut hs (cne y c e)⟩
  .obtain⟨e,n,ne,nf,d⟩:=I.pin p hp;exact⟨(hs.2 p.1 ne).trans e,n,ne,nf,d⟩
 .have qa:X.fn x=true:=by
   rcases hf with z|z;.exact z
   .rw[z]at hk;cases hk
  obtain⟨c,hc⟩:=I.ok.has x (.inl hk);obtain⟨w',z⟩:=I.cell x c hc;refine wpAny_storeName_cell I.ok.kind hk hc z (λh' bg hs=>?_);obtain⟨oc,Fn,IH⟩:=id z;refine h {s with heap:=h'} ⟨I.ok,I.os,I.bare,⟨λb o e n hb hx=>?_,λb o e n hb hx=>?_,I.base.free,λb o e hx=>?_,I.base.tups,I.base.frzs,I.base.tbls⟩,⟨m,hn.sameBut hs (Ne.symm (cne x c hc)),λj y v' e1 e2 e3=>?_⟩,λy c' e=>?_,I.free,I.freeC,λp hp=>?_,tracked ⟨oc,Fn,I.freeC x c hc⟩ hs,by simpa using I.len⟩ ⟨c,hs,.inr hc⟩;.exact(hs.2 b (Ĩ (Ł (ÿ e) (I.ok.cab x c qa hc)))).trans (I.base.keep b o e n hb hx)
  .obtain⟨sl,e1⟩:=I.base.slot b o e n hb hx;exact⟨sl,(hs.2 b (Ĩ (Ł (ÿ e) (I.ok.cab x c qa hc)))).trans e1⟩
  .obtain⟨o',e1⟩:=I.base.there b o e hx;exact⟨o',(hs.2 b (Ĩ (Ł (ÿ e) (I.ok.cab x c qa hc)))).trans e1⟩
  .by_cases hj:j=i;.subst hj;rw[hi]at e1;cases e1;rw[Zay Cf]at e2;cases e2;exact⟨u,r,.inr ⟨.inl hk,c,hc,bg⟩⟩
   .rw[List.getElem?_set_ne (Ne.symm hj)]at e2;obtain⟨u',r',q⟩:=hl j y v' e1 e2 e3;refine⟨u',r',?_⟩;rcases q with q|⟨k,c',e,z'⟩;.exact .inl q
    .refine .inr ⟨k,c',e,z'.sameBut hs ?_⟩;rintro rfl;exact hj (vJ hN e1 (I.ok.inj _ _ _ e hc▸hi))
  .by_cases Fu:c'=c;.subst Fu;exact⟨_,bg⟩
   .obtain⟨w2,z2⟩:=I.cell y c' e;exact⟨w2,z2.sameBut hs Fu⟩
  .obtain⟨e,n,ne,nf,d⟩:=I.pin p hp;refine⟨(hs.2 p.1 ?_).trans e,n,ne,nf,d⟩;intro q;rw[q,Fn]at e;have q':oc=p.2:=ŗ e;exact d w' (by rw[<-q'];exact IH)
theorem gC(I:Ç X Á σ H s)(hN:X.N.Nodup)(hi:X.N[i]?=some x)(hx:Loc X.env.scope x)(r:Ô v u)(h:∀s',Ç X Á (σ.set i (some v)) H s'->Q () s')(hf:X.fn x=true\/X.env.scope.names.lookup x=some .local:=by first|exact .inl rfl|exact .inr rfl|assumption):wpAny M A (storeName X.env x u) Q E s:=jK I hN hi hx r (λs' I' _=>h s' I') hf
theorem Ç.call'(I:Ç X Á σ H s)(ho:s'.os=s.os)(u:Un (ė X.stack) ch H H' s.heap s'.heap)(hok:ą X.prog X.w H' s'.heap)(hg:AllBare s'.gens)(oP:∀b∈ch,(b∈X.ex\/X.s₀.heap.objs.size<=b)/\b≠X.env.locals/\(∀x c,X.env.cells.lookup x=some c->c≠b)/\∀p∈X.pn++Á,p.1≠b):Ç X Á σ H' s':=by obtain⟨h',g',d',t',o'⟩:=s';have e:o'=s.os:=ho;subst e;exact I.call (g':=g') (t':=t') (d':=d') u hok hg oP
end
abbrev XK:=Value->Option Addr->Hp->Prop
abbrev St:=List (Option V)
abbrev VK:=V->Hp->Prop
abbrev TE:=St->Hp->VK->Prop
abbrev TT:=St->Hp->(Bool->Hp->Prop)->Prop
abbrev TA:=St->Hp->(List V->Hp->Prop)->Prop
structure Ŕ where
 nx:St->Hp->Prop
 rt:VK
 bk:St->Hp->Prop:=λ_ _=>False
 ct:St->Hp->Prop:=λ_ _=>False
abbrev TS:=Ŕ->St->Hp->Prop
def EP(X:Cx)(Á:T7)(σ:St)(Q:VK)(u:Value)(s':Shared):Prop:=∃v H',Ç X Á σ H' s'/\Ô v u/\Q v H'
def TP(X:Cx)(Á:T7)(σ:St)(Q:Bool->Hp->Prop)(b:Bool)(s':Shared):Prop:=∃H',Ç X Á σ H' s'/\Q b H'
def AP(X:Cx)(Á:T7)(σ:St)(Q:List V->Hp->Prop)(us:ā)(s':Shared):Prop:=∃vs H',Ç X Á σ H' s'/\Ï vs us/\Q vs H'
def SP(X:Cx)(Á:T7)(D:Ŕ)(f:Flow)(s':Shared):Prop:=match f with|.next=>∃ah H',Ç X Á ah H' s'/\D.nx ah H'|.brk=>∃ah H',Ç X Á ah H' s'/\D.bk ah H'|.cont=>∃ah H',Ç X Á ah H' s'/\D.ct ah H'|.ret u=>∃v ah H',Ç X Á ah H' s'/\Ô v u/\D.rt v H'
def PE(X:Cx)(e:Expr)(t:TE):Prop:=∀Á s(σ:St)H Q,Ç X Á σ H s->t σ H Q->wpAny (model X.prog X.w) X.A (eval e X.env) (EP X Á σ Q) X.xe s
def PT(X:Cx)(e:Expr)(t:TT):Prop:=∀Á s(σ:St)H Q,Ç X Á σ H s->t σ H Q->wpAny (model X.prog X.w) X.A (isTrue e X.env (eval e X.env)) (TP X Á σ Q) X.xe s
def PW(X:Cx)(e:Expr)(t:TT):Prop:=∀whole Á s(σ:St)H Q,Ç X Á σ H s->t σ H Q->wpAny (model X.prog X.w) X.A (isTrue e X.env whole) (TP X Á σ Q) X.xe s
theorem PW.pt(h:PW X e t):PT X e t:=h _
def PA(X:Cx)(es:Qa3)(t:TA):Prop:=∀pos Á s(σ:St)H Q,Ç X Á σ H s->t σ H Q->wpAny (model X.prog X.w) X.A (spliced (backTo pos (starEach es X.env))) (AP X Á σ Q) X.xe s
def PS(X:Cx)(st:Stmt)(t:TS):Prop:=∀Á s(σ:St)H D,Ç X Á σ H s->t D σ H->wpAny (model X.prog X.w) X.A (exec st X.env) (SP X Á D) X.xe s
def ľ(X:Cx)(st:List Stmt)(t:TS):Prop:=∀Á s(σ:St)H D,Ç X Á σ H s->t D σ H->wpAny (model X.prog X.w) X.A (execs st X.env) (SP X Á D) X.xe s
theorem Þ{Q Q':α->Shared->Prop}(h:wpAny M A t Q E s)(hQ:∀a s,Q a s->Q' a s):wpAny M A t Q' E s:=wpAny_mono h hQ λ_ _ x=>x
section
variable{X:Cx}
theorem bin(ha:PE X a ta)(hb:PE X b tb){σ:St}{R:V->V->Hp->Prop}(I:Ç X Á σ H s)(h:ta σ H λx H1=>tb σ H1 λy H2=>R x y H2){α:Type}{Q:α->Shared->Prop}{f:Value->Value->Sem α}(hf:∀v u s2 x y H2,Ç X Á σ H2 s2->Ô x v->Ô y u->R x y H2->wpAny (model X.prog X.w) X.A (f v u) Q X.xe s2):wpAny (model X.prog X.w) X.A (eval a X.env) (λv s₁=>wpAny (model X.prog X.w) X.A (eval b X.env) (λu s₂=>wpAny (model X.prog X.w) X.A (f v u) Q X.xe s₂) X.xe s₁) X.xe s:=by refine Þ (ha Á s σ H _ I h) λv s1=>?_;rintro⟨x,H1,I1,r1,q1⟩;refine Þ (hb Á s1 σ H1 _ I1 q1) λu s2=>?_;rintro⟨y,H2,I2,r2,q2⟩;exact hf v u s2 x y H2 I2 r1 r2 q2
inductive Z0b(i:Nat)(σ:St)(H:Hp)(Q:VK):Prop|mk:∀v,(σ[i]?=some (some v))->(Q v H)->Z0b i σ H Q
def vK(i:Nat):TE:=λσ H Q=>Z0b i σ H Q
def tC(v:V):TE:=λ_ H Q=>Q v H
abbrev ź(x:Str):Prop:=(x==("__debug__":Str))=false
theorem ym{pos:Pos}(hN:X.N[i]?=some x)(hv:Vis X.env.scope x)(hd:ź x:=by decide)(eI:(x==("__classdict__":Str))=false:=by decide):PE X (.Name x pos) (vK i):=by
 intro Á s σ H Q I h;obtain⟨v,e,h⟩:=h;obtain⟨m,hn,hl⟩:=I.loc;obtain⟨u,r,l⟩:=hl i x v hN e hv;have fin:EP X Á σ Q u s:=⟨v,H,I,r,h⟩;rcases l with⟨hk,hm⟩|⟨hk,c,hc,hcell⟩;.exact wpAny_Name (wpAny_loadName_local I.ok.kind hk hn hm fin) hd
 .rcases hk with hk|hk;.exact wpAny_Name (wpAny_loadName_cell I.ok.kind hk hc hcell fin) hd
  .exact wpAny_Name (wpAny_loadName_free I.ok.kind hk hc hcell fin eI) hd
theorem az{i j pos}:PE X (.Constant (.int i) j pos) (tC (.int i)):=λ_ _ _ H _ I h=>wpAny_Constant_int ⟨.int i,H,I.tok _,⟨_,rfl⟩,h⟩
theorem gD{b j pos}:PE X (.Constant (.bool b) j pos) (tC (.bl b)):=λ_ _ _ H _ I h=>Constant_bool ⟨.bl b,H,I,rfl,h⟩
theorem j9{j pos}:PE X (.Constant .none j pos) (tC .non):=λ_ _ _ H _ I h=>Constant_none ⟨.non,H,I,rfl,h⟩
theorem pI{x j pos}:PE X (.Constant (.str x) j pos) (tC (.str x)):=λ_ _ _ H _ I h=>Calls.Constant_str ⟨.str x,H,I.tok _,⟨_,rfl⟩,h⟩
def Gl(X:Cx)(x:Str):Prop:=X.env.kindOf x=some .globalImplicit
theorem jL{σ:St}(I:Ç X Á σ H s)(hg:Gl X x)(hm:X.mg x=some u)(h:Q u s)(hd:ź x:=by decide):wpAny (model X.prog X.w) X.A (eval (.Name x pos) X.env) Q E s:=Calls.Name_function_global I.ok.kind hg (Calls.loadGlobal_global (by rw[I.ok.glob];exact I.mod.glob.keeps I.bk) hm h) hd
theorem kJ{E:TQ}{σ:St}{u:Value}{pos:Pos}{Q:TQ}(I:Ç X Á σ H s)(hg:Gl X x)(hm:X.mg x=none)(hv:bootBuiltins x=some u)(h:Q u s)(hn:x≠"__name__":=by decide)(hd:ź x:=by decide):wpAny (model X.prog X.w) X.A (eval (.Name x pos) X.env) Q E s:=by obtain⟨mb,h1,h2⟩:=I.mod.blt;exact Calls.Name_function_global I.ok.kind hg (Calls.loadGlobal_builtin (by rw[I.ok.glob];exact I.mod.glob.keeps I.bk) hm (by rw[I.ok.blt];exact h1.keeps I.bk) ((h2 x hn).trans hv) h) hd
theorem cg(hg:Gl X x)(hm:X.mg x=some u)(r:Ô v u)(hd:ź x:=by decide):PE X (.Name x pos) (tC v):=λ_ _ _ H _ I h=>jL I hg hm ⟨v,H,I,r,h⟩ hd
theorem dM{pos:Pos}(hg:Gl X x)(hm:X.mg x=none)(hv:bootBuiltins x=some u)(r:Ô v u)(hn:x≠"__name__":=by decide)(hd:ź x:=by decide):PE X (.Name x pos) (tC v):=λ_ _ _ H _ I h=>kJ I hg hm hv ⟨v,H,I,r,h⟩ hn hd
def PC(X:Cx)(op:CmpOp)(a b:Expr)(t:TE):Prop:=∀Á s(σ:St)H Q,Ç X Á σ H s->t σ H Q->wpAny (model X.prog X.w) X.A (eval a X.env) (λv s₁=>wpAny (model X.prog X.w) X.A (eval b X.env) (λu s₂=>wpAny (model X.prog X.w) X.A (compareOp op v u) (EP X Á σ Q) X.xe s₂) X.xe s₁) X.xe s
def tB(t:TE):TT:=λσ H Q=>t σ H λx H1=>∃c,x=.bl c/\Q c H1
theorem PJ(h:PC X op a b t)(h1:behindInMarks op b=false:=by first|exact nobehind _ Û Û|rfl):PT X (.Compare a [op] [b] pos) (tB t):=by intro Á s σ H Q I hw;refine wpAny_isTrue_Compare1 (Þ (h Á s σ H _ I hw) λv s1 h1=>Þ h1 λu s2 h2=>Þ h2 λc s3=>?_) h1;rintro⟨x,H1,I1,r1,q1⟩;obtain⟨d,rfl,q⟩:=q1;cases r1;exact wpAny_truthy_bool ⟨H1,I1,q⟩
theorem cA(h:PE X e t)(he:∀whole,isTrue e X.env whole=(do let v<-whole;standAt e.pos;holding [v] (truthy v)):=by intro _;rfl):PT X e (tB t):=by intro Á s σ H Q I hw;refine isTrue_plain (Þ (h Á s σ H _ I hw) λv s1=>?_) (he _);rintro⟨x,H1,I1,r1,q1⟩;obtain⟨d,rfl,q⟩:=q1;cases r1;exact wpAny_truthy_bool ⟨H1,I1,q⟩
def PK(t u:TT):TT:=λσ H Q=>t σ H λc H1=>if c=true then u σ H1 Q else Q false H1
def tOr(t u:TT):TT:=λσ H Q=>t σ H λc H1=>if c=true then Q true H1 else u σ H1 Q
def MP(t:TT):TT:=λσ H Q=>t σ H λc H1=>Q (!c) H1
theorem lK(ha:PT X a tA):PW X (.BoolOp .And [a] pos) tA:=by intro wh Á s σ H Q I h;refine isTrue_and (Þ (ha Á s σ H Q I h) λc s1 e=>?_);cases c with|true=>exact isTrue_and_nil e;|false=>exact e
theorem gO(ha:PT X a tA):PW X (.BoolOp .Or [a] pos) tA:=by intro wh Á s σ H Q I h;refine isTrue_or (Þ (ha Á s σ H Q I h) λc s1 e=>?_);cases c with|false=>exact isTrue_or_nil e;|true=>exact e
theorem pJ(ha:PT X a tA)(hb:PW X (.BoolOp .And (b::rest) pos) FA):PW X (.BoolOp .And (a::b::rest) pos) (PK tA FA):=by intro wh Á s σ H Q I h;refine isTrue_and (Þ (ha Á s σ H _ I h) λc s1=>?_);rintro⟨H1,I1,q1⟩;cases c with|true=>exact hb wh Á s1 σ H1 Q I1 q1;|false=>exact⟨H1,I1,q1⟩
theorem gU(ha:PT X a tA)(hb:PW X (.BoolOp .Or (b::rest) pos) FA):PW X (.BoolOp .Or (a::b::rest) pos) (tOr tA FA):=by intro wh Á s σ H Q I h;refine isTrue_or (Þ (ha Á s σ H _ I h) λc s1=>?_);rintro⟨H1,I1,q1⟩;cases c with|true=>exact⟨H1,I1,q1⟩;|false=>exact hb wh Á s1 σ H1 Q I1 q1
theorem bH(ha:PT X a tA):PT X (.UnaryOp .Not a pos) (MP tA):=by intro Á s σ H Q I h;exact isTrue_not (ha Á s σ H (λc H1=>Q (!c) H1) I h)
def Ka(ta tb:TE):TE:=λσ H Q=>ta σ H λx H1=>∃c,x=.bl c/\if c=true then tb σ H1 Q else Q (.bl false) H1
def MT(ta:TE):TE:=λσ H Q=>ta σ H λx H1=>∃c,x=.bl c/\Q (.bl (!c)) H1
theorem fD{op}(h:PE X a t):PE X (.BoolOp op [a] pos) t:=λÁ s σ H Q I hw=>BoolOp_one (h Á s σ H Q I hw)
theorem cO(ha:PE X a ta)(hb:PE X (.BoolOp .And (b::rest) pos) tb):PE X (.BoolOp .And (a::b::rest) pos) (Ka ta tb):=by intro Á s σ H Q I h;refine BoolOp_and (Þ (ha Á s σ H _ I h) λv s1=>?_);rintro⟨x,H1,I1,r1,q1⟩;obtain⟨c,rfl,q1⟩:=q1;cases r1;refine wpAny_truthy_bool ?_;cases c with|true=>exact hb Á s1 σ H1 Q I1 q1;|false=>exact⟨.bl false,H1,I1,rfl,q1⟩
theorem Ef(ha:PE X a ta):PE X (.UnaryOp .Not a pos) (MT ta):=by intro Á s σ H Q I h;refine UnaryOp_ (Þ (ha Á s σ H _ I h) λv s1=>?_);rintro⟨x,H1,I1,r1,q1⟩;obtain⟨c,rfl,q1⟩:=q1;cases r1;exact not_of (wpAny_truthy_bool ⟨.bl (!c),H1,I1,rfl,q1⟩)
def tIf(t:TT)(ta tb:TE):TE:=λσ H Q=>t σ H λc H1=>if c=true then ta σ H1 Q else tb σ H1 Q
theorem pK(hc:PT X c tA)(ha:PE X a ta)(hb:PE X b tb):PE X (.IfExp c a b pos) (tIf tA ta tb):=by intro Á s σ H Q I h;refine wpAny_IfExp (Þ (hc Á s σ H _ I h) λd s1=>?_);rintro⟨H1,I1,q1⟩;cases d with|true=>exact ha Á s1 σ H1 Q I1 q1;|false=>exact hb Á s1 σ H1 Q I1 q1
end
def Ê(K:Frag)(H:Hp)(a:Addr)(xs:List V):Prop:=Rd H a (.lst xs)\/∃o Æ n,K.lookup a=some o/\o.cls=.type "list"/\o.dict=none/\o.data=.seq Æ n/\Æ.size<=sizeLine/\Ï xs Æ.toList
def Î(K:Frag)(H:Hp)(a:Addr)(xs:List V):Prop:=Rd H a (.tup xs)\/∃o Æ n,K.lookup a=some o/\o.cls=.type "tuple"/\o.data=.seq Æ n/\Æ.size<=sizeLine/\Ï xs Æ.toList
def PL:Value->Option V|.none=>some .non|.bool b=>some (.bl b)|.int i _=>some (.int i)|.str x _=>some (.str x)|.bytes b _=>some (.byt b)|.float b _=>some (.flt b)|.ref a=>some (.ref a)|.type n=>some (.ty n)|_=>none
theorem Ô.abs(r:Ô x u):PL u=some x:=by cases x with|non=>cases r;rfl;|bl _=>cases r;rfl;|int _=>obtain⟨t,rfl⟩:=r;rfl;|str _=>obtain⟨t,rfl⟩:=r;rfl;|byt _=>obtain⟨t,rfl⟩:=r;rfl;|flt _=>obtain⟨t,rfl⟩:=r;rfl;|ref _=>cases r;rfl;|ty _=>cases r;rfl
theorem Ô.inj(r:Ô x u)(q:Ô y u):x=y:=ŗ (r.abs.symm.trans q.abs)
theorem Ï.inj:∀{xs ys:List V}{us:ā},Ï xs us->Ï ys us->xs=ys|_,_,_,.nil,.nil=>rfl|_,_,_,.cons r t,.cons r' t'=>by rw[r.inj r',Ï.inj t t']
section
variable{σ:St}
theorem Ê.of{K:Frag}(h:H a=some (.lst xs)):Ê K H a xs:=.inl (.inl h)
theorem Î.of{K:Frag}(h:H a=some (.tup xs)):Î K H a xs:=.inl (.inl h)
theorem Ç.list(I:Ç X Á σ H s)(h:Ê X.K H a xs):∃Æ:ā,Ï xs Æ/\PlainL s.heap a Æ.toArray/\xs.length<=sizeLine:=by
 rcases h with h|⟨o,Æ,n,hk,hc,hd,hs,hz,r⟩;.obtain⟨z,Æ,n,r,e⟩:=h.ok I.hok;exact⟨Æ,r,⟨_,n,e,rfl,rfl,rfl⟩,z⟩
 .refine⟨Æ.toList,r,⟨o,n,I.kIn a o hk,hc,hd,by simpa using hs⟩,?_⟩;have e:=r.length;simp only[Array.length_toList]at e;lia
theorem Ç.tuple(I:Ç X Á σ H s)(h:Î X.K H a xs):∃Æ:ā,Ï xs Æ/\IsTup s.heap a Æ.toArray/\xs.length<=sizeLine:=by
 rcases h with h|⟨o,Æ,n,hk,hc,hs,hz,r⟩;.obtain⟨z,Æ,r,p⟩:=h.ok I.hok;exact⟨Æ,r,p,z⟩
 .refine⟨Æ.toList,r,⟨o,I.kIn a o hk,hc,n,by simpa using hs⟩,?_⟩;have e:=r.length;simp only[Array.length_toList]at e;lia
theorem Ç.list_inj(I:Ç X Á σ H s)(h:Ê X.K H a xs)(h':Ê X.K H a ys):xs=ys:=by
 obtain⟨Æ,r,⟨o,n,e,_,_,d⟩,_⟩:=I.list h;obtain⟨its',r',⟨o',n',e',_,_,d'⟩,_⟩:=I.list h';rw[e]at e';cases e';rw[d]at d';injection d' with d1 _;have:Æ=its':=by simpa using congrArg Array.toList d1
 subst this;exact r.inj r'
theorem Ç.tuple_inj(I:Ç X Á σ H s)(h:Î X.K H a xs)(h':Î X.K H a ys):xs=ys:=by
 obtain⟨Æ,r,⟨o,e,_,n,d⟩,_⟩:=I.tuple h;obtain⟨its',r',⟨o',e',_,n',d'⟩,_⟩:=I.tuple h';rw[e]at e';cases e';rw[d]at d';injection d' with d1 _;have:Æ=its':=by simpa using congrArg Array.toList d1
 subst this;exact r.inj r'
end
abbrev Cx.wish(X:Cx)(E:TQ):Cx:={X with xe:=E}
abbrev Cx.nox(X:Cx):Cx:=X.wish λ_ _=>False
theorem Cx.Ok.wish{X:Cx}(ok:X.Ok)(E:TQ):(X.wish E).Ok:=⟨ok.mod,ok.kind,ok.glob,ok.blt,ok.above,ok.inj,ok.has,ok.cab,ok.hd,ok.frames,ok.stk,ok.exf,ok.bs,ok.bsz,ok.noex,ok.exfs,ok.funs,ok.frf⟩
theorem Cx.Ok.unwish{X:Cx}(ok:(X.wish E).Ok):X.Ok:=⟨ok.mod,ok.kind,ok.glob,ok.blt,ok.above,ok.inj,ok.has,ok.cab,ok.hd,ok.frames,ok.stk,ok.exf,ok.bs,ok.bsz,ok.noex,ok.exfs,ok.funs,ok.frf⟩
section
variable{σ:St}
theorem Ç.wish(I:Ç X Á σ H s)(E:TQ):Ç (X.wish E) Á σ H s:=⟨I.ok.wish E,I.os,I.bare,I.base,I.loc,I.cell,I.free,I.freeC,I.pin,I.hok,I.len⟩
theorem Ç.unwish(I:Ç (X.wish E) Á σ H s):Ç X Á σ H s:=⟨I.ok.unwish,I.os,I.bare,I.base,I.loc,I.cell,I.free,I.freeC,I.pin,I.hok,I.len⟩
theorem SP.unwish(h:SP (X.wish E) Á D f s'):SP X Á D f s':=by cases f with|next=>obtain⟨ah,H',I,q⟩:=h;exact⟨ah,H',I.unwish,q⟩;|brk=>obtain⟨ah,H',I,q⟩:=h;exact⟨ah,H',I.unwish,q⟩;|cont=>obtain⟨ah,H',I,q⟩:=h;exact⟨ah,H',I.unwish,q⟩;|ret u=>obtain⟨v,ah,H',I,r,q⟩:=h;exact⟨v,ah,H',I.unwish,r,q⟩
theorem ľ.nox{st:List Stmt}(h:ľ X.nox st t):ľ X st t:=λÁ s σ H D I hw=>wpAny_mono (h Á s σ H D (I.wish _) hw) (λ_ _ q=>q.unwish) λ_ _ z=>False.elim z
end
section
variable{st:Stmt}
def Eg:TS:=λD σ H=>D.nx σ H
def Ie(t u:TS):TS:=λD σ H=>t {D with nx:=u D} σ H
theorem bj:ľ X [] Eg:=λ_ _ σ H _ I h=>wpAny_execs_nil ⟨σ,H,I,h⟩
theorem aC(h1:PS X st t)(h2:ľ X rest u):ľ X (st::rest) (Ie t u):=by intro Á s σ H D I h;refine wpAny_execs_cons (Þ (h1 Á s σ H {D with nx:=u D} I h) λf s1 q=>?_);cases f with|next=>obtain⟨ah,H',I',q⟩:=q;exact h2 Á s1 ah H' D I' q;|ret v=>exact q;|brk=>exact q;|cont=>exact q
theorem aF(h1:PS X st t):ľ X [st] t:=by intro Á s σ H D I h;refine wpAny_execs_cons (Þ (h1 Á s σ H D I h) λf s1 q=>?_);cases f with|next=>exact wpAny_execs_nil q;|ret v=>exact q;|brk=>exact q;|cont=>exact q
theorem Ç.quiet{σ:St}(I:Ç X Á σ H s):interactive X.env=false:=by simp[interactive,I.ok.kind]
def N5(te:TE):TS:=λD σ H=>te σ H λ_ H1=>D.nx σ H1
theorem cB(he:PE X e te)(hs:swapsWith e none pos.line X.env=pure false:=by rfl):PS X (.Expr e pos) (N5 te):=by intro Á s σ H D I h;exact wpAny_Expr_any (Þ (he Á s σ H _ I h) λv s1=>by rintro⟨x,H1,I1,r1,q1⟩;exact⟨σ,H1,I1,q1⟩) I.quiet hs
def KQ(te:TE):TS:=λD σ H=>te σ H D.rt
theorem aQ(he:PE X e te):PS X (.Return (some e) pos) (KQ te):=by intro Á s σ H D I h;exact wpAny_Return_some (Þ (he Á s σ H _ I h) λv s1=>by rintro⟨x,H1,I1,r1,q1⟩;exact⟨x,σ,H1,I1,r1,q1⟩)
def N6(c:TT)(t u:TS):TS:=λD σ H=>c σ H λb H1=>if b=true then t D σ H1 else u D σ H1
theorem bU(hc:PT X c tc)(ha:ľ X a t)(hb:ľ X b u):PS X (.If c a b pos) (N6 tc t u):=by intro Á s σ H D I h;refine wpAny_If (Þ (hc Á s σ H _ I h) λd s1=>?_);rintro⟨H1,I1,q1⟩;cases d with|true=>exact ha Á s1 σ H1 D I1 q1;|false=>exact hb Á s1 σ H1 D I1 q1
def Eh:TS:=λ_ _ _=>False
theorem lM:PS X st Eh:=λ_ _ _ _ _ _ h=>h.elim
theorem mW:ľ X II Eh:=λ_ _ _ _ _ _ h=>h.elim
end
abbrev TG:=V->St->Hp->(St->Hp->Prop)->Prop
abbrev TGs:=List V->St->Hp->(St->Hp->Prop)->Prop
def PG(X:Cx)(target:Expr)(t:TG):Prop:=∀Á s(σ:St)H v u Q,Ç X Á σ H s->Ô v u->t v σ H Q->wpAny (model X.prog X.w) X.A (assign target X.env u) (λ_ s'=>∃ah H',Ç X Á ah H' s'/\Q ah H') X.xe s
def PGs(X:Cx)(ts:Qa3)(t:TGs):Prop:=∀Á s(σ:St)H vs us Q,Ç X Á σ H s->Ï vs us->t vs σ H Q->wpAny (model X.prog X.w) X.A (assignInOrder ((assignEach ts X.env).map (·.2)) us) (λ_ s'=>∃ah H',Ç X Á ah H' s'/\Q ah H') X.xe s
abbrev Ci:=V->V->V->Hp->(Hp->Prop)->Prop
def Ig(X:Cx)(t:Ci):Prop:=∀Á s(σ:St)H o i v ov iv u Q,Ç X Á σ H s->Ô o ov->Ô i iv->Ô v u->t o i v H Q->wpAny (model X.prog X.w) X.A (setItem ov iv u) (λ_ s'=>∃H',Ç X Á σ H' s'/\Q H') X.xe s
abbrev TIp:=V->V->Hp->VK->Prop
def PIp(X:Cx)(op:Operator)(t:TIp):Prop:=∀Á s(σ:St)H x y v u Q,Ç X Á σ H s->Ô x v->Ô y u->t x y H Q->wpAny (model X.prog X.w) X.A (inplaceOp op v u) (EP X Á σ Q) X.xe s
section
variable{pos:Pos}
def bO(i:Nat):TG:=λv σ H Q=>Q (σ.set i (some v)) H
theorem bJ(hN:X.N.Nodup)(hi:X.N[i]?=some x)(hx:Loc X.env.scope x)(hf:X.fn x=true\/X.env.scope.names.lookup x=some .local:=by first|exact .inl rfl|exact .inr rfl|assumption):PG X (.Name x pos) (bO i):=by intro Á s σ H v u Q I r h;exact wpAny_assign_Name (gC I hN hi hx r (λs' I'=>⟨_,H,I',h⟩) hf)
def mX:TGs:=λvs σ H Q=>vs=[]/\Q σ H
def cN(t:TG)(u:TGs):TGs:=λvs σ H Q=>∃v r,vs=v::r/\t v σ H λah H'=>u r ah H' Q
theorem aY:PGs X [] mX:=by intro Á s σ H vs us Q I r h;obtain⟨e,h⟩:=h;exact assignInOrder_nil ⟨σ,H,I,h⟩
theorem aA(h1:PG X e t)(h2:PGs X es u)(hs:(assignEach (e::es) X.env).map (·.2)=assign e X.env::(assignEach es X.env).map (·.2):=by rfl):PGs X (e::es) (cN t u):=by intro Á s σ H vs us Q I r h;obtain⟨v,vr,e1,h⟩:=h;subst e1;cases r with|cons r rr=>rw[hs];refine assignInOrder_cons (Þ (h1 Á s σ H _ _ _ I r h) λ_ s1=>?_);rintro⟨oQ,H1,I1,q1⟩;exact h2 Á s1 oQ H1 _ _ Q I1 rr q1
inductive Z0n(K:Frag)(n:Nat)(t:TGs)(v:V)(σ:St)(H:Hp)(Q:St->Hp->Prop):Prop|mk:∀a xs,(v=.ref a)->(Î K H a xs)->(xs.length=n)->(t xs σ H Q)->Z0n K n t v σ H Q
def lN(K:Frag)(n:Nat)(t:TGs):TG:=λv σ H Q=>Z0n K n t v σ H Q
theorem cj{k:Nat}(hc:X.calm=true)(h:PGs X es t)(hn:(assignEach es X.env).length=n:=by rfl)(cE:(assignEach es X.env).findIdx? (·.1)=none:=by rfl):PG X (.Tuple es k pos) (lN X.K n t):=by intro Á s σ H v u Q I r hw;obtain⟨a,xs,e1,hq,hl,hw⟩:=hw;subst e1;cases r;obtain⟨Æ,rv,ht,hz⟩:=I.tuple hq;refine assign_Tuple_tuple (I.ok.hd hc) ht (by simp[hn,<-hl,rv.length]) cE λh' hx=>?_;have I1:Ç X Á σ H {s with heap:=h'}:=I.kept (t':=s.toks) λb o e=>hx b o (Ĩ (ÿ e)) e;exact h Á _ σ H xs _ Q I1 (by simpa using rv) hw
def PN(to ti:TE)(t:Ci):TG:=λv σ H Q=>to σ H λo H1=>ti σ H1 λi H2=>t o i v H2 λH3=>Q σ H3
theorem mY(ho:PE X o to)(hi:PE X i ti)(hs:Ig X t)(ha:∀v,assign (.Subscript o i pos) X.env v=(do
   let ov<-holding [v] (eval o X.env)let iv<-holding [v,ov] (eval i X.env)standAt pos
   holding [v,ov,iv] (setItem ov iv v)release [v,ov,iv] []):=by intro _;rfl):PG X (.Subscript o i pos) (PN to ti t):=by intro Á s σ H v u Q I r h;rw[ha];refine Å (wpAny_holding (Þ (ho Á s σ H _ I h) λov s1=>?_));rintro⟨x,H1,I1,r1,q1⟩;refine Å (wpAny_holding (Þ (hi Á s1 σ H1 _ I1 q1) λiv s2=>?_));rintro⟨y,H2,I2,r2,q2⟩;refine Å (wpAny_standAt (Å (wpAny_holding (Þ (hs Á s2 σ H2 x y v ov iv u _ I2 r1 r2 r q2) λ_ s3=>?_))));rintro⟨H3,I3,q3⟩;exact wpAny_release ⟨σ,H3,I3,q3⟩
def yo(te:TE)(g:TG):TS:=λD σ H=>te σ H λx H1=>g x σ H1 D.nx
theorem d7(he:PE X e te)(hg:PG X tg g)(hs:swapsWithSole [tg] e pos.line X.env=pure false:=by rfl)(hw:swappedStores [tg] e X.env=pure none:=by rfl)(h1:(assignEach [tg] X.env).map (·.2)=[assign tg X.env]:=by rfl):PS X (.Assign [tg] e pos) (yo te g):=by intro Á s σ H D I h;refine wpAny_Assign_stores (Þ (he Á s σ H _ I h) λv s1=>?_) hs hw;rintro⟨x,H1,I1,r1,q1⟩;rw[h1];exact Þ (hg Á s1 σ H1 x v _ I1 r1 q1) λ_ s2 q=>q
theorem mZ(hN:X.N.Nodup)(hi:X.N[i]?=some x)(hx:Loc X.env.scope x)(he:PE X e te)(hs:swapsWith e (some (.Name x pos')) pos.line X.env=pure false:=by rfl)(hf:X.fn x=true\/X.env.scope.names.lookup x=some .local:=by first|exact .inl rfl|exact .inr rfl|assumption):PS X (.Assign [.Name x pos'] e pos) (yo te (bO i)):=by intro Á s σ H D I h;refine wpAny_Assign_Name (Þ (he Á s σ H _ I h) λv s1=>?_) hs;rintro⟨y,H1,I1,r1,q1⟩;exact gC I1 hN hi hx r1 (λs2 I2=>⟨_,H1,I2,q1⟩) hf
def PP(i j:Nat)(ta:TA):TS:=λD σ H=>ta σ H λvs H1=>∃v w,vs=[v,w]/\D.nx ((σ.set i (some v)).set j (some w)) H1
theorem Ei{kt k2 pt2}(hc:X.calm=true)(hN:X.N.Nodup)(hi:X.N[i]?=some x)(hj:X.N[j]?=some y)(wt:i≠j)(hx:X.env.scope.names.lookup x=some .local)(hy:X.env.scope.names.lookup y=some .local)(ha:PA X [a,b] ta)(hw:swappedStores [.Tuple [.Name x px,.Name y py] kt pt] (.Tuple [a,b] k2 pt2) X.env=pure (some [x,y]))(hs:swapsWithSole [.Tuple [.Name x px,.Name y py] kt pt] (.Tuple [a,b] k2 pt2) pos.line X.env=pure false:=by rfl):PS X (.Assign [.Tuple [.Name x px,.Name y py] kt pt] (.Tuple [a,b] k2 pt2) pos) (PP i j ta):=by
 intro Á s σ H D I h;rw[exec_Assign_arm];refine Å (wpAny_standAt ?_);rw[hs];refine Å (Ý ?_);rw[Ë Û];refine Å (Tuple_ (Þ (ha _ Á s σ H _ I h) λus s1=>?_));rintro⟨vs,H1,I1,r1,q1⟩;obtain⟨v,w,e1,q1⟩:=q1;subst e1;obtain⟨u1,u2,rfl,rv,eJ⟩:∃u1 u2,us=[u1,u2]/\Ô v u1/\Ô w u2:=by cases r1 with|cons p q=>cases q with|cons p' q'=>cases q';exact⟨_,_,rfl,p,p'⟩
 refine ϣ ?_ (by show 2<=sizeLine;decide);have I2:Ç X Á σ H1 {s1 with heap:=s1.heap.push {cls:=.type "tuple",data:=.seq [u1,u2].toArray}}:=I1.kept (t':=s1.toks) λb o e=>č _ e;rw[hw];refine Å (Ý ?_);show wpAny (model X.prog X.w) X.A (do rule "assign.swapped-stores";let items<-unpackItems (.ref s1.heap.objs.size) 2 none;assignInOrder [λv=>bindName X.env y v,λv=>bindName X.env x v] items.reverse;pure Flow.next) _ _ _;refine Å (wpAny_rule (Å (unpackItems_tuple (items:=#[u1,u2]) (I.ok.hd hc) (IsTup.new s1.heap _) λh' cq=>?_)));have I3:=I2.kept (h':=h') (t':=s1.toks) λb o e=>cq b o (Ĩ (ÿ e)) e;show wpAny _ _ (assignInOrder [λv=>bindName X.env y v,λv=>bindName X.env x v] [u2,u1]>>=λ_=>pure Flow.next) _ _ _;refine Å (assignInOrder_cons (wpAny_bindName (gC I3 hN hj (.inl hy) eJ (λs2 I4=>?_) (.inr hy))));refine assignInOrder_cons (wpAny_bindName (gC I4 hN hi (.inl hx) rv (λs3 I5=>assignInOrder_nil (Ý ?_)) (.inr hx)));rw[List.set_comm _ _ (Ne.symm wt)]at I5;exact⟨_,H1,I5,q1⟩
inductive Z0d(i:Nat)(te:TE)(ti:TIp)(D:Ŕ)(σ:St)(H:Hp):Prop|mk:∀x,(σ[i]?=some (some x))->(te σ H λy H1=>ti x y H1 λz H2=>D.nx (σ.set i (some z)) H2)->Z0d i te ti D σ H
def PQ(i:Nat)(te:TE)(ti:TIp):TS:=λD σ H=>Z0d i te ti D σ H
theorem pL(hN:X.N.Nodup)(hi:X.N[i]?=some x)(hx:Loc X.env.scope x)(he:PE X e te)(ho:PIp X op ti)(hf:X.fn x=true\/X.env.scope.names.lookup x=some .local:=by first|exact .inl rfl|exact .inr rfl|assumption):PS X (.AugAssign (.Name x pos') op e pos) (PQ i te ti):=by
 intro Á s σ H D I h;obtain⟨v,e1,h⟩:=h;obtain⟨m,hn,hl⟩:=I.loc;have TU:Vis X.env.scope x:=by rcases hx with k|k;exact .inl k;exact .inr (.inl k)
 obtain⟨u,r,l⟩:=hl i x v hi e1 TU;refine wpAny_AugAssign_Name ?_;have go:wpAny (model X.prog X.w) X.A (eval e X.env) (λw s₂=>wpAny (model X.prog X.w) X.A (inplaceOp op u w) (λr s₃=>wpAny (model X.prog X.w) X.A (storeName X.env x r) (λ_=>SP X Á D .next) X.xe s₃) X.xe s₂) X.xe s:=by refine Þ (he Á s σ H _ I h) λw s1=>?_;rintro⟨y,H1,I1,r1,q1⟩;refine Þ (ho Á s1 σ H1 v y u w _ I1 r r1 q1) λz s2=>?_;rintro⟨zv,H2,I2,r2,q2⟩;exact gC I2 hN hi hx r2 (λs3 I3=>⟨_,H2,I3,q2⟩) hf
 rcases l with⟨hk,hm⟩|⟨hk,c,hc,hcell⟩;.exact wpAny_loadName_local I.ok.kind hk hn hm go
 .rcases hk with hk|hk;.exact wpAny_loadName_cell I.ok.kind hk hc hcell go
  .rcases hx with k|k;.have:X.env.scope.names.lookup x=some .free:=hk;rw[k]at this;cases this
   .have:X.env.scope.names.lookup x=some .free:=hk;rw[k]at this;cases this
def N7(to ti te:TE)(qf:V->V->Hp->VK->Prop)(FC:TIp)(qh:Ci):TS:=λD σ H=>to σ H λo H1=>ti σ H1 λi H2=>qf o i H2 λx H3=>te σ H3 λy H4=>FC x y H4 λz H5=>qh o i z H5 λH6=>D.nx σ H6
def N8(X:Cx)(t:V->V->Hp->VK->Prop):Prop:=∀Á s(σ:St)H o i ov iv Q,Ç X Á σ H s->Ô o ov->Ô i iv->t o i H Q->wpAny (model X.prog X.w) X.A (getItem ov iv) (EP X Á σ Q) X.xe s
theorem uo(ho:PE X o to)(hi:PE X i ti)(hg:N8 X qf)(he:PE X e te)(hp:PIp X op FC)(hs:Ig X qh)(ha:∀ov iv new,augStore i ov iv new=(do holding [new,ov,iv] (setItem ov iv new);release [new,ov,iv] [];pure .next):=by intros;rfl):PS X (.AugAssign (.Subscript o i wx) op e pos) (N7 to ti te qf FC qh):=by intro Á s σ H D I h;refine wpAny_AugAssign_SubscriptAny (Þ (ho Á s σ H _ I h) λov s1=>?_) ha;rintro⟨x1,H1,I1,r1,q1⟩;refine Þ (hi Á s1 σ H1 _ I1 q1) λiv s2=>?_;rintro⟨x2,H2,I2,r2,q2⟩;refine Þ (hg Á s2 σ H2 x1 x2 ov iv _ I2 r1 r2 q2) λold s3=>?_;rintro⟨x3,H3,I3,r3,q3⟩;refine Þ (he Á s3 σ H3 _ I3 q3) λv s4=>?_;rintro⟨x4,H4,I4,r4,q4⟩;refine Þ (hp Á s4 σ H4 x3 x4 old v _ I4 r3 r4 q4) λnew s5=>?_;rintro⟨x5,H5,I5,r5,q5⟩;exact Þ (hs Á s5 σ H5 x1 x2 x5 ov iv new _ I5 r1 r2 r5 q5) λ_ s6=>by rintro⟨H6,I6,q6⟩;exact⟨σ,H6,I6,q6⟩
def ipI(f:Int->Int->Int):TIp:=λx y H Q=>∃i j,x=.int i/\y=.int j/\Q (.int (f i j)) H
theorem Ej:PIp X .Add (ipI λi j=>i+j):=by intro Á s σ H x y v u Q I r1 r2 h;obtain⟨i,j,e1,e2,q⟩:=h;subst e1;subst e2;obtain⟨t,rfl⟩:=r1;obtain⟨t',rfl⟩:=r2;exact iadd_int ⟨.int _,H,I.tok _,⟨_,rfl⟩,q⟩
theorem Ek:PIp X .Sub (ipI λi j=>i-j):=by intro Á s σ H x y v u Q I r1 r2 h;obtain⟨i,j,e1,e2,q⟩:=h;subst e1;subst e2;obtain⟨t,rfl⟩:=r1;obtain⟨t',rfl⟩:=r2;exact isub_int ⟨.int _,H,I.tok _,⟨_,rfl⟩,q⟩
end
section
def KR(c:TT)(tb:TS):TS:=λD σ H=>∃W:Nat->St->Hp->Prop,(∃m,W m σ H)/\∀m σ H,W m σ H->c σ H λb H1=>if b=true then∃N,(∀ah H',N ah H'->∃m',m'<m/\W m' ah H')/\tb {D with nx:=N,ct:=N,bk:=D.nx} σ H1 else D.nx σ H1
theorem vL(hp:PassesOwn (model X.prog X.w) X.A X.env X.xe)(hc:PT X c tc)(hb:ľ X body tb):PS X (.While c body [] pos) (KR tc tb):=by intro Á s σ H D I h;obtain⟨W,⟨m0,w0⟩,turn⟩:=h;refine wpAny_While (codeAny_whileLoop (λn s'=>∃ah H',Ç X Á ah H' s'/\W n ah H') ?_ m0 ⟨σ,H,I,w0⟩);rintro n s1⟨oQ,H1,I1,w1⟩;refine wpAny_passesOwn hp (Þ (hc Á s1 oQ H1 _ I1 (turn n oQ H1 w1)) λb s2=>?_);rintro⟨H2,I2,q2⟩;cases b with
 |true=>obtain⟨N,hN,q2⟩:=q2;rw[Í rfl];refine wpAny_passesOwn hp (Þ (hb Á s2 oQ H2 _ I2 q2) λf s3 q3=>?_);cases f with|next=>obtain⟨gy,H3,I3,n3⟩:=q3;obtain⟨m',hm,w3⟩:=hN gy H3 n3;exact⟨m',hm,gy,H3,I3,w3⟩;|cont=>obtain⟨gy,H3,I3,n3⟩:=q3;obtain⟨m',hm,w3⟩:=hN gy H3 n3;exact⟨m',hm,gy,H3,I3,w3⟩;|brk=>exact q3;|ret v=>exact q3
 |false=>rw[Ë Ř];exact wpAny_execs_nil ⟨oQ,H2,I2,q2⟩
end
structure It where
 go:Nat->Hp->Prop
 yld:Nat->Hp->V->Hp->Prop
 stop:Nat->Hp->Prop
def ni(X:Cx)(Á:T7)(H:Hp)(b:Addr):Prop:=H b=none/\b≠X.env.locals/\b∉X.fs/\(b∈X.ex\/X.s₀.heap.objs.size<=b)/\(∀x c,X.env.cells.lookup x=some c->c≠b)/\∀p∈X.pn++Á,p.1≠b
theorem Ç.fpOk{σ:St}{b:Addr}(I:Ç X Á σ H s)(hb:s.heap.objs.size<=b)(hn:H' b=none):ni X Á H' b:=by
 refine⟨hn,ϩ (Ł I.lt hb),I.nofs hb,.inr (ŝ I.sz hb),λx c e z=>?_,λp hp z=>?_⟩;.obtain⟨v,q⟩:=I.cell x c e;exact absurd (Ł q.lt (by rw[z];exact hb)) (η _)
 .exact absurd (Ł (ÿ (I.pin p hp).1) (by rw[z];exact hb)) (η _)
structure Ŏ(P:Program)(w:World)(K:Frag)(tg:Expr)(J:It)(fp:Č)(it:Addr)(tn:Nat->Heap->Prop):Prop where
 mem:it∈fp
 obj:∀i h,tn i h->∀b∈fp,∃o,h.get? b=some o/\∀v,o.data≠.cell v
 keep:∀i h h',tn i h->(∀b∈fp,∀o,h.get? b=some o->h'.get? b=some o)->tn i h'
 item:∀X,X.prog=P->X.w=w->X.K=K->X.calm=true->∀i Á s(σ:St)H E,Ç X Á σ H s->(∀b∈fp,ni X Á H b)->tn i s.heap->J.go i H->wpAny (model P w) X.A (pyNext (.ref it)) (λr s1=>∃u,r=some u/\wpAny (model P w) X.A (letOwnedTupleGo tg (.ref it) u) (λ_ s2=>∃x H',Ç X Á σ H' s2/\Ô x u/\J.yld i H x H'/\tn (i+1) s2.heap/\∀b∈fp,H' b=none) E s1) E s
 done:∀X,X.prog=P->X.w=w->X.K=K->X.calm=true->∀i Á s(σ:St)(H:Hp)(E:TQ),Ç X Á σ H s->(∀b∈fp,ni X Á H b)->tn i s.heap->J.stop i H->wpAny (model P w) X.A (pyNext (.ref it)) (λr s1=>r=none/\Ç X Á σ H s1) E s
 self:∀(A:Around)(i:Nat)(s:Shared)(Q:TQ)(E:TQ),tn i s.heap->Q (.ref it) s->wpAny (model P w) A (pyIter (.ref it)) Q E s
abbrev TI:=St->Hp->(It->Hp->Prop)->Prop
def PIE(X:Cx)(Á:T7)(σ:St)(tg:Expr)(R:It->Hp->Prop)(FD:Value)(s2:Shared):Prop:=∃(it:Addr)(fp:Č)(tn:Nat->Heap->Prop)(J:It)(H':Hp),FD=.ref it/\Ç X Á σ H' s2/\Ŏ X.prog X.w X.K tg J fp it tn/\tn 0 s2.heap/\(∀b∈fp,ni X Á H' b)/\R J H'
def PI(X:Cx)(tg iter:Expr)(wi:TI):Prop:=∀Á s(σ:St)H R,Ç X Á σ H s->wi σ H R->wpAny (model X.prog X.w) X.A (eval iter X.env) (λv s1=>wpAny (model X.prog X.w) X.A (pyIter v) (PIE X Á σ tg R) X.xe s1) X.xe s
theorem zM(ho:s.heap.get? it=some o)(hc:o.cls=.type n)(hd:o.data=.fields vs)(hn:["enumerate","zip","dict_itemiterator","dict_reverseitemiterator","odict_iterator","itertools.zip_longest","itertools.pairwise"].contains n=false)(hQ:Q () s):wpAny M A (letOwnedTupleGo tg (.ref it) u) Q E s:=by cases tg<;>first|exact Ý hQ;|(cases u<;>first|exact Ý hQ;|(refine Å (wpAny_load ho ?_);rw[hc,hd];show wpAny M A (if(["enumerate","zip","dict_itemiterator","dict_reverseitemiterator","odict_iterator","itertools.zip_longest","itertools.pairwise"].contains n&&vs[0]?==some (rawInt _))=true then _ else _) Q E s;rw[Ë (by intro h;rw[hn]at h;cases h)];exact Ý hQ))
def Itl(K:Frag)(a:Addr):It:=⟨λi H=>∃xs x,Ê K H a xs/\xs[i]?=some x,λi H x H'=>H'=H/\∀xs,Ê K H a xs->xs[i]?=some x,λi H=>∃xs,Ê K H a xs/\xs.length<=i⟩
def Itt(K:Frag)(a:Addr):It:=⟨λi H=>∃xs x,Î K H a xs/\xs[i]?=some x,λi H x H'=>H'=H/\∀xs,Î K H a xs->xs[i]?=some x,λi H=>∃xs,Î K H a xs/\xs.length<=i⟩
def Itr(lo:Int)(n:Nat):It:=⟨λi _=>i<n,λi H x H'=>H'=H/\x=.int (lo+i),λi _=>n<=i⟩
theorem Cj{K:Frag}(a it:Addr):Ŏ P w K tg (Itl K a) [it] it (λi h=>h.IsListIter it a i)where
 mem:=by simp
 obj:=λi h st b hb=>by
  have e:b=it:=by simpa using hb
  subst e;obtain⟨o,e,c,d⟩:=st;exact⟨o,e,λv z=>by rw[d]at z;cases z⟩
 keep:=λi h h' st k=>st.at λo e=>k it Ù o e;item:=by intro X hP hw hK hc i Á s σ H E I hf st hg;subst hP hw hK;obtain⟨xs,x,hq,hx⟩:=hg;obtain⟨Æ,rv,p,hz⟩:=I.list hq;obtain⟨u,hu,ru⟩:=rv.get hx;obtain⟨f0,f1,f2,f3,f4,f5⟩:=hf it Ù;refine wpAny_pyNext_list_item st p.isList (x:=u) (by simpa using hu) λh' Ð sb=>?_;have I1:Ç X Á σ H {s with heap:=h'}:=I.turned (t':=s.toks) (λb o hb e=>(sb.2 b hb).trans e) f0 f1 f3 f4 f5;obtain⟨o,e,c,d⟩:=id Ð;exact⟨u,rfl,zM (s:={s with heap:=h'}) e c d Û ⟨x,H,I1,ru,⟨rfl,λys hy=>by rw[I.list_inj hy hq];exact hx⟩,Ð,λb hb=>(hf b hb).1⟩⟩
 done:=by intro X hP hw hK hc i Á s σ H E I hf st hg;subst hP hw hK;obtain⟨xs,hq,hx⟩:=hg;obtain⟨Æ,rv,p,hz⟩:=I.list hq;obtain⟨f0,f1,f2,f3,f4,f5⟩:=hf it Ù;have hl:=rv.length;exact wpAny_pyNext_list_end (I.ok.hd hc) st p.isList (by simp;lia) λh' eb=>⟨rfl,I.turned (t':=s.toks) (λb o hb e=>eb b o hb e) f0 f1 f3 f4 f5⟩
 self:=λ_ _ _ _ _ st h=>wpAny_pyIter_listiter st h
theorem yp{K:Frag}(a it:Addr):Ŏ P w K tg (Itt K a) [it] it (λi h=>h.IsTupleIter it a i)where
 mem:=by simp
 obj:=λi h st b hb=>by
  have e:b=it:=by simpa using hb
  subst e;obtain⟨o,e,c,d⟩:=st;exact⟨o,e,λv z=>by rw[d]at z;cases z⟩
 keep:=λi h h' st k=>st.at λo e=>k it Ù o e;item:=by intro X hP hw hK hc i Á s σ H E I hf st hg;subst hP hw hK;obtain⟨xs,x,hq,hx⟩:=hg;obtain⟨Æ,rv,p,hz⟩:=I.tuple hq;obtain⟨u,hu,ru⟩:=rv.get hx;obtain⟨f0,f1,f2,f3,f4,f5⟩:=hf it Ù;refine wpAny_pyNext_tuple_item st (show s.heap.IsTuple a Æ.toArray from p) (x:=u) (by simpa using hu) λh' Ð sb=>?_;have I1:Ç X Á σ H {s with heap:=h'}:=I.turned (t':=s.toks) (λb o hb e=>(sb.2 b hb).trans e) f0 f1 f3 f4 f5;obtain⟨o,e,c,d⟩:=id Ð;exact⟨u,rfl,zM (s:={s with heap:=h'}) e c d Û ⟨x,H,I1,ru,⟨rfl,λys hy=>by rw[I.tuple_inj hy hq];exact hx⟩,Ð,λb hb=>(hf b hb).1⟩⟩
 done:=by intro X hP hw hK hc i Á s σ H E I hf st hg;subst hP hw hK;obtain⟨xs,hq,hx⟩:=hg;obtain⟨Æ,rv,p,hz⟩:=I.tuple hq;obtain⟨f0,f1,f2,f3,f4,f5⟩:=hf it Ù;have hl:=rv.length;exact wpAny_pyNext_tuple_end (I.ok.hd hc) st (show s.heap.IsTuple a Æ.toArray from p) (by simp;lia) λh' eb=>⟨rfl,I.turned (t':=s.toks) (λb o hb e=>eb b o hb e) f0 f1 f3 f4 f5⟩
 self:=λ_ _ _ _ _ st h=>wpAny_pyIter_tupleiter st h
theorem yq{K:Frag}(it:Addr)(lo:Int)(n:Nat):Ŏ P w K tg (Itr lo n) [it] it (λi h=>IsRangeIter h it (lo+(i:Nat)*1) ((n:Int)-(i:Nat)) 1)where
 mem:=by simp
 obj:=λi h st b hb=>by
  have e:b=it:=by simpa using hb
  subst e;exact⟨_,st,λv z=>by have z':Data.fields _=Data.cell v:=z;cases z'⟩
 keep:=λi h h' st k=>k it Ù _ st;item:=by intro X hP hw hK hc i Á s σ H E I hf st hg;subst hP hw hK;obtain⟨f0,f1,f2,f3,f4,f5⟩:=hf it Ù;have W:=Walks.range (prog:=X.prog) (w:=X.w) (I.ok.hd hc) it lo 1 n;refine W.item i s _ _ hg st λv h' tk hv Ð kk=>?_;obtain⟨t,rfl⟩:=hv;have I1:Ç X Á σ H {s with heap:=h',toks:=tk}:=I.turned (λb o hb e=>kk b o (by simpa using hb) e) f0 f1 f3 f4 f5;refine⟨_,rfl,zM (s:={s with heap:=h',toks:=tk}) (n:="range_iterator") Ð rfl rfl Û ⟨.int (lo+i),H,I1,⟨t,?_⟩,⟨rfl,rfl⟩,Ð,λb hb=>(hf b hb).1⟩⟩;rw[Int.mul_one]
 done:=by intro X hP hw hK hc i Á s σ H E I hf st hg;subst hP hw hK;obtain⟨f0,f1,f2,f3,f4,f5⟩:=hf it Ù;exact wpAny_pyNext_range_end (I.ok.hd hc) st (by have:n<=i:=hg;lia) λh' eb=>⟨rfl,I.turned (t':=s.toks) (λb o hb e=>eb b o hb e) f0 f1 f3 f4 f5⟩
 self:=λ_ _ _ _ _ st h=>wpAny_pyIter_rangeiter st h
section
variable{tg:Expr}
def Nb(K:Frag)(tl:TE):TI:=λσ H R=>tl σ H λx H1=>∃a,x=.ref a/\(∃xs,Ê K H1 a xs)/\R (Itl K a) H1
def Nf(K:Frag)(tl:TE):TI:=λσ H R=>tl σ H λx H1=>∃a,x=.ref a/\(∃xs,Î K H1 a xs)/\R (Itt K a) H1
theorem dN(hl:PE X l tl):PI X tg l (Nb X.K tl):=by
 intro Á s σ H R I h;refine Þ (hl Á s σ H _ I h) λv s1=>?_;rintro⟨x,H1,I1,r1,q1⟩;obtain⟨a,e,⟨xs,hq⟩,q⟩:=q1;subst e;cases r1;obtain⟨Æ,rv,p,hz⟩:=I1.list hq;refine wpAny_pyIter_list p.isList ?_;refine⟨s1.heap.objs.size,[s1.heap.objs.size],_,_,H1,rfl,I1.kept (t':=s1.toks) λb o e=>č _ e,Cj a _,⟨_,ı _ rfl,rfl,rfl⟩,λb hb=>?_,q⟩;have e:b=s1.heap.objs.size:=by simpa using hb
 subst e;exact I1.fpOk (ß _) (I1.hok.fresh (ß _))
theorem dI(hl:PE X l tl):PI X tg l (Nf X.K tl):=by
 intro Á s σ H R I h;refine Þ (hl Á s σ H _ I h) λv s1=>?_;rintro⟨x,H1,I1,r1,q1⟩;obtain⟨a,e,⟨xs,hq⟩,q⟩:=q1;subst e;cases r1;obtain⟨Æ,rv,p,hz⟩:=I1.tuple hq;refine wpAny_pyIter_tuple (p) ?_;refine⟨s1.heap.objs.size,[s1.heap.objs.size],_,_,H1,rfl,I1.kept (t':=s1.toks) λb o e=>č _ e,yp a _,⟨_,ı _ rfl,rfl,rfl⟩,λb hb=>?_,q⟩;have e:b=s1.heap.objs.size:=by simpa using hb
 subst e;exact I1.fpOk (ß _) (I1.hok.fresh (ß _))
theorem vM{σ:St}{lo hi:Int}(I:Ç X Á σ H s)(h1:-(2^62)<=lo)(h2:lo<2^62)(h3:-(2^62)<=hi)(h4:hi<2^62)(q:R (Itr lo (hi-lo).toNat) H):wpAny (model X.prog X.w) X.A (pyIter (.ref s.heap.objs.size)) (PIE X Á σ tg R) E {s with heap:=s.heap.push {cls:=.type "range",data:=.fields #[.int lo t,.int hi u,.int 1 v]},toks:=tk}:=by
 refine wpAny_pyIter_range (IsRange.new ..) (small_one h1 h2 h3 h4) ?_;have I1:Ç X Á σ H {s with heap:=s.heap.push {cls:=.type "range",data:=.fields #[.int lo t,.int hi u,.int 1 v]},toks:=tk}:=I.kept λb o e=>č _ e;refine⟨(s.heap.push {cls:=.type "range",data:=.fields #[.int lo t,.int hi u,.int 1 v]}).objs.size,[(s.heap.push {cls:=.type "range",data:=.fields #[.int lo t,.int hi u,.int 1 v]}).objs.size],_,_,H,rfl,I1.kept (t':=tk) λb o e=>č _ e,yq _ lo (hi-lo).toNat,?_,λb hb=>?_,q⟩
 .have e1:lo+((0:Nat):Int)*1=lo:=by simp
  have e2:(((hi-lo).toNat:Nat):Int)-((0:Nat):Int)=Builtin.Range.rangeSize lo hi 1:=by rw[rangeSize_one];split<;>lia
  rw[e1,e2];exact ı _ rfl
 .have e:b=(s.heap.push {cls:=.type "range",data:=.fields #[.int lo t,.int hi u,.int 1 v]}).objs.size:=by simpa using hb
  subst e;exact I1.fpOk (ß _) (I1.hok.fresh (ß _))
def Ng(ta:TA):TI:=λσ H R=>ta σ H λvs H1=>∃j,vs=[.int j]/\-(2^62)<=j/\j<2^62/\R (Itr 0 j.toNat) H1
def Nh(ta:TA):TI:=λσ H R=>ta σ H λvs H1=>∃i j,vs=[.int i,.int j]/\(-(2^62)<=i/\i<2^62/\-(2^62)<=j/\j<2^62)/\R (Itr i (j-i).toNat) H1
theorem fK(hg:Gl X "range")(hm:X.mg "range"=none)(ha:PA X [a] ta)(hs:starEach [a] X.env=[(false,eval a X.env)]:=by rfl):PI X tg (.Call (.Name "range" p) [a] [] pos) (Ng ta):=by intro Á s σ H R I h;refine Call_ (kJ I hg hm boot_range (PyProof.Rows.callWith_type1 (Þ (ha pos Á s σ H _ I h) λus s1=>?_) hs rfl));rintro⟨vs,H1,I1,r1,q1⟩;obtain⟨j,e,q1,q2,q⟩:=q1;subst e;cases r1 with|cons r rr=>cases rr;obtain⟨t,rfl⟩:=r;exact call_range_1 (vM I1 Â Â q1 q2 (by simpa using q))
theorem jM{p pos:Pos}(hg:Gl X "range")(hm:X.mg "range"=none)(ha:PA X [a,b] ta)(hs:starEach [a,b] X.env=[(false,eval a X.env),(false,eval b X.env)]:=by rfl)(l9:starEach [b] X.env=[(false,eval b X.env)]:=by rfl):PI X tg (.Call (.Name "range" p) [a,b] [] pos) (Nh ta):=by intro Á s σ H R I h;refine Call_ (kJ I hg hm boot_range (PyProof.Rows.callWith_type1 (Þ (ha pos Á s σ H _ I h) λus s1=>?_) (by rw[hs,l9]) (by rw[l9];rfl)));rintro⟨vs,H1,I1,r1,q1⟩;obtain⟨i,j,e,⟨q1,q2,q3,q4⟩,q⟩:=q1;subst e;cases r1 with|cons r rr=>cases rr with|cons r' rr=>cases rr;obtain⟨t,rfl⟩:=r;obtain⟨t',rfl⟩:=r';exact call_range_2 (vM I1 q1 q2 q3 q4 q)
def PX(wi:TI)(g:TG)(tb:TS):TS:=λD σ H=>wi σ H λJ H1=>∃W:Nat->Nat->St->Hp->Prop,(∃m,W 0 m σ H1)/\∀i m σ H,W i m σ H->(J.stop i H/\D.nx σ H)\/(J.go i H/\∃N,(∀ah H',N ah H'->∃m',m'<m/\W (i+1) m' ah H')/\∀x H',J.yld i H x H'->g x σ H' λaI H2=>tb {D with nx:=N,ct:=N,bk:=D.nx} aI H2)
def dY(fp:Č)(h:Heap):T7:=fp.filterMap λb=>(h.get? b).map λo=>(b,o)
theorem jb(hb:b∈fp)(e:h.get? b=some o):(b,o)∈dY fp h:=List.mem_filterMap.mpr ⟨b,hb,by rw[e];rfl⟩
theorem nj(hp:p∈dY fp h):p.1∈fp/\h.get? p.1=some p.2:=by obtain⟨b,hb,e⟩:=List.mem_filterMap.mp hp;cases q:h.get? b with|none=>rw[q]at e;cases e;|some o=>rw[q]at e;have e':(b,o)=p:=ŗ e;subst e';exact⟨hb,q⟩
theorem Ç.pinned{σ:St}(I:Ç X Á σ H s)(hf:∀b∈fp,ni X Á H b)(ho:∀b∈fp,∃o,s.heap.get? b=some o/\∀v,o.data≠.cell v):Ç X (Á++dY fp s.heap) σ H s:=I.pins_of λp hp=>(Ę.mp hp).elim (λz=>I.pin p (Ŗ _ z)) λz=>by obtain⟨hb,e⟩:=nj z;obtain⟨f0,f1,f2,_⟩:=hf p.1 hb;obtain⟨o,e',d⟩:=ho p.1 hb;rw[e]at e';cases e';exact⟨e,f0,f1,f2,d⟩
theorem Ç.unpinned{σ:St}(I:Ç X (Á++pl) σ H s):Ç X Á σ H s:=I.pins_of λp hp=>I.pin p (Ŗ _ (Zaw _ hp))
theorem cP(hp:PassesOwn (model X.prog X.w) X.A X.env X.xe)(hc:X.calm=true)(hi:PI X tg iter wi)(hg:PG X tg g)(hb:ľ X body tb)(hs:∀x,foldedSetIterable iter X.env x=pure x:=by intro _;rfl):PS X (.For tg iter body [] pos) (PX wi g tb):=by
 intro Á s σ H D I h;refine wpAny_For (Þ (hi Á s σ H _ I h) λv s1 h1=>Þ h1 λFD s2 h2=>?_) hs;obtain⟨it,fp,tn,J,H2,e,I2,T,st2,f2,W,⟨m0,w0⟩,turn⟩:=h2;subst e;have w9:∀{H':Hp},(∀b∈fp,H' b=none)->∀b∈fp,ni X Á H' b:=λhn b hb=>⟨hn b hb,(f2 b hb).2⟩;refine codeAny_forLoop_any (λn s'=>∃i ah H',Ç X Á ah H' s'/\tn i s'.heap/\(∀b∈fp,H' b=none)/\W i n ah H') ?_ m0 ⟨0,σ,H2,I2,st2,λb hb=>(f2 b hb).1,w0⟩;rintro n s3⟨i,gy,H3,I3,iX,Cn,w3⟩;rcases turn i n gy H3 w3 with⟨stop,qn⟩|⟨go,N,hN,step⟩;.refine wpAny_passesOwn hp (Þ (T.done X rfl rfl rfl hc i Á s3 gy H3 X.xe I3 (w9 Cn) iX stop) λr s4=>?_);rintro⟨hr,I4⟩;subst hr;exact wpAny_execs_nil ⟨gy,H3,I4,qn⟩
 .refine wpAny_passesOwn hp (Þ (T.item X rfl rfl rfl hc i Á s3 gy H3 X.xe I3 (w9 Cn) iX go) λr s4=>?_);rintro⟨u,hr,h4⟩;subst hr;refine wpAny_passesOwn hp (Þ h4 λ_ s5=>?_);rintro⟨x,H5,I5,r5,y5,xb,IJ⟩;have IL:=I5.pinned (w9 IJ) (T.obj _ _ xb);refine wpAny_passesOwn hp (Þ (hg _ s5 gy H5 x u _ IL r5 (step x H5 y5)) λ_ s6=>?_);rintro⟨AM,H6,I6,q6⟩;refine wpAny_passesOwn hp (Þ (hb _ s6 AM H6 _ I6 q6) λf s7 q7=>?_);have again:∀{mf:St}{H7:Hp},Ç X (Á++dY fp s5.heap) mf H7 s7->N mf H7->∃m,m<n/\∃i ah H',Ç X Á ah H' s7/\tn i s7.heap/\(∀b∈fp,H' b=none)/\W i m ah H':=λ{mf H7}I7 n7=>by obtain⟨m',hm,w7⟩:=hN mf H7 n7;refine⟨m',hm,i+1,mf,H7,I7.unpinned,T.keep _ _ _ xb λb hb o e=>(I7.pin (b,o) (Ŗ _ (Ŗ _ (jb hb e)))).1,λb hb=>?_,w7⟩;obtain⟨o,e,d⟩:=T.obj _ _ xb b hb;exact(I7.pin (b,o) (Ŗ _ (Ŗ _ (jb hb e)))).2.1
  cases f with|next=>obtain⟨mf,H7,I7,n7⟩:=q7;exact again I7 n7;|cont=>obtain⟨mf,H7,I7,n7⟩:=q7;exact again I7 n7;|brk=>obtain⟨mf,H7,I7,q7⟩:=q7;exact⟨mf,H7,I7.unpinned,q7⟩;|ret v=>obtain⟨x7,mf,H7,I7,r7,q7⟩:=q7;exact⟨x7,mf,H7,I7.unpinned,r7,q7⟩
end
theorem iV{K:Frag}{g:TG}{tb:TS}{D:Ŕ}{σ:St}{H:Hp}(Pv:Nat->St->Hp->Prop)(h0:Pv 0 σ H)(hl:∀i σ H,i<=xs.length->Pv i σ H->Ê K H a xs)(hs:∀i x σ H,xs[i]?=some x->Pv i σ H->g x σ H λaI H2=>tb {D with nx:=Pv (i+1),ct:=Pv (i+1),bk:=D.nx} aI H2)(hd:∀σ H,Pv xs.length σ H->D.nx σ H):∃W:Nat->Nat->St->Hp->Prop,(∃m,W 0 m σ H)/\∀i m σ H,W i m σ H->((Itl K a).stop i H/\D.nx σ H)\/((Itl K a).go i H/\∃N,(∀ah H',N ah H'->∃m',m'<m/\W (i+1) m' ah H')/\∀x H',(Itl K a).yld i H x H'->g x σ H' λaI H2=>tb {D with nx:=N,ct:=N,bk:=D.nx} aI H2):=by
 refine⟨λi m σ H=>m=xs.length-i/\i<=xs.length/\Pv i σ H,⟨xs.length,by simp,ĥ _,h0⟩,?_⟩;rintro i m σ H⟨rfl,hi,p⟩;have q:=hl i σ H hi p;by_cases ax:i<xs.length;.refine .inr ⟨⟨xs,xs[i],q,by simp[ax]⟩,Pv (i+1),λah H' p'=>⟨xs.length-(i+1),Â,rfl,ax,p'⟩,λx H' y=>?_⟩;obtain⟨e,y⟩:=y;subst e;exact hs i x σ _ (y xs q) p
 .have e:i=xs.length:=Â;subst e;exact .inl ⟨⟨xs,q,ß _⟩,hd σ H p⟩
theorem Ih{K:Frag}{g:TG}{tb:TS}{D:Ŕ}{σ:St}{H:Hp}(Pv:Nat->St->Hp->Prop)(h0:Pv 0 σ H)(hl:∀i σ H,i<=xs.length->Pv i σ H->Î K H a xs)(hs:∀i x σ H,xs[i]?=some x->Pv i σ H->g x σ H λaI H2=>tb {D with nx:=Pv (i+1),ct:=Pv (i+1),bk:=D.nx} aI H2)(hd:∀σ H,Pv xs.length σ H->D.nx σ H):∃W:Nat->Nat->St->Hp->Prop,(∃m,W 0 m σ H)/\∀i m σ H,W i m σ H->((Itt K a).stop i H/\D.nx σ H)\/((Itt K a).go i H/\∃N,(∀ah H',N ah H'->∃m',m'<m/\W (i+1) m' ah H')/\∀x H',(Itt K a).yld i H x H'->g x σ H' λaI H2=>tb {D with nx:=N,ct:=N,bk:=D.nx} aI H2):=by
 refine⟨λi m σ H=>m=xs.length-i/\i<=xs.length/\Pv i σ H,⟨xs.length,by simp,ĥ _,h0⟩,?_⟩;rintro i m σ H⟨rfl,hi,p⟩;have q:=hl i σ H hi p;by_cases ax:i<xs.length;.refine .inr ⟨⟨xs,xs[i],q,by simp[ax]⟩,Pv (i+1),λah H' p'=>⟨xs.length-(i+1),Â,rfl,ax,p'⟩,λx H' y=>?_⟩;obtain⟨e,y⟩:=y;subst e;exact hs i x σ _ (y xs q) p
 .have e:i=xs.length:=Â;subst e;exact .inl ⟨⟨xs,q,ß _⟩,hd σ H p⟩
theorem dW{lo:Int}{g:TG}{tb:TS}{D:Ŕ}(Pv:Nat->St->Hp->Prop)(h0:Pv 0 σ H)(hs:∀i σ H,i<n->Pv i σ H->g (.int (lo+i)) σ H λaI H2=>tb {D with nx:=Pv (i+1),ct:=Pv (i+1),bk:=D.nx} aI H2)(hd:∀σ H,Pv n σ H->D.nx σ H):∃W:Nat->Nat->St->Hp->Prop,(∃m,W 0 m σ H)/\∀i m σ H,W i m σ H->((Itr lo n).stop i H/\D.nx σ H)\/((Itr lo n).go i H/\∃N,(∀ah H',N ah H'->∃m',m'<m/\W (i+1) m' ah H')/\∀x H',(Itr lo n).yld i H x H'->g x σ H' λaI H2=>tb {D with nx:=N,ct:=N,bk:=D.nx} aI H2):=by
 refine⟨λi m σ H=>m=n-i/\i<=n/\Pv i σ H,⟨n,by simp,ĥ _,h0⟩,?_⟩;rintro i m σ H⟨rfl,hi,p⟩;by_cases ax:i<n;.refine .inr ⟨ax,Pv (i+1),λah H' p'=>⟨n-(i+1),Â,rfl,ax,p'⟩,λx H' y=>?_⟩;obtain⟨e,y⟩:=y;subst e y;exact hs i σ _ ax p
 .have e:i=n:=Â;subst e;exact .inl ⟨ß _,hd σ H p⟩
abbrev R2:=V->V->Hp->VK->Prop
def Ġ(X:Cx)(f:Value->Value->Sem Value)(r:R2):Prop:=∀Á s(σ:St)H x y v u Q,Ç X Á σ H s->Ô x v->Ô y u->r x y H Q->wpAny (model X.prog X.w) X.A (f v u) (EP X Á σ Q) X.xe s
def UnR(X:Cx)(f:Value->Sem Value)(r:V->Hp->VK->Prop):Prop:=∀Á s(σ:St)H x v Q,Ç X Á σ H s->Ô x v->r x H Q->wpAny (model X.prog X.w) X.A (f v) (EP X Á σ Q) X.xe s
def eO(X:Cx)(f:Value)(r:List V->Hp->VK->Prop):Prop:=∀Á s(σ:St)H xs us Q,Ç X Á σ H s->Ï xs us->r xs H Q->wpAny (model X.prog X.w) X.A (call f us) (EP X Á σ Q) X.xe s
def Q0(X:Cx)(r:V->Hp->(Bool->Hp->Prop)->Prop):Prop:=∀Á s(σ:St)H x v Q,Ç X Á σ H s->Ô x v->r x H Q->wpAny (model X.prog X.w) X.A (truthy v) (TP X Á σ Q) X.xe s
def Ÿ(r:R2)(ta tb:TE):TE:=λσ H Q=>ta σ H λx H1=>tb σ H1 λy H2=>r x y H2 Q
def tUn(r:V->Hp->VK->Prop)(ta:TE):TE:=λσ H Q=>ta σ H λx H1=>r x H1 Q
inductive RII(C:Int->Int->Prop)(g:Int->Int->V)(x:V)(y:V)(H:Hp)(Q:VK):Prop|mk:∀i j,(x=.int i)->(y=.int j)->(C i j)->(Q (g i j) H)->RII C g x y H Q
def rI(C:Int->Int->Prop)(g:Int->Int->V):R2:=λx y H Q=>RII C g x y H Q
inductive RI0I(g:Int->Int->V)(x:V)(y:V)(H:Hp)(Q:VK):Prop|mk:∀i j,(x=.int i)->(y=.int j)->(Q (g i j) H)->RI0I g x y H Q
def ς(g:Int->Int->V):R2:=λx y H Q=>RI0I g x y H Q
inductive RUI(g:Int->V)(x:V)(H:Hp)(Q:VK):Prop|mk:∀i,(x=.int i)->(Q (g i) H)->RUI g x H Q
def rU(g:Int->V):V->Hp->VK->Prop:=λx H Q=>RUI g x H Q
section
theorem KY(ha:PE X a ta)(hb:PE X b tb){σ:St}{R:V->V->Hp->Prop}(I:Ç X Á σ H s)(h:ta σ H λx H1=>tb σ H1 λy H2=>R x y H2){Q:TQ}{f:Value->Value->Sem Value}(hf:∀v u s2 x y H2,Ç X Á σ H2 s2->Ô x v->Ô y u->R x y H2->wpAny (model X.prog X.w) X.A (f v u) Q X.xe s2):wpAny (model X.prog X.w) X.A (eval a X.env) (λv s₁=>wpAny (model X.prog X.w) X.A (eval b X.env) (λu s₂=>wpAny (model X.prog X.w) X.A (f v u) Q X.xe s₂) X.xe s₁) X.xe s:=by refine Þ (ha Á s σ H _ I h) λv s1=>?_;rintro⟨x,H1,I1,r1,q1⟩;refine Þ (hb Á s1 σ H1 _ I1 q1) λu s2=>?_;rintro⟨y,H2,I2,r2,q2⟩;exact hf v u s2 x y H2 I2 r1 r2 q2
theorem aV(ho:Ġ X (binaryOp op) r)(ha:PE X a ta)(hb:PE X b tb):PE X (.BinOp a op b pos) (Ÿ r ta tb):=by intro Á s σ H Q I h;exact wpAny_BinOp (KY ha hb I h λv u s2 x y H2 I2 rx ry q=>ho Á s2 σ H2 x y v u Q I2 rx ry q)
theorem rY(ho:UnR X (unaryOp op) r)(ha:PE X a ta):PE X (.UnaryOp op a pos) (tUn r ta):=by intro Á s σ H Q I h;exact UnaryOp_ (Þ (ha Á s σ H _ I h) λv s1=>by rintro⟨x,H1,I1,r1,q1⟩;exact ho Á s1 σ H1 x v Q I1 r1 q1)
theorem opI{g:Int->Int->Int}(rule:∀i j t u s Q E,C i j->Q (.int (g i j) s.toks) {s with toks:=s.toks+1}->wpAny (model X.prog X.w) X.A (f (.int i t) (.int j u)) Q E s):Ġ X f (rI C λi j=>.int (g i j)):=by intro Á s σ H x y v u Q I rx ry h;obtain⟨i,j,rfl,rfl,hc,q⟩:=h;obtain⟨t,rfl⟩:=rx;obtain⟨t',rfl⟩:=ry;exact rule i j t t' s _ _ hc ⟨.int (g i j),H,I.tok _,⟨_,rfl⟩,q⟩
theorem Ni{g:Int->Int->Int}(rule:∀i j t u s Q E,Q (.int (g i j) s.toks) {s with toks:=s.toks+1}->wpAny (model X.prog X.w) X.A (f (.int i t) (.int j u)) Q E s):Ġ X f (ς λi j=>.int (g i j)):=by intro Á s σ H x y v u Q I rx ry h;obtain⟨i,j,rfl,rfl,q⟩:=h;obtain⟨t,rfl⟩:=rx;obtain⟨t',rfl⟩:=ry;exact rule i j t t' s _ _ ⟨.int (g i j),H,I.tok _,⟨_,rfl⟩,q⟩
theorem Ii{g:Int->Int->Bool}(rule:∀i j t u s Q E,Q (.bool (g i j)) s->wpAny (model X.prog X.w) X.A (f (.int i t) (.int j u)) Q E s):Ġ X f (ς λi j=>.bl (g i j)):=by intro Á s σ H x y v u Q I rx ry h;obtain⟨i,j,rfl,rfl,q⟩:=h;obtain⟨t,rfl⟩:=rx;obtain⟨t',rfl⟩:=ry;exact rule i j t t' s _ _ ⟨.bl (g i j),H,I,rfl,q⟩
def Nj(i j:Int):Prop:=0<j/\j<1073741824
def El(i j:Int):Prop:=0<=j/\j<=1000000/\i.natAbs<2^64
def Z0a(i j:Int):Prop:=(-(2^64)<i/\i<2^64)\/(-(2^64)<j/\j<2^64)
theorem Z0a.ok(h:Z0a i j):IntMulOk i j:=by
 rcases h with⟨h1,h2⟩|⟨h1,h2⟩;.exact .of_left (intBits_le_64 h1 h2)
 .exact .of_right (intBits_le_64 h1 h2)
theorem cu:Ġ X (binaryOp .Add) (ς λi j=>.int (i+j)):=Ni λ_ _ _ _ _ _ _ q=>add_int q
theorem dG:Ġ X (binaryOp .Sub) (ς λi j=>.int (i-j)):=Ni λ_ _ _ _ _ _ _ q=>sub_int q
theorem gP:Ġ X (binaryOp .Mult) (rI Z0a λi j=>.int (i*j)):=opI λ_ _ _ _ _ _ _ hc q=>mul_int q hc.ok
theorem jN:Ġ X (binaryOp .FloorDiv) (rI Nj λi j=>.int (i/j)):=opI λi j _ _ _ _ _ hc q=>by have h1:(0:Int)<j:=hc.1;have h2:j<1073741824:=hc.2;exact floordiv_int Â (by rw[Int.fdiv_eq_ediv_of_nonneg i Â];exact q) (.inl (PyProof.noPylong_small Â))
theorem iJ:Ġ X (binaryOp .Mod) (rI (λ_ j=>0<j) λi j=>.int (i%j)):=opI λi j _ _ _ _ _ hc q=>by exact mod_int' Â (by rw[Int.fmod_eq_emod_of_nonneg i Â];exact q)
theorem nu:Ġ X (binaryOp .Pow) (rI El λi j=>.int (i^j.toNat)):=opI λ_ _ _ _ _ _ _ hc q=>pow_int_small hc.1 hc.2.1 hc.2.2 q
theorem unI{g:Int->Int}(rule:∀i t s Q E,Q (.int (g i) s.toks) {s with toks:=s.toks+1}->wpAny (model X.prog X.w) X.A (f (.int i t)) Q E s):UnR X f (rU λi=>.int (g i)):=by intro Á s σ H x v Q I rx h;obtain⟨i,rfl,q⟩:=h;obtain⟨t,rfl⟩:=rx;exact rule i t s _ _ ⟨.int (g i),H,I.tok _,⟨_,rfl⟩,q⟩
theorem nA:UnR X (unaryOp .USub) (rU λi=>.int (-i)):=unI λ_ _ _ _ _ q=>neg_int q
end
def Nk:V->V->Bool|.non,.non=>true|.non,.int _=>true|.int _,.non=>true|.non,.bl _=>true|.bl _,.non=>true|.non,.str _=>true|.str _,.non=>true|.int _,.int _=>true|.bl _,.bl _=>true|.str _,.str _=>true|.byt _,.byt _=>true|.int _,.str _=>true|.str _,.int _=>true|.bl _,.str _=>true|.str _,.bl _=>true|_,_=>false
def rEq:R2:=λx y H Q=>Nk x y=true/\Q (.bl (decide (x=y))) H
def rNe:R2:=λx y H Q=>Nk x y=true/\Q (.bl (!decide (x=y))) H
theorem zN:decide (V.int i=V.int j)=(i==j):=by rw[Zas];simp
theorem Em:decide (V.bl i=V.bl j)=(i==j):=by rw[Zas];simp
theorem zO:decide (V.str i=V.str j)=(i==j):=by rw[Zas];simp
theorem zP:decide (V.byt i=V.byt j)=(i.toList==j.toList):=by rw[Zas];cases i;cases j;simp
section
theorem bV{σ:St}(I:Ç X Á σ H s)(q:Q (.bl k) H)(e:k=k'):EP X Á σ Q (.bool k') s:=by subst e;exact⟨.bl k,H,I,rfl,q⟩
theorem ig:Ġ X (compareOp .Eq) rEq:=by intro Á s σ H x y v u Q I rx ry h;obtain⟨hs,q⟩:=h;cases x with
 |non=>cases rx;cases y with|non=>cases ry;exact PySem.EqNone.eq_none_none (bV I q Ù);|bl j=>cases ry;exact PySem.EqNone.eq_none_bool (bV I q Ù);|int j=>obtain⟨t',rfl⟩:=ry;exact PySem.EqNone.eq_none_int (bV I q Ù);|str j=>obtain⟨t',rfl⟩:=ry;exact PySem.EqNone.eq_none_str (bV I q Ù);|_=>exact absurd (show false=true from hs) Ř
 |bl i=>cases rx;cases y with|non=>cases ry;exact PySem.EqNone.eq_bool_none (bV I q Ù);|bl j=>cases ry;exact eq_bool (bV I q Em);|str j=>obtain⟨t',rfl⟩:=ry;exact PySem.EqMixed.eq_bool_str (bV I q Ù);|_=>exact absurd (show false=true from hs) Ř
 |int i=>obtain⟨t,rfl⟩:=rx;cases y with|non=>cases ry;exact PySem.EqNone.eq_int_none (bV I q Ù);|int j=>obtain⟨t',rfl⟩:=ry;exact eq_int (bV I q zN);|str j=>obtain⟨t',rfl⟩:=ry;exact PySem.EqMixed.eq_int_str (bV I q Ù);|_=>exact absurd (show false=true from hs) Ř
 |str i=>obtain⟨t,rfl⟩:=rx;cases y with|non=>cases ry;exact PySem.EqNone.eq_str_none (bV I q Ù);|bl j=>cases ry;exact PySem.EqMixed.eq_str_bool (bV I q Ù);|int j=>obtain⟨t',rfl⟩:=ry;exact PySem.EqMixed.eq_str_int (bV I q Ù);|str j=>obtain⟨t',rfl⟩:=ry;exact eq_str (bV I q zO);|_=>exact absurd (show false=true from hs) Ř
 |byt i=>obtain⟨t,rfl⟩:=rx;cases y with|byt j=>obtain⟨t',rfl⟩:=ry;exact PySem.W.eq_bytes (bV I q zP);|_=>exact absurd (show false=true from hs) Ř
 |_=>cases y<;>exact absurd (show false=true from hs) Ř
theorem rZ:Ġ X (compareOp .NotEq) rNe:=by intro Á s σ H x y v u Q I rx ry h;obtain⟨hs,q⟩:=h;cases x with
 |non=>cases rx;cases y with|non=>cases ry;exact PySem.EqNone.ne_none_none (bV I q Ù);|bl j=>cases ry;exact PySem.EqNone.ne_none_bool (bV I q Ù);|int j=>obtain⟨t',rfl⟩:=ry;exact PySem.EqNone.ne_none_int (bV I q Ù);|str j=>obtain⟨t',rfl⟩:=ry;exact PySem.EqNone.ne_none_str (bV I q Ù);|_=>exact absurd (show false=true from hs) Ř
 |bl i=>cases rx;cases y with|non=>cases ry;exact PySem.EqNone.ne_bool_none (bV I q Ù);|bl j=>cases ry;exact ne_bool (bV I q (congrArg not Em));|str j=>obtain⟨t',rfl⟩:=ry;exact PySem.EqMixed.ne_bool_str (bV I q Ù);|_=>exact absurd (show false=true from hs) Ř
 |int i=>obtain⟨t,rfl⟩:=rx;cases y with|non=>cases ry;exact PySem.EqNone.ne_int_none (bV I q Ù);|int j=>obtain⟨t',rfl⟩:=ry;exact ne_int (bV I q (congrArg not zN));|str j=>obtain⟨t',rfl⟩:=ry;exact PySem.EqMixed.ne_int_str (bV I q Ù);|_=>exact absurd (show false=true from hs) Ř
 |str i=>obtain⟨t,rfl⟩:=rx;cases y with|non=>cases ry;exact PySem.EqNone.ne_str_none (bV I q Ù);|bl j=>cases ry;exact PySem.EqMixed.ne_str_bool (bV I q Ù);|int j=>obtain⟨t',rfl⟩:=ry;exact PySem.EqMixed.ne_str_int (bV I q Ù);|str j=>obtain⟨t',rfl⟩:=ry;exact ne_str (bV I q (congrArg not zO));|_=>exact absurd (show false=true from hs) Ř
 |byt i=>obtain⟨t,rfl⟩:=rx;cases y with|byt j=>obtain⟨t',rfl⟩:=ry;exact PySem.W.ne_bytes (bV I q (congrArg not zP));|_=>exact absurd (show false=true from hs) Ř
 |_=>cases y<;>exact absurd (show false=true from hs) Ř
theorem lO:Ġ X (compareOp .Lt) (ς λi j=>.bl (decide (i<j))):=Ii λ_ _ _ _ _ _ _ q=>lt_int q
theorem bY:Ġ X (compareOp .LtE) (ς λi j=>.bl (decide (i<=j))):=Ii λ_ _ _ _ _ _ _ q=>le_int q
theorem jr:Ġ X (compareOp .Gt) (ς λi j=>.bl (decide (j<i))):=Ii λ_ _ _ _ _ _ _ q=>gt_int q
theorem vN:Ġ X (compareOp .GtE) (ς λi j=>.bl (decide (j<=i))):=Ii λ_ _ _ _ _ _ _ q=>ge_int q
theorem yt:Ġ X (compareOp .Is) (λx y H Q=>y=.non/\Q (.bl (decide (x=.non))) H):=by intro Á s σ H x y v u Q I rx ry h;obtain⟨rfl,q⟩:=h;cases ry;refine is_none_gen (bV I q ?_);cases x<;>first|(cases rx;rfl);|(obtain⟨t,rfl⟩:=rx;rfl)
theorem bf(b:Expr)(h:op≠.In:=by decide)(h2:op≠.NotIn:=by decide):behindInMarks op b=false:=by
 have e1:(op==CmpOp.In)=false:=by cases op<;>first|rfl|exact absurd rfl h
 have e2:(op==CmpOp.NotIn)=false:=by cases op<;>first|rfl|exact absurd rfl h2
 cases b<;>simp[behindInMarks,e1,e2]
theorem gW(ho:Ġ X (compareOp op) r)(ha:PE X a ta)(hb:PE X b tb)(hm:behindInMarks op b=false):PE X (.Compare a [op] [b] pos) (Ÿ r ta tb):=by intro Á s σ H Q I h;exact wpAny_Compare1 (KY ha hb I h λv u s2 x y H2 I2 rx ry q=>ho Á s2 σ H2 x y v u Q I2 rx ry q) hm
def En(t:TE):TT:=λσ H Q=>t σ H λx H'=>∃k,x=.bl k/\Q k H'
theorem aZ(ho:Ġ X (compareOp op) r)(ha:PE X a ta)(hb:PE X b tb)(hm:behindInMarks op b=false):PT X (.Compare a [op] [b] pos) (En (Ÿ r ta tb)):=by intro Á s σ H Q I h;refine wpAny_isTrue_Compare1 (Þ (ha Á s σ H _ I h) λv s1⟨x,H1,I1,r1,q1⟩=>Þ (hb Á s1 σ H1 _ I1 q1) λu s2⟨y,H2,I2,r2,q2⟩=>Þ (ho Á s2 σ H2 x y v u _ I2 r1 r2 q2) λc s3⟨z,H3,I3,r3,k,e,q3⟩=>?_) hm;subst e;cases r3;exact wpAny_truthy_bool ⟨H3,I3,q3⟩
def yu(r r':R2)(ta tb tc:TE):TE:=λσ H Q=>ta σ H λx H1=>tb σ H1 λy H2=>r x y H2 λz H3=>∃k,z=.bl k/\(if k=true then tc σ H3 λw' H4=>r' y w' H4 Q else Q (.bl false) H3)
theorem dH(ho:Ġ X (compareOp op) r)(kB:Ġ X (compareOp xh) r')(ha:PE X a ta)(hb:PE X b tb)(hc:PE X c tc)(hm:lastMarks [op,xh] [b,c]=false:=by with_unfolding_all rfl):PE X (.Compare a [op,xh] [b,c] pos) (yu r r' ta tb tc):=by intro Á s σ H Q I h;refine Compare_chain (Þ (ha Á s σ H _ I h) λv s1⟨x,H1,I1,r1,q1⟩=>chain_link (Þ (hb Á s1 σ H1 _ I1 q1) λu s2⟨y,H2,I2,r2,q2⟩=>Þ (ho Á s2 σ H2 x y v u _ I2 r1 r2 q2) λd s3⟨z,H3,I3,r3,k,e,q3⟩=>?_)) hm;subst e;cases r3;refine wpAny_truthy_bool ?_;cases k with|false=>exact ite_ff ⟨.bl false,H3,I3,rfl,q3⟩;|true=>exact ite_tt (chain_last (Þ (hc Á s3 σ H3 _ I3 q3) λw' s4=>by rintro⟨z',H4,I4,r4,q4⟩;exact kB Á s4 σ H4 y z' u w' Q I4 r2 r4 q4))
theorem gF(ho:Ġ X (compareOp op) r)(kB:Ġ X (compareOp xh) r')(ha:PE X a ta)(hb:PE X b tb)(hc:PE X c tc)(hm:lastMarks [op,xh] [b,c]=false:=by with_unfolding_all rfl):PT X (.Compare a [op,xh] [b,c] pos) (En (yu r r' ta tb tc)):=by intro Á s σ H Q I h;refine isTrue_chain (Þ (ha Á s σ H _ I h) λv s1⟨x,H1,I1,r1,q1⟩=>test_link (Þ (hb Á s1 σ H1 _ I1 q1) λu s2⟨y,H2,I2,r2,q2⟩=>Þ (ho Á s2 σ H2 x y v u _ I2 r1 r2 q2) λd s3⟨z,H3,I3,r3,k,e,q3⟩=>?_)) hm;subst e;cases r3;refine wpAny_truthy_bool ?_;cases k with|false=>obtain⟨k',e',q'⟩:=q3;cases e';exact ite_ff ⟨H3,I3,q'⟩;|true=>refine ite_tt (test_last (Þ (hc Á s3 σ H3 _ I3 q3) λw' s4⟨z',H4,I4,r4,q4⟩=>Þ (kB Á s4 σ H4 y z' u w' _ I4 r2 r4 q4) λd' s5=>?_));rintro⟨z2,H5,I5,r5,k2,e2,q5⟩;subst e2;cases r5;exact wpAny_truthy_bool ⟨H5,I5,q5⟩
def Nm(K:Frag)(x:V)(H:Hp)(k:Bool):Prop:=match x with|.non=>k=false|.bl b=>k=b|.int i=>k=(i !=0)|.str y=>y.length<=sizeLine/\k=((y.length:Int)!=0)|.byt y=>y.size<=sizeLine/\k=((y.size:Int)!=0)|.ref p=>(∃xs,Ê K H p xs/\k=!xs.isEmpty)\/(∃xs,Î K H p xs/\k=!xs.isEmpty)\/∃kvs,H p=some (.dK kvs)/\k=!kvs.isEmpty|_=>False
theorem yw{vs:List (κ×Value)}(r:KV kvs vs):(!vs.isEmpty)=!kvs.isEmpty:=by cases r<;>rfl
theorem pM(r:Ï xs Æ):(!Æ.toArray.isEmpty)=!xs.isEmpty:=by cases r<;>simp
theorem kO:(sizeLine:Nat)<2^63:=by rw[sizeLine_eq];decide
theorem KZ:Q0 X (λx H Q=>∃k,Nm X.K x H k/\Q k H):=by intro Á s σ H x v Q I rx h;obtain⟨k,e,q⟩:=h;have hl:=kO;have hs:sizeLine=16777216:=sizeLine_eq;cases x with|non=>cases rx;have e':k=false:=e;subst e';exact truthy_none ⟨H,I,q⟩;|bl b=>cases rx;have e':k=b:=e;subst e';exact wpAny_truthy_bool ⟨H,I,q⟩;|int i=>obtain⟨t,rfl⟩:=rx;have e':k=(i !=0):=e;subst e';exact PySem.P.truthy_int ⟨H,I,q⟩;|str y=>obtain⟨t,rfl⟩:=rx;obtain⟨hy,e'⟩:y.length<=sizeLine/\k=((y.length:Int)!=0):=e;subst e';exact PySem.P.truthy_str Â ⟨H,I.tok _,q⟩;|byt y=>obtain⟨t,rfl⟩:=rx;obtain⟨hy,e'⟩:y.size<=sizeLine/\k=((y.size:Int)!=0):=e;subst e';exact PySem.W.truthy_bytes Â ⟨H,I.tok _,q⟩;|ref p=>
  cases rx;have e':(∃xs,Ê X.K H p xs/\k=!xs.isEmpty)\/(∃xs,Î X.K H p xs/\k=!xs.isEmpty)\/∃kvs,H p=some (.dK kvs)/\k=!kvs.isEmpty:=e;rcases e' with⟨xs,hx,e'⟩|⟨xs,hx,e'⟩|⟨kvs,hx,e'⟩;.subst e';obtain⟨Æ,r,pl,hz⟩:=I.list hx;have hlen:=r.length;exact wpAny_truthy_list pl.isList (by simp only[List.size_toArray];lia) ⟨H,I.tok _,by rw[pM r];exact q⟩
  .subst e';obtain⟨Æ,r,pl,hz⟩:=I.tuple hx;have hlen:=r.length;exact truthy_tuple pl (by simp only[List.size_toArray];lia) ⟨H,I.tok _,by rw[pM r];exact q⟩
  .subst e';obtain⟨hz,hS,vs,r,m⟩:kvs.length<=sizeLine/\(p==sysModules)=false/\∃vs,KV kvs vs/\s.heap.DictOf (bF X.prog X.w) p vs:=I.hok p _ hx;have hlen:kvs.length=vs.length:=Paired.length r;exact wpAny_truthy_dict hS m Â ⟨H,I.tok _,by rw[yw r];exact q⟩;|_=>exact(show False from e).elim
theorem Eo(ha:PE X a ta)(he:∀whole,isTrue a X.env whole=(do let v<-whole;standAt a.pos;holding [v] (truthy v))):PT X a (λσ H Q=>ta σ H λx H'=>∃k,Nm X.K x H' k/\Q k H'):=by intro Á s σ H Q I h;exact isTrue_plain (Þ (ha Á s σ H _ I h) λv s1=>by rintro⟨x,H1,I1,r1,q1⟩;exact KZ Á s1 σ H1 x v Q I1 r1 q1) (he _)
theorem ü(r:Ï [x] us):∃u,us=[u]/\Ô x u:=by cases r with|cons r1 r2=>cases r2;exact⟨_,rfl,r1⟩
theorem ň(r:Ï [x,y] us):∃u w',us=[u,w']/\Ô x u/\Ô y w':=by cases r with|cons r1 r2=>cases r2 with|cons r3 r4=>cases r4;exact⟨_,_,rfl,r1,r3⟩
theorem sr(hc:X.calm=true):eO X (.builtin "max") (λxs H Q=>∃i j,xs=[.int i,.int j]/\Q (.int (if j>i then j else i)) H):=by
 intro Á s σ H xs us Q I r h;obtain⟨i,j,rfl,q⟩:=h;obtain⟨u,w',rfl,⟨t,rfl⟩,⟨t',rfl⟩⟩:=ň r;refine max_two_ints (I.ok.hd hc) λh' tk k=>⟨_,H,I.kept k,?_,q⟩;by_cases hj:j>i;.rw[Í hj,Í hj];exact⟨_,rfl⟩
 .rw[Ë hj,Ë hj];exact⟨_,rfl⟩
theorem iW(hc:X.calm=true):eO X (.builtin "min") (λxs H Q=>∃i j,xs=[.int i,.int j]/\Q (.int (if j<i then j else i)) H):=by
 intro Á s σ H xs us Q I r h;obtain⟨i,j,rfl,q⟩:=h;obtain⟨u,w',rfl,⟨t,rfl⟩,⟨t',rfl⟩⟩:=ň r;refine min_two_ints (I.ok.hd hc) λh' tk k=>⟨_,H,I.kept k,?_,q⟩;by_cases hj:j<i;.rw[Í hj,Í hj];exact⟨_,rfl⟩
 .rw[Ë hj,Ë hj];exact⟨_,rfl⟩
theorem Ck:eO X (.type "int") (λxs H Q=>(∃i,xs=[.int i]/\Q (.int i) H)\/∃k,xs=[.bl k]/\Q (.int (if k then 1 else 0)) H):=by
 intro Á s σ H xs us Q I r h;rcases h with⟨i,rfl,q⟩|⟨k,rfl,q⟩;.obtain⟨u,rfl,t,rfl⟩:=ü r;exact call_int_int ⟨.int i,H,I,⟨_,rfl⟩,q⟩
 .obtain⟨u,rfl,r1⟩:=ü r;cases r1;exact call_int_bool ⟨.int (if k then 1 else 0),H,I.tok _,⟨_,rfl⟩,q⟩
end
structure Z0p(h:Heap)(x dx C:Addr)(mA:TX):Prop where
 obj:h.get? x=some (PySem.W.instObj C dx)ns:h.Ns1 dx mA
 ne:dx≠x
theorem Cm{h:Heap}(n:h.Ns1 dx mA):∃od,h.get? dx=some od/\∀name,PySem.W.lookIn name od=some (mA name):=by
 obtain⟨o,es,ep,ho,hd,hk,_,hm⟩:=n;refine⟨o,ho,λname=>?_⟩;have e:=hm name;unfold nsFind findBy at e;rw[<-Array.find?_toList]at e;unfold PySem.W.lookIn;rw[hd];dsimp only;split;.rename_i y q;rw[q]at e;exact congrArg some e
 .rename_i q;rw[q]at e;have a:es.toList.any (·.refKey)=false:=by rw[List.any_eq_false];intro y hy;obtain⟨z,t,IM⟩:=hk y (Array.mem_toList_iff.mp hy);simp[DictEntry.refKey,IM]
  have a':¬es.toList.any (·.refKey)=true:=by rw[a];exact Ř
  rw[Ë a'];exact congrArg some e
theorem Z0p.look(I:Z0p h x dx C mA):∃od,PySem.W.InstAt h x (PySem.W.instObj C dx) C (some od)/\∀name,PySem.W.lookIn name od=some (mA name):=let⟨od,ho,hl⟩:=Cm I.ns;⟨od,⟨I.obj,rfl,rfl,ho⟩,hl⟩
section
end
theorem ķ.some_of(r:ķ (some v) o):∃u,o=some u/\Ô v u:=by cases o with|none=>exact(r).elim;|some u=>exact⟨u,rfl,r⟩
section
theorem Ij(hok:ą P w H h)(e:H a=some (.ins C dx fs)):∃mA,Z0p h a dx C mA/\(∀f,ķ (fs.lookup f) (mA f))/\PySem.Within mA (fs.map (·.1))/\fs.length<=1000/\H dx=some (.own a):=by obtain⟨d,z,ne,ob,mA,n,r,q⟩:=(hok a _ e);exact⟨mA,⟨ob,n,ne⟩,r,q,z,d⟩
end
structure Cls(K:Frag)(C:Addr):Prop where
 pg:PySem.W.plainGet K C Str.empty=true
 hd:PySem.W.hasDictIn K C=true
 po:PySem.W.plainOver K C=true
 sa:PySem.W.findIn K (.ref C) "__setattr__"=some (some (.builtin "object.__setattr__"))
theorem Cls.get{K:Frag}(c:Cls K C)(f:Str):PySem.W.plainGet K C f=true:=c.pg
section
end
section
end
section
variable{σ:St}
inductive İ(K:Frag)(H:Hp):V->Value->Prop where|non:İ K H .non (.type "NoneType")|bl(x:Bool):İ K H (.bl x) (.type "bool")|int(i:Int):İ K H (.int i) (.type "int")|str(x:Str):İ K H (.str x) (.type "str")|flt(x:UInt64):İ K H (.flt x) (.type "float")|lst{a:Addr}{xs:List V}(e:H a=some (.lst xs)):İ K H (.ref a) (.type "list")|frz{a:Addr}{o:Obj}{xs:List V}(e:H a=some (.frz o (.lst xs))):İ K H (.ref a) (.type "list")|tup{a:Addr}{xs:List V}(e:H a=some (.tup xs)):İ K H (.ref a) (.type "tuple")|dK{a:Addr}{kvs:List (Key×V)}(e:H a=some (.dK kvs)):İ K H (.ref a) (.type "dict")|dT{a:Addr}{kvs:List (List Key×V)}(e:H a=some (.dT kvs)):İ K H (.ref a) (.type "dict")|ins{a C dx:Addr}{fs:List (Str×V)}(e:H a=some (.ins C dx fs))(cl:Cls K C)(ha:PySem.W.findIn K (.ref C) "__class__"=some (some (.builtin "object.__class__")))(hn:PySem.W.specialIn K (.builtin "object.__class__") "__get__"=some (some (.builtin "getset_descriptor.__get__")))(Co:PySem.W.takesIn K (.builtin "object.__class__")=some true)(hm:PySem.W.mroIn K C (.type "object")=some true):İ K H (.ref a) (.ref C)
theorem Cp(I:Ç X Á σ H s)(rx:Ô x u)(ty:İ X.K H x t)(e:PySem.W.kitOne X.K t c=some b)(h:∀tk,Q (.bool b) {s with toks:=tk}):wpAny (model X.prog X.w) A (call (.builtin "isinstance") [u,c]) Q E s:=by cases ty with|non=>cases(show u=Value.none from rx);exact PySem.W.kia_one PySem.W.kitx_none I.kIn True.intro e (λz=>nomatch z) h;|bl y=>cases(show u=Value.bool y from rx);exact PySem.W.kia_one PySem.W.kitx_bool I.kIn True.intro e (λz=>nomatch z) h;|int i=>obtain⟨t,q⟩:=(show∃t,u=Value.int i t from rx);cases q;exact PySem.W.kia_one PySem.W.kitx_int I.kIn True.intro e (λz=>nomatch z) h;|str y=>obtain⟨t,q⟩:=(show∃t,u=Value.str y t from rx);cases q;exact PySem.W.kia_one PySem.W.kitx_str I.kIn True.intro e (λz=>nomatch z) h;|flt y=>obtain⟨t,q⟩:=(show∃t,u=Value.float y t from rx);cases q;exact PySem.W.kia_one PySem.W.kitx_float I.kIn True.intro e (λz=>nomatch z) h;|@lst a xs ea=>cases(show u=Value.ref a from rx);obtain⟨_,_,n,_,h1⟩:=(show Ú X.prog X.w H s.heap a (.lst xs)from I.hok a _ ea);exact PySem.W.kia_one PySem.W.kitx_list I.kIn ⟨_,h1,rfl⟩ e (λz=>nomatch z) h;|@frz a ob xs ea=>cases(show u=Value.ref a from rx);obtain⟨_,_,_,n,_,h1⟩:=(show Ú X.prog X.w H s.heap a (.frz ob (.lst xs))from I.hok a _ ea);exact PySem.W.kia_one PySem.W.kitx_list I.kIn ⟨_,h1,rfl⟩ e (λz=>nomatch z) h;|@tup a xs ea=>cases(show u=Value.ref a from rx);obtain⟨_,_,_,p⟩:=(show Ú X.prog X.w H s.heap a (.tup xs)from I.hok a _ ea);obtain⟨o,h1,h2,_⟩:=p;exact PySem.W.kia_one PySem.W.kitx_tuple I.kIn ⟨o,h1,h2⟩ e (λz=>nomatch z) h;|@dK a kvs ea=>cases(show u=Value.ref a from rx);obtain⟨_,_,vs,_,p⟩:=(show Ú X.prog X.w H s.heap a (.dK kvs)from I.hok a _ ea);obtain⟨o,es,ep,h1,h2,_⟩:=p;exact PySem.W.kia_one PySem.W.kitx_dict I.kIn ⟨o,h1,h2.1⟩ e (λz=>nomatch z) h;|@dT a kvs ea=>cases(show u=Value.ref a from rx);obtain⟨_,_,xs,_,o,es,ep,h1,h2,_⟩:=(show Ú X.prog X.w H s.heap a (.dT kvs)from I.hok a _ ea);exact PySem.W.kia_one PySem.W.kitx_dict I.kIn ⟨o,h1,h2.1⟩ e (λz=>nomatch z) h;|@ins a C dx fs ea cl ha hn Co hm=>cases(show u=Value.ref a from rx);obtain⟨mA,O,_⟩:=Ij I.hok ea;obtain⟨od,J,_⟩:=O.look;exact PySem.W.kia_one (PySem.W.kitx_own (cl.get _) cl.hd ha hn Co hm) I.kIn J e (λz=>nomatch z) h
end
structure ì(k:Nat)(A:Around):Prop where
 hd:A.handled=none
 dp:A.depth+3*k+5<recursionLimit
 un:A.units+16*k+200<cLine
 gd:A.guards=some []
theorem ì.mono(r:ì k A)(h:j<=k):ì j A:=⟨r.hd,by have:=r.dp;lia,by have:=r.un;lia,r.gd⟩
theorem ì.deeper(r:ì (k+1) A)(env:Env):ì k (A.deeper env):=⟨r.hd,by have:=r.dp;show A.depth+1+3*k+5<_;lia,by have:=r.un;show A.units+3+16*k+200<_;lia,r.gd⟩
theorem ì.depth(r:ì k A):A.depth<recursionLimit:=by have:=r.dp;lia
theorem ì.units(r:ì k A):A.units+64<cLine:=by have:=r.un;lia
def pN:TA:=λ_ H Q=>Q [] H
def fP(ta:TE)(tr:TA):TA:=λσ H Q=>ta σ H λx H1=>tr σ H1 λxs H2=>Q (x::xs) H2
section
theorem ao:PA X [] pN:=λ_ _ _ _ H Q I h=>Calls.spliced_nil ⟨[],H,I,.nil,h⟩
abbrev Qa8(X:Cx)(e:Expr)(es:List Expr):Prop:=starEach (e::es) X.env=(false,eval e X.env)::starEach es X.env
theorem aK(ha:PE X e te)(hr:PA X es t)(hs:Qa8 X e es:=by rfl):PA X (e::es) (fP te t):=by intro pos Á s σ H Q I h;rw[hs];show wpAny _ _ (spliced ((false,eval e X.env)::backTo pos (starEach es X.env))) _ _ s;refine Calls.spliced_cons (Þ (ha Á s σ H _ I h) λu s1=>?_);rintro⟨x,H1,I1,r1,q1⟩;exact Þ (hr pos Á s1 σ H1 _ I1 q1) λus s2=>by rintro⟨xs,H2,I2,r2,q2⟩;exact⟨x::xs,H2,I2,.cons r1 r2,q2⟩
def rm(t:TA):TE:=λσ H Q=>t σ H λxs H1=>xs.length<=sizeLine/\∀p,H1 p=none->Q (.ref p) (upd H1 p (.tup xs))
def Ik(t:TA):TE:=λσ H Q=>t σ H λxs H1=>xs.length<=sizeLine/\∀p,H1 p=none->Q (.ref p) (upd H1 p (.lst xs))
theorem bW{x1}(h:PA X es t):PE X (.Tuple es x1 pos) (rm t):=by intro Á s σ H Q I hq;refine wpAny_Tuple_spliced (Þ (h pos Á s σ H _ I hq) λus s1⟨xs,H1,I1,r,z,q⟩=>⟨by rw[<-r.length];exact z,?_⟩);have hf:H1 s1.heap.objs.size=none:=I1.hok.fresh (ß _);refine⟨.ref s1.heap.objs.size,upd H1 s1.heap.objs.size (.tup xs),I1.laid (t':=s1.toks) (λb u e=>č _ e) (ß _) ?_,rfl,q _ hf⟩;exact⟨z,us,r,⟨_,ı _ rfl,rfl,_,rfl⟩⟩
theorem cX(h:PA X es t):PE X (.List es pos) (Ik t):=by intro Á s σ H Q I hq;refine wpAny_List_spliced (Þ (h pos Á s σ H _ I hq) λus s1⟨xs,H1,I1,r,z,q⟩=>⟨by rw[<-r.length];exact z,?_⟩);have hf:H1 s1.heap.objs.size=none:=I1.hok.fresh (ß _);refine⟨.ref s1.heap.objs.size,upd H1 s1.heap.objs.size (.lst xs),I1.laid (t':=s1.toks) (λb u e=>č _ e) (ß _) ?_,rfl,q _ hf⟩;exact⟨z,us,0,r,ı _ rfl⟩
end
abbrev Sp:=List V->Hp->VK->XK->Prop
abbrev CXT:=List Env->Hp->Shared->XK->TQ
structure Ŀ(P:Program)(w:World)(K:Frag)(mg:TX)(base:Heap)(A:Around)(outer:List Env)(s:Shared)(H:Hp):Prop where
 frames:A.frames=some outer
 mod:Mod K mg base
 bs:∀b o,base.get? b=some o->s.heap.get? b=some o/\H b=none
 bsz:base.objs.size<=s.heap.objs.size
 funs:s.heap.FunFrames base outer
 frf:∀b∈ė outer,H b=none
 hok:ą P w H s.heap
 bare:AllBare s.gens
def CE(outer:List Env)(P:Program)(w:World)(H:Hp)(s:Shared)(Q:VK)(u:Value)(s':Shared):Prop:=∃v H',s'.os=s.os/\AllBare s'.gens/\Un (ė outer) [] H H' s.heap s'.heap/\ą P w H' s'.heap/\Ô v u/\Q v H'
def CR(CX:CXT)(outer:List Env)(P:Program)(w:World)(H:Hp)(s:Shared)(Q:VK)(E:XK)(r:Result)(s':Shared):Prop:=match r with|.ok (.ret u)=>CE outer P w H s Q u s'|.ok _=>False|.error e=>CX outer H s E e s'
structure Ñ(P:Program)(w:World)(K:Frag)(mg:TX)(base:Heap)(CX:CXT)(k:Nat)(f:Addr)(fd:FuncData)(ps:ó)(sp:Sp):Prop where
 len:∀vs H Q E,sp vs H Q E->vs.length=ps.length
 run:∀A outer s H args us vs Q E,ì k A->Ŀ P w K mg base A outer s H->BindsTo s fd args (ps.zip us)->Ï vs us->sp vs H Q E->codeAny (model P w) A (.call (.ref f) args) (CR CX outer P w H s Q E) s
theorem Ñ.imp{K:Frag}(F:Ñ P w K mg base CX k f fd ps sp)(h:∀vs H Q E,sp' vs H Q E->sp vs H Q E):Ñ P w K mg base CX k f fd ps sp':=⟨λvs H Q E q=>F.len vs H Q E (h _ _ _ _ q),λA outer s H args us vs Q E hr he hb hv hs=>F.run A outer s H args us vs Q E hr he hb hv (h _ _ _ _ hs)⟩
section
variable{σ:St}
theorem Ç.env0(I:Ç X Á σ H s):Ŀ X.prog X.w X.K X.mg X.base X.A X.stack s H:=⟨I.ok.frames,I.ok.mod,I.bs,ŝ I.ok.bsz I.sz,I.stack,I.stkFree,I.hok,I.bare⟩
theorem Ç.after(I:Ç X Á σ H s)(h:CE X.stack X.prog X.w H s Q u s'):EP X Á σ Q u s':=by obtain⟨v,H',os,bare,un,hok,r,q⟩:=h;obtain⟨hh,g,d,t,TV⟩:=s';obtain rfl:TV=s.os:=os;exact⟨v,H',I.call (h':=hh) (g':=g) (d':=d) (t':=t) (ch:=[]) un hok bare (λb z=>absurd z Ù),r,q⟩
end
def vO(sp:Sp)(tj:List V)(E:XK)(t:TA):TE:=λσ H Q=>t σ H λvs H1=>sp (vs++tj) H1 Q E
def ø(K:Frag)(fd:FuncData)(ps:ó)(ds:ā):Prop:=∀s us,K.In s.heap->(us++ds).length=ps.length->BindsTo s fd ⟨us,[]⟩ (ps.zip (us++ds))
theorem ø.all{K:Frag}(h:∀us,us.length=ps.length->bindArgs fd ⟨us,[]⟩=pure (ps.zip us)):ø K fd ps []:=λs us _ hl=>by rw[Ś]at hl⊢;exact .of_eq (h us hl)
def uq(CX:CXT)(X:Cx)(E:XK):Prop:=∀Á(σ:St)H s e s',Ç X Á σ H s->CX X.stack H s E e s'->X.xe e s'
section
variable{p pos apos:Pos}
theorem La{σ:St}(F:Ñ X.prog X.w X.K X.mg X.base CX k f fd ps sp)(hr:ì k X.A)(hb:ø X.K fd ps ds)(hd:Ï tj ds)(hx:uq CX X E)(I:Ç X Á σ H s)(r:Ï vs us)(h:sp (vs++tj) H Q E):wpAny (model X.prog X.w) X.A (call (.ref f) us) (EP X Á σ Q) X.xe s:=by
 have r2:Ï (vs++tj) (us++ds):=r.append hd;have hl:(us++ds).length=ps.length:=by rw[<-r2.length];exact F.len _ _ _ _ h
 refine wpAny_call (codeAny_mono (F.run X.A X.stack s H ⟨us,[]⟩ (us++ds) (vs++tj) Q E hr I.env0 (hb s us I.kIn hl) r2 h) λr s' hq=>?_);cases r with|error e=>exact hx Á σ H s e s' I hq;|ok fl=>cases fl with|ret u=>exact I.after hq;|next=>exact False.elim hq;|brk=>exact False.elim hq;|cont=>exact False.elim hq
abbrev Qa9(X:Cx)(p:Pos)(es:List Expr):Prop:=(backTo p (starEach es X.env)).any (·.1)=false
theorem zQ(F:Ñ X.prog X.w X.K X.mg X.base CX k f fd ps sp)(hr:ì k X.A)(hg:Gl X x)(hm:X.mg x=some (.ref f))(hk:PySem.W.keepIn X.K (.ref f)=true)(hb:ø X.K fd ps ds)(hd:Ï tj ds)(hx:uq CX X E)(ha:PA X (e::es) t)(fk:ź x:=by decide)(he:Qa8 X e es:=by rfl)(ff:Qa9 X pos es:=by rfl):PE X (.Call (.Name x p) (e::es) [] pos) (vO sp tj E t):=by intro Á s σ H Q I h;refine wpAny_Call_Name_kw (jL I hg hm ?_ fk);refine PySem.W.callWith_K (h₀:=X.base) I.ok.mod.kin hk (Þ (ha pos Á s σ H _ I h) λus s1⟨vs,H1,I1,r,q⟩=>⟨I1.kIn,?_⟩) he ff;exact La F hr hb hd hx I1 r q
end
section
end
structure Ã(N P:ó)(sc:Scope):Prop where
 kind:sc.kind=.function
 co:sc.isCoroutine=false
 gen:sc.isGenerator=false
 nd:N.Nodup
 pre:N.take P.length=P
 par:∀x∈P,sc.names.lookup x=some .local\/sc.names.lookup x=some .cell
 nofree:∀y∈sc.names,y.2≠.free
theorem sy{kindOf:Str->Option NameKind}:∀{binds:List (Str×Value)}{m:TX},(∀v,(x,v)∉binds)->bindL kindOf binds m x=m x
 |[],_,_=>rfl|(n,v)::r,m,h=>by
  unfold bindL;rw[sy λw hw=>h w (Zak _ hw)];split
  .have:x≠n:=by rintro rfl;exact h v Zap
   simp[this]
  .rfl
theorem sE{kindOf:Str->Option NameKind}:∀{binds:List (Str×Value)}{m:TX},(∀v,(x,v)∉binds)->bindC kindOf binds m x=m x
 |[],_,_=>rfl|(n,v)::r,m,h=>by
  unfold bindC;rw[sE λw hw=>h w (Zak _ hw)];split;.rfl
  .have:x≠n:=by rintro rfl;exact h v Zap
   simp[this]
theorem sG{kindOf:Str->Option NameKind}:∀{P:ó}{vs:ā}{i:Nat}{m:TX},P.Nodup->P[i]?=some x->vs[i]?=some v->kindOf x=some .local->bindL kindOf (P.zip vs) m x=some v|[],_,_,_,_,h,_,_=>by simp at h;|_::_,[],_,_,_,_,h,_=>by simp at h;|p::P,w::vs,0,m,nd,h1,h2,hk=>by simp at h1 h2;subst h1;subst h2;show bindL kindOf ((p,w)::P.zip vs) m p=_;unfold bindL;rw[sy λv hv=>(Za8.mp nd).1 (Ϫ hv).1,Í hk];simp;|p::P,w::vs,i+1,m,nd,h1,h2,hk=>by show bindL kindOf ((p,w)::P.zip vs) m x=_;unfold bindL;exact sG (i:=i) (Za8.mp nd).2 (by simpa using h1) (by simpa using h2) hk
theorem sJ{kindOf:Str->Option NameKind}:∀{P:ó}{vs:ā}{i:Nat}{m:TX},P.Nodup->P[i]?=some x->vs[i]?=some v->kindOf x≠some .local->bindC kindOf (P.zip vs) m x=some v|[],_,_,_,_,h,_,_=>by simp at h;|_::_,[],_,_,_,_,h,_=>by simp at h;|p::P,w::vs,0,m,nd,h1,h2,hk=>by simp at h1 h2;subst h1;subst h2;show bindC kindOf ((p,w)::P.zip vs) m p=_;unfold bindC;rw[sE λv hv=>(Za8.mp nd).1 (Ϫ hv).1,Ë hk];simp;|p::P,w::vs,i+1,m,nd,h1,h2,hk=>by show bindC kindOf ((p,w)::P.zip vs) m x=_;unfold bindC;exact sJ (i:=i) (Za8.mp nd).2 (by simpa using h1) (by simpa using h2) hk
def start(N:ó)(vs:List V):St:=vs.map some++List.replicate (N.length-vs.length) none
def jt(CX:CXT)(P:Program)(w:World)(K:Frag)(mg:TX)(base:Heap)(N:ó)(qual:Str)(scope:Scope)(f:Addr)(cd:Value)(A:Around)(outer:List Env)(s:Shared)(H:Hp)(E:XK):Cx where prog:=P;w:=w;K:=K;mg:=mg;base:=base;A:=A.deeper (envOfC qual scope s.heap.objs.size f cd);N:=N;s₀:=s;H₀:=H;env:=envOfC qual scope s.heap.objs.size f cd;outer:=outer;stack:=envOfC qual scope s.heap.objs.size f cd::outer;ex:=[];calm:=true;fn:=λ_=>true;pn:=[];xe:=λe s'=>wpAny (model P w) (A.deeper (envOfC qual scope s.heap.objs.size f cd)) (leaving (envOfC qual scope s.heap.objs.size f cd) e) (λ_ kU=>CX outer H s E e kU) (λe' kU=>CX outer H s E e' kU) s'
theorem vP{sc:Scope}(h:sc.names.lookup x=some .cell):∃c,(cellsFrom n sc.names []).lookup x=some c:=by have q:=PySem.W.cellsFrom_some sc.names n [] (.inl h);exact Zau.mp q
theorem sO{K:Frag}(S:Ã N ps scope)(hd:A.handled=none)(e0:Ŀ P w K mg base A outer s H)(hl:vs.length=ps.length)(r:Ï vs us)(x:InCallC s s.heap.objs.size (bindL (envOfC qual scope s.heap.objs.size f cd).kindOf (ps.zip us) λ_=>none) (cellsFrom (s.heap.objs.size+1) scope.names []) (bindC (envOfC qual scope s.heap.objs.size f cd).kindOf (ps.zip us) λ_=>none) s1):Ç (jt CX P w K mg base N qual scope f cd A outer s H E) [] (start N vs) H s1:=by
 have ff:ps.length<=N.length:=by have:=congrArg List.length S.pre;rw[Ĵ]at this;lia
 obtain⟨h1,tk,rfl,hk⟩:=x.done;have Ct:∀b:Addr,b∉(jt CX P w K mg base N qual scope f cd A outer s H E).ex:=λb z=>absurd (show b∈([]:Č)from z) Ù;refine⟨⟨e0.mod,S.kind,rfl,rfl,ß _,λy z c h1 h2=>?_,λy hy=>?_,λy c _ h=>?_,λ_=>hd,Around.frames_deeper e0.frames,.inr ⟨rfl,rfl⟩,λb z=>absurd z (Ct b),e0.bs,e0.bsz,λb _ _=>Ct b,λb z=>absurd z (Ct b),e0.funs,e0.frf⟩,rfl,e0.bare,Un.kept hk,⟨_,x.toInCall.ns,λi y v h1 h2 h3=>?_⟩,λy c h=>⟨_,x.cell y c h⟩,e0.hok.fresh (ß _),λy c h=>?_,λp hp=>absurd (show p∈([]:T7)from hp) Ù,e0.hok.kept hk,?_⟩;.exact name_of_addr x.apart (PySem.mem_of_lookup h1) (PySem.mem_of_lookup h2)
 .have hy:scope.names.lookup y=some .cell\/scope.names.lookup y=some .free:=hy;rcases hy with hy|hy;.exact vP hy
  .exact absurd rfl (S.nofree _ (PySem.mem_of_lookup hy))
 .exact Za6 (x.above y c (PySem.mem_of_lookup h))
 .have hi:i<vs.length:=by
   unfold start at h2;by_cases hi:i<vs.length;.exact hi
   .rw[zBc (by simpa using hi)]at h2;rw[Zbk]at h2;split at h2<;>cases h2
  have ha:vs[i]?=some v:=by unfold start at h2;rw[zBd (by simpa using hi),ċ]at h2;cases e:vs[i]? with|none=>rw[e]at h2;cases h2;|some a=>rw[e]at h2;cases h2;rfl
  obtain⟨u,hu,rv⟩:=r.get ha;have hp:ps[i]?=some y:=by rw[<-S.pre,List.getElem?_take_of_lt Â];exact h1
  have Of:ps.Nodup:=by rw[<-S.pre];exact S.nd.sublist (List.take_sublist _ _)
  refine⟨u,rv,?_⟩;rcases S.par y (ŕ hp)with k|k;.exact .inl ⟨k,sG Of hp hu k⟩
  .obtain⟨c,e⟩:=vP (n:=s.heap.objs.size+1) k;refine .inr ⟨.inl k,c,e,?_⟩;have q:=x.cell y c e;rw[sJ Of hp hu (by show scope.names.lookup y≠_;rw[k];decide)]at q;exact q
 .exact e0.hok.fresh (Za6 (x.above y c (PySem.mem_of_lookup h)))
 .unfold start;show _=N.length;rw[õ,Ø,Za9];lia
theorem Ep{K:Frag}{dV kV doc pm ai ct oc:Value}{an od:Option Addr}{kX:Array (Option Value)}{N ps:ó}{sp:Sp}(lk:K.lookup f=some ⟨oc,od,.func (PySem.W.fnOf name qual params body scope dV kV doc pm an ai ct),kX⟩)(eI:PySem.W.codeIn K ai qual=true)(S:Ã N ps scope)(len:∀vs H Q E,sp vs H Q E->vs.length=ps.length)(ay:∀A outer s H vs Q E,ì k (A.deeper (envOfC qual scope s.heap.objs.size f ai))->sp vs H Q E->∃t,ľ (jt CX P w K mg base N qual scope f ai A outer s H E) body t/\t {nx:=λ_ H'=>Q .non H',rt:=Q} (start N vs) H):Ñ P w K mg base CX (k+1) f (PySem.W.fnOf name qual params body scope dV kV doc pm an ai ct) ps sp:=by
 refine⟨len,λA outer s H args us vs Q E hr e0 hb r gT=>?_⟩;have hl:=len _ _ _ _ gT;have KX:K.In s.heap:=e0.mod.kin.keeps λb o e=>(e0.bs b o e).1;have lim:s.heap.NoLimit:=e0.mod.nolimit.keeps λb o e=>(e0.bs b o e).1;have mh:∀y∈ps.zip us,scope.names.lookup y.1=some .local\/(scope.names.lookup y.1=some .cell/\((cellsFrom (s.heap.objs.size+1) scope.names []).lookup y.1).isSome=true):=λ⟨n,v⟩hy=>by
  rcases S.par n (Ϫ hy).1 with q|q;.exact .inl q
  .exact .inr ⟨q,PySem.W.cellsFrom_some _ _ _ (.inl q)⟩
 refine codeAny_call_function hr.depth (KX _ _ lk) rfl S.co S.gen rfl (PySem.W.codeRec_of KX eI) (hb _ _ _ _ ?_);refine wpAny_newFunctionEnv_cells S.kind mh λenv he s1 x=>?_;subst he;refine⟨lim.keeps x.toInCall.keep,codeAny_func ?_⟩;obtain⟨t,ht,hq⟩:=ay A outer s H vs Q E (hr.deeper _) gT;have I:Ç (jt CX P w K mg base N qual scope f ai A outer s H E) [] (start N vs) H s1:=sO S hr.hd e0 hl r x;refine wpAny_mono (ht [] s1 (start N vs) H _ I hq) (λfl s' hs=>?_) λe s' hs=>hs;have fin:∀{ah:St}{H':Hp}{v:V}{u:Value},Ç (jt CX P w K mg base N qual scope f ai A outer s H E) [] ah H' s'->Ô v u->Q v H'->CE outer P w H s Q u s':=λ{ah H' v u}J rv q=>⟨v,H',J.os,J.bare,J.base,J.hok,rv,q⟩;cases fl with|ret u=>obtain⟨v,ah,H',J,rv,q⟩:=hs;exact fin J rv q;|next=>obtain⟨ah,H',J,q⟩:=hs;exact fin (v:=V.non) (u:=Value.none) J rfl q;|brk=>obtain⟨_,_,_,q⟩:=hs;exact False.elim q;|cont=>obtain⟨_,_,_,q⟩:=hs;exact False.elim q
section
variable{p pos:Pos}{id T:String}
def tCB(r:List V->Hp->VK->Prop)(t:TA):TE:=λσ H Q=>t σ H λvs H1=>r vs H1 Q
theorem aG(hc:eO X (.builtin id) r)(hg:Gl X x)(hm:X.mg x=none)(hv:bootBuiltins x=some (.builtin id))(ha:PA X (e::es) t)(hn:x≠"__name__":=by decide)(fk:ź x:=by decide)(he:Qa8 X e es:=by rfl)(ff:Qa9 X pos es:=by rfl):PE X (.Call (.Name x p) (e::es) [] pos) (tCB r t):=by intro Á s σ H Q I h;refine wpAny_Call_Name_kw (kJ I hg hm hv ?_ hn fk);exact PyProof.Rows.callWith_builtin1 (Þ (ha pos Á s σ H _ I h) λus s1=>by rintro⟨vs,H1,I1,r1,q1⟩;exact hc Á s1 σ H1 vs us Q I1 r1 q1) he ff
theorem bN(hc:eO X (.type T) r)(hg:Gl X x)(hm:X.mg x=none)(hv:bootBuiltins x=some (.type T))(ha:PA X (e::es) t)(hn:x≠"__name__":=by decide)(fk:ź x:=by decide)(he:Qa8 X e es:=by rfl)(ff:Qa9 X pos es:=by rfl):PE X (.Call (.Name x p) (e::es) [] pos) (tCB r t):=by intro Á s σ H Q I h;refine wpAny_Call_Name_kw (kJ I hg hm hv ?_ hn fk);exact PyProof.Rows.callWith_type1 (Þ (ha pos Á s σ H _ I h) λus s1=>by rintro⟨vs,H1,I1,r1,q1⟩;exact hc Á s1 σ H1 vs us Q I1 r1 q1) he ff
end
end L2
namespace HT
open PySem PyProof.Rows
section
open PySem.SeqAt
open PySem.AutoSeq1 (wpAny_loadPart')
open PySem.MeetsSeq PySem.MeetsSeq2 PySem.MeetsSeq3
end
section
theorem cat_tup(ht:IsTup s.heap t vs.toArray)(hb:IsTup s.heap b ws.toArray)(hv:vs≠[])(h1:ws=[]->Q (.ref t) s)(h2:ws≠[]->Q (.ref s.heap.objs.size) {s with heap:=s.heap.push {cls:=.type "tuple",data:=.seq (vs++ws).toArray}})(hsz:vs.length+ws.length<=sizeLine):wpAny (model prog w) A (binaryOp .Add (.ref t) (.ref b)) Q E s:=by
 obtain⟨⟨cls,dd,data,sl⟩,ho,hc,n,hd⟩:=id ht;obtain⟨⟨IP,AN,data2,kC⟩,qo,xi,n2,hd2⟩:=id hb;simp only at hc hd xi hd2;subst hc hd xi hd2;have e:vs.toArray++ws.toArray=(vs++ws).toArray:=by simp
 by_cases hw:ws=[];.exact concat_meets ⟨_,ho,rfl⟩ ⟨_,qo,rfl⟩ noFill_tuple_add seq_tuple_add PySem.F.slot_tuple_add PySem.F.entry_tuple_add (PySem.F.args_tuple_add_2 _ _) (tuple_addW1 t b vs.toArray ws.toArray n n2 dd AN sl kC (by simpa using hv) (by simp[hw])) ⟨ho,qo,h1 hw⟩
 .refine concat_meets ⟨_,ho,rfl⟩ ⟨_,qo,rfl⟩ noFill_tuple_add seq_tuple_add PySem.F.slot_tuple_add PySem.F.entry_tuple_add (PySem.F.args_tuple_add_2 _ _) (tuple_addW2 t b vs.toArray ws.toArray n n2 dd AN sl kC (by simpa using hv) (by simpa using hw) (by rw[ē];exact hsz)) ⟨ho,qo,?_⟩;rw[e];exact h2 hw
def sIx(n d:Nat):Option Int->Nat|none=>d|some v=>if v<0 then(v+(n:Int)).toNat else min v.toNat n
theorem sIx_none(n d:Nat):sIx n d none=d:=rfl
theorem sIx_nat(n d k:Nat):sIx n d (some (k:Int))=min k n:=by rfl
theorem Lb(n d:Nat)(hd:d<=n)(o:Option Int):sIx n d o<=n:=by cases o with|none=>exact hd;|some v=>
  show(if v<0 then(v+(n:Int)).toNat else min v.toNat n)<=n;by_cases hv:v<0;.rw[Í hv];lia
  .rw[Ë hv];exact Nat.min_le_right _ _
theorem oR(v:Int)(n d:Nat):(if v<0 then max (v+(n:Int)) 0 else min v (n:Int))=((sIx n d (some v):Nat):Int):=by
 show(if v<0 then max (v+(n:Int)) 0 else min v (n:Int))=(((if v<0 then(v+(n:Int)).toNat else min v.toNat n):Nat):Int);by_cases hv:v<0;.simp only[if_pos hv];lia
 .simp only[if_neg hv];lia
theorem yx(lo hi:Option Int)(n:Nat):Builtin.Slice.sliceAdjust lo hi 1 (n:Int)=(((sIx n 0 lo:Nat):Int),((sIx n n hi:Nat):Int)):=by
 refine Prod.ext ?_ ?_;.cases lo with|none=>rfl;|some v=>exact oR v n 0
 .cases hi with|none=>rfl;|some v=>exact oR v n n
theorem yz(i j:Nat):Builtin.Slice.slicePlaces (i:Int) (j:Int) 1=j-i:=by unfold Builtin.Slice.slicePlaces;split<;>lia
theorem pO(p:IsPart v o)(h:Q o s):wpAny (model prog w) A (Builtin.Slice.slicePartIndex v) Q E s:=by cases p with|none=>exact slicePart_none h;|int i t=>exact slicePart_int h
theorem iY{lo hi:Option Int}{Q:Int×Int×Nat->Shared->Prop}(hs:s.heap.IsSliceOf sl vl vu .none)(pl:IsPart vl lo)(pu:IsPart vu hi)(h:Q (((sIx n 0 lo:Nat):Int),1,sIx n n hi-sIx n 0 lo) s):wpAny (model prog w) A (Builtin.Slice.sliceApplied (.ref sl) (pure (n:Int))) Q E s:=by obtain⟨os,xt,FE,CA⟩:=id hs;unfold Builtin.Slice.sliceApplied Builtin.Slice.sliceFields;refine Å (Å (wpAny_field xt CA (x:=vl) rfl (Å (wpAny_field xt CA (x:=vu) rfl (Å (wpAny_field xt CA (x:=.none) rfl (Ý ?_)))))));refine Å (slicePart_none ?_);show wpAny _ _ (if((1:Int)==0)=true then _ else _) _ _ s;rw[Ë Û];refine Å (pO pl (Å (pO pu (Å (Ý ?_)))));show wpAny _ _ (match Builtin.Slice.sliceAdjust lo hi 1 (n:Int)with|(lo,hi)=>pure (lo,(1:Int),Builtin.Slice.slicePlaces lo hi 1)) _ _ s;rw[yx lo hi n];show wpAny _ _ (pure (((sIx n 0 lo:Nat):Int),(1:Int),Builtin.Slice.slicePlaces ((sIx n 0 lo:Nat):Int) ((sIx n n hi:Nat):Int) 1)) _ _ s;rw[yz];exact Ý h
theorem Er(xs:Qa2)(i k:Nat):((List.range k).filterMap λ(m:Nat)=>xs[((i:Int)+(m:Int)*1).toNat]?).toArray=((xs.toList.drop i).take k).toArray:=by
 have e:(λ(m:Nat)=>xs[((i:Int)+(m:Int)*1).toNat]?)=λm=>xs[i+m]?:=by grind
 rw[e];have:=pick_run xs i k;rw[List.filterMap_map]at this;have e2:((λx=>xs[x]?)∘λx=>i+x)=λm=>xs[i+m]?:=rfl;rw[e2]at this;rw[this]
theorem getItem_tuple_cut{lo hi:Option Int}(ht:IsTup s.heap t items)(hs:s.heap.IsSliceOf sl vl vu .none)(pl:IsPart vl lo)(pu:IsPart vu hi)(hw:¬(sIx items.size 0 lo=0/\sIx items.size items.size hi=items.size))(h:Q (.ref s.heap.objs.size) {s with heap:=s.heap.push {cls:=.type "tuple",data:=.seq ((items.toList.drop (sIx items.size 0 lo)).take (sIx items.size items.size hi-sIx items.size 0 lo)).toArray}})(hsz:items.size<=sizeLine):wpAny (model prog w) A (getItem (.ref t) (.ref sl)) Q E s:=by
 have ja:sizeOk (.seq ((items.toList.drop (sIx items.size 0 lo)).take (sIx items.size items.size hi-sIx items.size 0 lo)).toArray):=by show((items.toList.drop (sIx items.size 0 lo)).take (sIx items.size items.size hi-sIx items.size 0 lo)).toArray.size<=sizeLine;rw[ē,Ĵ,Zav,Ş];lia
 have hj:sIx items.size items.size hi<=items.size:=Lb _ _ (ß _) hi;obtain⟨os,xt,FE,CA⟩:=id hs;have IQ:s.TypeIs (.ref sl) "slice":=⟨os,xt,FE⟩;unfold getItem;try with_reducible refine wpAny_holding ?_
 first|refine Å (Ý ?_)|skip
 refine Å (wpAny_sequenceKey ht.typeIs Û ?_);refine Å (wpAny_callSpecial?_slot (name:=Str.ofString "__getitem__") ht.typeIs PyProof.Rows.slot_tuple_getitem (wpAny_call_entry PyProof.Rows.slot_tuple_getitem ht.typeIs entry_tuple_getitem ?_ (args_tuple_getitem _ _)));show wpAny _ _ (Builtin.Tuple.tupleItemsOf (.ref t)>>=_) _ _ s;refine Å (tupleItemsOf_ ht ?_);refine Å (wpAny_typeOf IQ ?_);rw[Í Û];refine Å (iY hs pl pu ?_);have IS:¬((((sIx items.size 0 lo:Nat):Int)==0&&(1:Int)==1&&(sIx items.size items.size hi-sIx items.size 0 lo)==items.size)=true):=by intro q;rw[ġ,ġ]at q;have q1:((sIx items.size 0 lo:Nat):Int)=0:=eq_of_beq q.1.1;have q2:sIx items.size items.size hi-sIx items.size 0 lo=items.size:=eq_of_beq q.2;exact hw ⟨Â,Â⟩
 show wpAny _ _ (if(((sIx items.size 0 lo:Nat):Int)==0&&(1:Int)==1&&(sIx items.size items.size hi-sIx items.size 0 lo)==items.size)=true then _ else _) _ _ s;rw[Ë IS,Er];first|exact Å (m:=Builtin.Tuple.tupleExact _) (ϣ (Ý ⟨_,rfl,Ý h⟩) ja);|exact Å (m:=Builtin.Tuple.tupleExact _) (ϣ (Å (Ý (Ý ⟨_,rfl,Ý h⟩))) ja);|exact Å (Å (m:=Builtin.Tuple.tupleExact _) (ϣ (Ý (Ý ⟨_,rfl,Ý h⟩)) ja));|exact Å (Å (m:=Builtin.Tuple.tupleExact _) (ϣ (Ý ⟨_,rfl,Ý h⟩) ja))
end
end HT
namespace L2
open PySem PySem.Spec PyProof.Rows
abbrev TO:=St->Hp->(Option Int->Hp->Prop)->Prop
def PO(X:Cx)(e:Option Expr)(t:TO):Prop:=∀Á s(σ:St)H Q,Ç X Á σ H s->t σ H Q->wpAny (model X.prog X.w) X.A (evalPart e X.env) (λu s'=>∃o H',Ç X Á σ H' s'/\IsPart u o/\Q o H') X.xe s
def Il:TO:=λ_ H Q=>Q none H
def Np(t:TE):TO:=λσ H Q=>t σ H λx H1=>∃i,x=.int i/\Q (some i) H1
theorem ĭ{ns:WF}:∀{us:ā},Ï (ns.map V.int) us->IntsAre us ns:=by induction ns with|nil=>intro us r;rw[List.map_nil]at r;cases r;exact .nil;|cons n ns ih=>intro us r;cases r with|cons r1 r2=>obtain⟨t,e⟩:=r1;subst e;exact .cons n t (ih r2)
section
variable{lo hi:Option Expr}
theorem ur:PO X none Il:=by intro Á s σ H Q I h;exact Ý ⟨none,H,I,.none,h⟩
theorem ut(h:PE X e te):PO X (some e) (Np te):=by intro Á s σ H Q I hw;refine Þ (h Á s σ H _ I hw) λu s1=>?_;rintro⟨x,H1,I1,r1,q1⟩;obtain⟨i,rfl,q⟩:=q1;obtain⟨t,rfl⟩:=r1;exact⟨some i,H1,I1,.int i t,q⟩
def SlR(X:Cx)(r:V->Option Int->Option Int->Hp->VK->Prop):Prop:=∀Á s(σ:St)H x v vl vu lo hi sl Q,Ç X Á σ H s->Ô x v->s.heap.IsSliceOf sl vl vu .none->IsPart vl lo->IsPart vu hi->r x lo hi H Q->∃T id,typeLookup (.type T) "__getitem__"=pure (some (.builtin id))/\s.TypeIs v T/\wpAny (model X.prog X.w) X.A (getItem v (.ref sl)) (EP X Á σ Q) X.xe s
def tSl(r:V->Option Int->Option Int->Hp->VK->Prop)(te:TE)(tl th:TO):TE:=λσ H Q=>te σ H λx H1=>tl σ H1 λl H2=>th σ H2 λu H3=>r x l u H3 Q
theorem pP(hr:SlR X r)(he:PE X e te)(hl:PO X lo tl)(hu:PO X hi th):PE X (.Subscript e (.Slice lo hi none p2) pos) (tSl r te tl th):=by intro Á s σ H Q I h;refine Subscript_ (Þ (he Á s σ H _ I h) λv s1=>?_);rintro⟨x,H1,I1,r1,q1⟩;refine wpAny_Slice (Þ (hl Á s1 σ H1 _ I1 q1) λvl s2⟨l,H2,I2,pl,q2⟩=>Þ (hu Á s2 σ H2 _ I2 q2) λvu s3=>?_);rintro⟨u,H3,I3,pu,q3⟩;refine Ý ?_;have I4:Ç X Á σ H3 {s3 with heap:=s3.heap.push {cls:=.type "slice",data:=.fields #[vl,vu,.none]}}:=I3.kept (t':=s3.toks) λb ob q=>č _ q;obtain⟨T,id,hT,ht,hg⟩:=hr Á {s3 with heap:=s3.heap.push {cls:=.type "slice",data:=.fields #[vl,vu,.none]}} σ H3 x v vl vu l u s3.heap.objs.size Q I4 r1 (Heap.IsSliceOf.new ..) pl pu q3;exact tail_any (ops:=[.ref s3.heap.objs.size,v]) ht hT hg (by with_unfolding_all rfl)
def pQ(xs:List V)(lo hi:Option Int):List V:=(xs.drop (HT.sIx xs.length 0 lo)).take (HT.sIx xs.length xs.length hi-HT.sIx xs.length 0 lo)
theorem o9(xs:List V)(lo hi:Option Int):(pQ xs lo hi).length<=xs.length:=by unfold pQ;rw[Ĵ,Zav];lia
inductive Z0h(K:Frag)(x:V)(lo:Option Int)(hi:Option Int)(H:Hp)(Q:VK):Prop|mk:∀a xs,(x=.ref a)->(Î K H a xs)->(¬(HT.sIx xs.length 0 lo=0/\HT.sIx xs.length xs.length hi=xs.length))->(∀p,H p=none->Q (.ref p) (upd H p (.tup (pQ xs lo hi))))->Z0h K x lo hi H Q
def Q3(K:Frag):V->Option Int->Option Int->Hp->VK->Prop:=λx lo hi H Q=>Z0h K x lo hi H Q
theorem Ld:SlR X (Q3 X.K):=by
 intro Á s σ H x v vl vu lo hi sl Q I rx hs pl pu h;obtain⟨a,xs,rfl,hx,hw,q⟩:=h;cases rx;obtain⟨Æ,r,ht,hz⟩:=I.tuple hx;have hlen:Æ.toArray.size=xs.length:=by rw[ē];exact r.length.symm
 refine⟨"tuple",_,PyProof.Rows.slot_tuple_getitem.lookup,ht.typeIs,?_⟩;refine HT.getItem_tuple_cut ht hs pl pu (by rw[hlen];exact hw) ?_ (by rw[hlen];exact hz);rw[hlen];refine⟨.ref s.heap.objs.size,_,I.laid (t':=s.toks) (o:=.tup (pQ xs lo hi)) (λb ob q=>č _ q) (ß _) ?_,rfl,q _ (I.hok.fresh (ß _))⟩;exact⟨ŝ (o9 xs lo hi) hz,_,(r.drop (HT.sIx xs.length 0 lo)).take (HT.sIx xs.length xs.length hi-HT.sIx xs.length 0 lo),IsTup.new _ _⟩
inductive Z02(K:Frag)(x:V)(y:V)(H:Hp)(Q:VK):Prop|mk:∀a b xs ys,(x=.ref a)->(y=.ref b)->(Î K H a xs)->(Î K H b ys)->(xs≠[])->(xs.length+ys.length<=sizeLine)->((ys=[]->Q (.ref a) H))->((ys≠[]->∀p,H p=none->Q (.ref p) (upd H p (.tup (xs++ys)))))->Z02 K x y H Q
def Nq(K:Frag):R2:=λx y H Q=>Z02 K x y H Q
theorem Ï.nil_iff(r:Ï xs us):us=[]↔xs=[]:=by cases r with|nil=>simp;|cons _ _=>simp
theorem zR:Ġ X (binaryOp .Add) (Nq X.K):=by intro Á s σ H x y v u Q I rx ry h;obtain⟨a,b,xs,ys,rfl,rfl,ha,hb,hx,hz,q1,q2⟩:=h;cases rx;cases ry;obtain⟨Æ,r1,p1,_⟩:=I.tuple ha;obtain⟨bS,r2,p2,_⟩:=I.tuple hb;refine HT.cat_tup p1 p2 (λz=>hx (r1.nil_iff.mp z)) (λz=>⟨.ref a,H,I,rfl,q1 (r2.nil_iff.mp z)⟩) (λz=>?_) (by rw[<-r1.length,<-r2.length];exact hz);refine⟨.ref s.heap.objs.size,_,I.laid (t':=s.toks) (o:=.tup (xs++ys)) (λb ob q=>č _ q) (ß _) ?_,rfl,q2 (λw=>z (r2.nil_iff.mpr w)) _ (I.hok.fresh (ß _))⟩;exact⟨by rw[õ];exact hz,_,r1.append r2,IsTup.new _ _⟩
end
def υ(n:Nat)(i:Int):Option Nat:=if 0<=i then(if i<n then some i.toNat else none)else if-(n:Int)<=i then some (i+n).toNat else none
def Ņ{α:Type}(xs:List α)(i:Int):Option α:=(υ xs.length i).bind λj=>xs[j]?
theorem uv(h:υ n i=some j):seqIndex? i n=some j/\j<n/\-(n:Int)<=i/\i<n:=by
 unfold υ at h;by_cases h0:0<=i
 .rw[Í h0]at h;by_cases h1:i<n;.rw[Í h1]at h;have e:i.toNat=j:=ŗ h;exact⟨by rw[seqIndex_of h0 h1,e],Â,Â,h1⟩
  .rw[Ë h1]at h;cases h
 .rw[Ë h0]at h;by_cases h1:-(n:Int)<=i;.rw[Í h1]at h;have e:(i+n).toNat=j:=ŗ h;exact⟨by rw[seqIndex_neg Â h1,e],Â,h1,Â⟩
  .rw[Ë h1]at h;cases h
theorem zT{v:α}(h:Ņ xs i=some v):∃j,seqIndex? i xs.length=some j/\xs[j]?=some v/\j<xs.length/\-(xs.length:Int)<=i/\i<xs.length:=by unfold Ņ at h;cases e:υ xs.length i with|none=>rw[e]at h;cases h;|some j=>rw[e]at h;obtain⟨h1,h2,h3,h4⟩:=uv e;exact⟨j,h1,h,h2,h3,h4⟩
theorem fj{j:Nat}{v:α}(h:xs[j]?=some v):Ņ xs (j:Int)=some v:=by
 have hj:j<xs.length:=(ĵ.mp h).1;have e:υ xs.length (j:Int)=some j:=by unfold υ;rw[Í Â,Í Â];simp
 unfold Ņ;rw[e];exact h
def uw(b:Expr):Prop:=∀o i,subscripted b false o i=operate [o,i] (getItem o i)
def IxR(X:Cx)(r:R2):Prop:=∀value slice Á s(σ:St)H x y v u Q,Ç X Á σ H s->Ô x v->Ô y u->r x y H Q->subscripted slice false v u=operate [v,u] (getItem v u)->wpAny (model X.prog X.w) X.A (subscriptTail value slice v u) (EP X Á σ Q) X.xe s
def MtR(X:Cx)(id:String)(r:V->List V->Hp->VK->Prop):Prop:=∀Á s(σ:St)H x xs v us Q,Ç X Á σ H s->Ô x v->Ï xs us->r x xs H Q->wpAny (model X.prog X.w) X.A (call (.builtin id) (v::us)) (EP X Á σ Q) X.xe s
section
variable{ta tb:TE}
theorem Kc(hr:IxR X r)(ha:PE X a ta)(hb:PE X b tb)(hs:uw b):PE X (.Subscript a b pos) (Ÿ r ta tb):=by intro Á s σ H Q I h;exact Subscript_ (KY ha hb I h λv u s2 x y H2 I2 rx ry q=>hr a b Á s2 σ H2 x y v u Q I2 rx ry q (hs _ _))
inductive Z0l(K:Frag)(x:V)(y:V)(H:Hp)(Q:VK):Prop|mk:∀p xs i v,(x=.ref p)->(y=.int i)->(Ê K H p xs)->(Ņ xs i=some v)->(Q v H)->Z0l K x y H Q
def Nr(K:Frag):R2:=λx y H Q=>Z0l K x y H Q
inductive Z0k(K:Frag)(x:V)(y:V)(H:Hp)(Q:VK):Prop|mk:∀p xs i v,(x=.ref p)->(y=.int i)->(Î K H p xs)->(Ņ xs i=some v)->(Q v H)->Z0k K x y H Q
def Nt(K:Frag):R2:=λx y H Q=>Z0k K x y H Q
theorem bT:IxR X (Nr X.K):=by
 intro value slice Á s σ H x y v u Q I rx ry h hs;obtain⟨p,xs,i,z,rfl,rfl,hq,he,q⟩:=h;cases rx;obtain⟨t,rfl⟩:=ry;obtain⟨Æ,r,pl,hz⟩:=I.list hq;obtain⟨j,h1,h2,h3,h4,h5⟩:=zT he;obtain⟨w,ew,eJ⟩:=r.get h2;have hl:=r.length;have hn:=kO;have fin:EP X Á σ Q w s:=⟨z,H,I,eJ,q⟩;by_cases h0:0<=i
 .have hj:i.toNat=j:=by rw[seqIndex_of h0 h5]at h1;exact ŗ h1
  exact item_listR pl.isList h0 Â (by rw[hj];simpa using ew) fin hs
 .have hj:(i+(Æ.toArray.size:Int)).toNat=j:=by rw[seqIndex_neg Â h4]at h1;rw[ē,<-hl];exact ŗ h1
  exact subscriptTail_builtinR (x:=w) pl.isList.typeIs slot_list_getitem.lookup (wpAny_getItem_list_neg (Q:=λr s'=>r=w/\EP X Á σ Q r s') pl.isList Â (by rw[ē]<;>lia) Â (by rw[hj];simpa using ew) ⟨rfl,fin⟩) hs
theorem bQ:IxR X (Nt X.K):=by intro value slice Á s σ H x y v u Q I rx ry h hs;obtain⟨p,xs,i,z,rfl,rfl,hq,he,q⟩:=h;cases rx;obtain⟨t,rfl⟩:=ry;obtain⟨Æ,r,pl,hz⟩:=I.tuple hq;obtain⟨j,h1,h2,h3,h4,h5⟩:=zT he;obtain⟨w,ew,eJ⟩:=r.get h2;have hl:=r.length;have hn:=kO;have fin:EP X Á σ Q w s:=⟨z,H,I,eJ,q⟩;exact subscriptTail_builtinR (x:=w) pl.typeIs slot_tuple_getitem.lookup (getItem_tuple (j:=j) (Q:=λr s'=>r=w/\EP X Á σ Q r s') pl Â Â (by rw[ē,<-hl];exact h1) (by simpa using ew) ⟨rfl,fin⟩) hs
theorem yC(Æ:ā)(n j:Nat)(u:Value):Obj.mapSeq (·.setIfInBounds j u) {cls:=.type "list",data:=.seq Æ.toArray n}={cls:=.type "list",data:=.seq (Æ.set j u).toArray n}:=by simp[Obj.mapSeq]
theorem Ç.lst{σ:St}(I:Ç X Á σ H s)(h:H p=some (.lst xs)):∃(Æ:ā)(n:Nat),Ï xs Æ/\s.heap.get? p=some {cls:=.type "list",data:=.seq Æ.toArray n}/\xs.length<=sizeLine:=by obtain⟨z,Æ,n,r,e⟩:=I.hok p _ h;exact⟨Æ,n,r,e,z⟩
theorem Ç.lstUpd{σ:St}{Æ its':ā}(I:Ç X Á σ H s)(h:H p=some (.lst xs))(ho:s.heap.get? p=some {cls:=.type "list",data:=.seq Æ.toArray n})(hf:f {cls:=.type "list",data:=.seq Æ.toArray n}={cls:=.type "list",data:=.seq its'.toArray n'})(r:Ï ys its')(hz:ys.length<=sizeLine)(t:Nat):Ç X Á σ (upd H p (.lst ys)) {s with heap:=s.heap.update p f,toks:=t}:=by
 have e:(s.heap.update p f).get? p=some {cls:=.type "list",data:=.seq its'.toArray n'}:=by rw[Heap.get?_update_self f ho (by rw[hf]<;>rfl),hf]
 refine I.write (x:=p) (e:=p) (by rw[h];trivial) (.inl rfl) (λb u hb q=>(Heap.get?_update_other _ _ (Ne.symm hb)).trans q) ⟨_,e⟩ ?_;exact⟨hz,its',n',r,e⟩
inductive ϻ(o:V)(i:V)(v:V)(H:Hp)(Q:Hp->Prop):Prop|mk:∀p xs k j,(o=.ref p)->(i=.int k)->(H p=some (.lst xs))->(υ xs.length k=some j)->(Q (upd H p (.lst (xs.set j v))))->ϻ  o i v H Q
def Nu:V->V->V->Hp->(Hp->Prop)->Prop:=λo i v H Q=>ϻ  o i v H Q
theorem ă:Ig X Nu:=by
 intro Á s σ H o i v ov iv u Q I ro ri rv h;obtain⟨p,xs,k,j,rfl,rfl,hp,hj,q⟩:=h;cases ro;obtain⟨t,rfl⟩:=ri;obtain⟨Æ,n,r,ho,hz⟩:=I.lst hp;obtain⟨h1,h2,h3,h4⟩:=uv hj;have hl:=r.length;have hn:=kO;have I':Ç X Á σ (upd H p (.lst (xs.set j v))) {s with heap:=s.heap.update p (Obj.mapSeq (·.setIfInBounds j u))}:=I.lstUpd hp ho (yC Æ n j u) (r.set rv j) (by rw[Za0];exact hz) s.toks;by_cases h0:0<=k
 .have hk:k.toNat=j:=by rw[seqIndex_of h0 h4]at h1;exact ŗ h1
  exact PySem.W.ki_setAt ho h0 Â (by rw[ē,<-hl];exact h4) (by rw[hk];exact⟨_,I',q⟩)
 .have hk:(k+(Æ.toArray.size:Int)).toNat=j:=by rw[seqIndex_neg Â h3]at h1;rw[ē,<-hl];exact ŗ h1
  exact PySem.W.ki_setBack ho Â (by rw[ē,<-hl];exact h3) Â (by rw[hk];exact⟨_,I',q⟩)
theorem uA(lo hi:Option Int)(n:Nat):(sliceBounds lo hi none n).1=((HT.sIx n 0 lo:Nat):Int)/\(sliceBounds lo hi none n).2.1=((HT.sIx n n hi:Nat):Int)/\(sliceBounds lo hi none n).2.2=1:=by
 refine⟨?_,?_,rfl⟩;.cases lo with|none=>simp[sliceBounds,HT.sIx];|some i=>
   simp only[sliceBounds,HT.sIx,Option.getD_none,show(1:Int)>0 by decide,if_true];by_cases h:i<0;.simp only[h,if_true]<;>lia
   .simp only[h,if_false]<;>lia
 .cases hi with|none=>simp[sliceBounds,HT.sIx];|some i=>
   simp only[sliceBounds,HT.sIx,Option.getD_none,show(1:Int)>0 by decide,if_true];by_cases h:i<0;.simp only[h,if_true]<;>lia
   .simp only[h,if_false]<;>lia
theorem rA(Æ:ā)(lo hi:Option Int):slicePick Æ.toArray lo hi none=((Æ.drop (HT.sIx Æ.length 0 lo)).take (HT.sIx Æ.length Æ.length hi-HT.sIx Æ.length 0 lo)).toArray:=by obtain⟨h1,h2,h3⟩:=uA lo hi Æ.toArray.size;unfold slicePick;rw[h1,h2,h3];simp only[sliceRange_one,pick_run]<;>rfl
inductive Z0i(K:Frag)(x:V)(lo:Option Int)(hi:Option Int)(H:Hp)(Q:VK):Prop|mk:∀a xs,(x=.ref a)->(Ê K H a xs)->(∀p,H p=none->Q (.ref p) (upd H p (.lst (pQ xs lo hi))))->Z0i K x lo hi H Q
def Q4(K:Frag):V->Option Int->Option Int->Hp->VK->Prop:=λx lo hi H Q=>Z0i K x lo hi H Q
theorem zU:SlR X (Q4 X.K):=by intro Á s σ H x v vl vu lo hi sl Q I rx hs pl pu h;obtain⟨a,xs,rfl,hx,q⟩:=h;cases rx;obtain⟨Æ,r,ht,hz⟩:=I.list hx;have hlen:=r.length;refine⟨"list",_,slot_list_getitem.lookup,ht.isList.typeIs,?_⟩;refine wpAny_getItem_list_slice ht.isList hs pl pu .none Ù ?_ (by rw[ē]<;>lia);rw[rA,<-hlen];refine⟨.ref s.heap.objs.size,_,I.laid (t':=s.toks) (o:=.lst (pQ xs lo hi)) (λb ob q=>č _ q) (ß _) ?_,rfl,q _ (I.hok.fresh (ß _))⟩;exact⟨ŝ (o9 xs lo hi) hz,_,0,(r.drop (HT.sIx xs.length 0 lo)).take (HT.sIx xs.length xs.length hi-HT.sIx xs.length 0 lo),ı _ rfl⟩
theorem aX:eO X (.builtin "len") (λxs H Q=>∃p ys,xs=[.ref p]/\(Ê X.K H p ys\/Î X.K H p ys)/\Q (.int ys.length) H):=by
 intro Á s σ H xs us Q I r h;obtain⟨p,ys,rfl,hq,q⟩:=h;obtain⟨u,rfl,rx⟩:=ü r;cases rx;have hn:=kO;rcases hq with hq|hq;.obtain⟨Æ,r',pl,hz⟩:=I.list hq;have hlen:=r'.length;exact Calls.call_len_list pl.isList (by simp only[List.size_toArray]<;>lia) ⟨.int ys.length,H,I.tok _,⟨s.toks+1,by rw[ē,hlen]⟩,q⟩
 .obtain⟨Æ,r',pl,hz⟩:=I.tuple hq;have hlen:=r'.length;exact len_tuple pl (by simp only[List.size_toArray]<;>lia) ⟨.int ys.length,H,I.tok _,⟨s.toks+1,by rw[ē,hlen]⟩,q⟩
theorem uB:eO X (.type "list") (λxs H Q=>∃p ys,xs=[.ref p]/\(Ê X.K H p ys\/Î X.K H p ys)/\∀l,H l=none->Q (.ref l) (upd H l (.lst ys))):=by
 intro Á s σ H xs us Q I r h;obtain⟨p,ys,rfl,hq,q⟩:=h;obtain⟨u,rfl,rx⟩:=ü r;cases rx;have fin:∀(Æ:ā),Ï ys Æ->ys.length<=sizeLine->∀(h':Heap)(c':Nat),(∀b o',s.heap.get? b=some o'->h'.get? b=some o')->h'.get? s.heap.objs.size=some {cls:=.type "list",dict:=none,data:=.seq Æ.toArray c',slots:=#[]}->EP X Á σ Q (.ref s.heap.objs.size) {s with heap:=h'}:=λÆ r' hz h' c' kp e=>⟨.ref s.heap.objs.size,_,I.laid (t':=s.toks) kp (ß _) (show Ú X.prog X.w _ h' _ (.lst ys)from⟨hz,Æ,c',r',e⟩),rfl,q _ (I.hok.fresh (ß _))⟩;rcases hq with hq|hq;.obtain⟨Æ,r',pl,hz⟩:=I.list hq;have hlen:=r'.length;obtain⟨o,ho,hc,n,hd⟩:=pl.isList;exact call_list_seq p (.inl rfl) ho hc hd (λh' c' kp e=>fin Æ r' hz h' c' kp e) (by simp only[List.size_toArray]<;>lia)
 .obtain⟨Æ,r',pl,hz⟩:=I.tuple hq;have hlen:=r'.length;obtain⟨o,ho,hc,n,hd⟩:=pl;exact call_list_seq p (.inr rfl) ho hc hd (λh' c' kp e=>fin Æ r' hz h' c' kp e) (by simp only[List.size_toArray]<;>lia)
theorem bR:eO X (.type "tuple") (λxs H Q=>∃p ys,xs=[.ref p]/\((Ê X.K H p ys/\∀l,H l=none->Q (.ref l) (upd H l (.tup ys)))\/(Î X.K H p ys/\Q (.ref p) H))):=by
 intro Á s σ H xs us Q I r h;obtain⟨p,ys,rfl,h⟩:=h;obtain⟨u,rfl,rx⟩:=ü r;cases rx;rcases h with⟨hq,q⟩|⟨hq,q⟩;.obtain⟨Æ,r',pl,hz⟩:=I.list hq;have hlen:=r'.length;refine call_tuple_list pl.isList (λh' kp=>?_) (by simp only[List.size_toArray]<;>lia);have I1:Ç X Á σ H {s with heap:=h'}:=I.kept (t':=s.toks) kp;have I2:Ç X Á σ (upd H h'.objs.size (.tup ys)) {s with heap:=h'.push {cls:=.type "tuple",data:=.seq Æ.toArray}}:=I1.laid (t':=s.toks) (λb o e=>č _ e) (ß _) (⟨hz,Æ,r',IsTup.new _ _⟩);exact⟨.ref h'.objs.size,_,I2,rfl,q _ (I1.hok.fresh (ß _))⟩
 .obtain⟨Æ,r',pl,hz⟩:=I.tuple hq;exact call_tuple_same pl ⟨.ref p,H,I,rfl,q⟩
def tyV(K:Frag)(T:String)(x:V)(H:Hp):Prop:=match x with|.str _=>T="str"|.int _=>T="int"|.ref p=>(T="list"/\∃xs,Ê K H p xs)\/(T="tuple"/\∃o,K.lookup p=some o/\o.cls=.type "tuple"/\o.dict=none)\/(T="dict"/\((∃kvs,H p=some (.dK kvs))\/∃kvs,H p=some (.dT kvs)))\/(T="set"/\∃S n,H p=some (.set S n))|_=>False
theorem Le{σ:St}(I:Ç X Á σ H s)(r:Ô x v)(ty:tyV X.K T x H):
 s.TypeIs v T/\∀a,v=.ref a->∃ob,s.heap.get? a=some ob/\ob.dict=none:=by cases x with|str z=>obtain⟨t,rfl⟩:=r;cases(ty);exact⟨typeIs_str s z t,λ_ e=>nomatch e⟩;|int i=>obtain⟨t,rfl⟩:=r;cases(ty);exact⟨typeIs_int s i t,λ_ e=>nomatch e⟩;|ref p=>
  cases r;rcases ty with⟨rfl,xs,hq⟩|⟨rfl,o,hk,hc,hd⟩|⟨rfl,hk⟩|⟨rfl,S,n,hk⟩;.obtain⟨Æ,_,pl,_⟩:=I.list hq;refine⟨pl.isList.typeIs,λa e=>?_⟩;cases e;obtain⟨o,n,e,c,hd,_⟩:=pl;exact⟨o,e,hd⟩
  .refine⟨⟨o,I.kIn p o hk,hc⟩,λa e=>?_⟩;cases e;exact⟨o,I.kIn _ o hk,hd⟩
  .have z:∃o,s.heap.get? p=some o/\o.ExactDict:=by
    rcases hk with⟨kvs,hk⟩|⟨kvs,hk⟩;.obtain⟨_,_,_,_,o,_,_,e,ex,_⟩:=I.hok p _ hk;exact⟨o,e,ex⟩
    .obtain⟨_,_,_,_,o,_,_,e,ex,_⟩:=I.hok p _ hk;exact⟨o,e,ex⟩
   obtain⟨o,e,ex⟩:=z;refine⟨⟨o,e,ex.1⟩,λa e2=>?_⟩;cases e2;exact⟨o,e,ex.2.1⟩
  .obtain⟨o,_,_,_,e,ex,_⟩:=I.hok p _ hk;refine⟨⟨o,e,ex.1⟩,λa e2=>?_⟩;cases e2;exact⟨o,e,ex.2.1⟩;|_=>exact False.elim ty
def tBM(K:Frag)(T:String)(r:V->List V->Hp->VK->Prop)(to:TE)(t:TA):TE:=λσ H Q=>to σ H λx H1=>tyV K T x H1/\t σ H1 λxs H2=>r x xs H2 Q
variable{apos bo:Pos}{T id:String}
theorem fQ(pa:PlainAttrs T)(slot:Slot T name id)(TY:typeOf (.builtin id)=pure (.type "method_descriptor"))(hm:MtR X id r)(ho:PE X o to)(ha:PA X (e::es) t)(CB:attributeBase o name X.env (eval o X.env)=eval o X.env:=by rfl)(IT:((backTo bo (starEach (e::es) X.env)).all (λx=>!x.1)&&(backToKw bo (keywordEach [] X.env)).all (λx=>x.1.isSome)&&decide ((e::es).length+([]:List Keyword).length+(if([]:List Keyword).isEmpty then 0 else 1)<30))=true:=by rfl)(hline:(apos.endLine==bo.line)=true:=by rfl)(hs:Qa8 X e es:=by rfl)(IU:Qa9 X bo es:=by rfl):PE X (.Call (.Attribute o name apos) (e::es) [] bo) (tBM X.K T r to t):=by intro Á s σ H Q I h;refine wpAny_Call_method_late CB IT hline rfl (Þ (ho Á s σ H _ I h) λv s1=>?_);rintro⟨x,H1,I1,r1,ty,q1⟩;obtain⟨h1,h2⟩:=Le I1 r1 ty;refine⟨T,id,pa,slot,TY,h1,h2,?_⟩;have hA:=ha bo Á s1 σ H1 _ I1 q1;rw[hs]at hA⊢;refine Calls.callWith_builtin (by assumption) (Calls.evalArgs_plain ?_);exact Þ hA λus s2=>by rintro⟨vs,H2,I2,r2,q2⟩;exact hm Á s2 σ H2 x vs v us Q I2 r1 r2 q2
end
def MtM(X:Cx)(id:String)(r:V->List V->Hp->VK->Prop):Prop:=∀Á s(σ:St)H x xs v us Q,Ç X Á σ H s->Ô x v->Ï xs us->r x xs H Q->wpAny (model X.prog X.w) X.A (call (.builtin id) (v::us)) (EP X Á σ Q) X.xe s
theorem Ï.one:∀{x:V}{us:ā},Ï [x] us->∃u,us=[u]/\Ô x u|_,_,.cons r .nil=>⟨_,rfl,r⟩
theorem Ï.two(r:Ï [x,y] us):∃u v,us=[u,v]/\Ô x u/\Ô y v:=ň r
theorem Ï.zero:∀{us:ā},Ï [] us->us=[]|_,.nil=>rfl
theorem Ï.eraseIdx:∀{xs:List V}{us:ā}i,Ï xs us->Ï (xs.eraseIdx i) (us.eraseIdx i)|_,_,_,.nil=>.nil|_,_,0,.cons _ t=>t|_,_,i+1,.cons r t=>.cons r (Ï.eraseIdx i t)
theorem Ï.rep(h:Ï xs us):∀k,Ï (List.replicate k xs).flatten (List.replicate k us).flatten|0=>.nil|k+1=>by exact Ï.append h (Ï.rep h k)
theorem nC{α:Type}:∀(l:List α)i,(l.eraseIdx i).length<=l.length|[],_=>ß _|_::_,0=>Zbf _|_::r,i+1=>Nat.succ_le_succ (nC r i)
theorem ş(Æ:ā):∀k acc,List.foldl (λx1 x2=>x1++x2) acc.toArray (List.replicate k Æ.toArray)=(acc++(List.replicate k Æ).flatten).toArray
 |0,acc=>by simp;|k+1,acc=>by
  have e:acc.toArray++Æ.toArray=(acc++Æ).toArray:=by simp
  have e2:(acc++Æ)++(List.replicate k Æ).flatten=acc++(List.replicate (k+1) Æ).flatten:=by rw[List.replicate_succ,List.flatten_cons,Ń]
  rw[<-e2,<-ş Æ k (acc++Æ),<-e,List.replicate_succ,List.foldl_cons]
section
variable{σ:St}
theorem Ç.lset{Æ its':ā}(I:Ç X Á σ H s)(hH:H l=some (.lst xs))(e:s.heap.get? l=some {cls:=.type "list",data:=.seq Æ.toArray n})(hf:f Æ.toArray=its'.toArray)(hv:Ï ys its')(hz:ys.length<=sizeLine):Ç X Á σ (upd H l (.lst ys)) {s with heap:=s.heap.update l (Obj.mapSeq f),toks:=t'}:=by have q:=PySem.IsL.update e f;rw[hf]at q;refine I.write (x:=l) (e:=l) (by rw[hH];exact trivial) (.inl rfl) (λb' u hb hu=>(Heap.get?_update_other s.heap (Obj.mapSeq f) (Ne.symm hb)).trans hu) ⟨_,q⟩ ?_;exact⟨hz,its',_,hv,q⟩
theorem Ç.lnew(I:Ç X Á σ H s)(hv:Ï ys Æ)(hz:ys.length<=sizeLine):Ç X Á σ (upd H s.heap.objs.size (.lst ys)) {s with heap:=s.heap.push {cls:=.type "list",data:=.seq Æ.toArray},toks:=t'}:=I.laid (λ_ _ q=>č _ q) (ß _) ⟨hz,Æ,0,hv,ı _ rfl⟩
theorem Ç.fresh(I:Ç X Á σ H s):H s.heap.objs.size=none:=I.hok.fresh (ß _)
theorem Ç.lstM(I:Ç X Á σ H s)(hH:H l=some (.lst xs)):xs.length<=sizeLine/\∃(Æ:ā)(n:Nat),Ï xs Æ/\xs.length=Æ.length/\s.heap.get? l=some {cls:=.type "list",data:=.seq Æ.toArray n}:=by obtain⟨z,Æ,n,r,e⟩:=I.hok l _ hH;exact⟨z,Æ,n,r,r.length,e⟩
theorem pR(h:n<=sizeLine):Builtin.List.listTooLong n=false:=by exact Ĝ Â
end
section
inductive Χ(x:V)(vs:List V)(H:Hp)(Q:VK):Prop|mk:∀l xs y,(x=.ref l)->(vs=[y])->(H l=some (.lst xs))->(xs.length<sizeLine)->(Q .non (upd H l (.lst (xs++[y]))))->Χ  x vs H Q
def Im:V->List V->Hp->VK->Prop:=λx vs H Q=>Χ  x vs H Q
theorem d9:MtM X "list.append" Im:=by intro Á s σ H x vs v us Q I rx rv h;obtain⟨l,xs,y,rfl,rfl,hH,hz,q⟩:=h;cases rx;obtain⟨u,rfl,ru⟩:=rv.one;obtain⟨z,Æ,n,r,hl,e⟩:=I.lstM hH;refine call_meets F.slot_list_append ⟨_,e,rfl⟩ F.entry_list_append (F.args_list_append_2 _ _) (PySem.list_append l Æ.toArray n u (by rw[ē];lia)) ⟨e,?_⟩;refine⟨.non,_,I.lset (its':=Æ++[u]) hH e Ù (r.append (.cons ru .nil)) ?_,rfl,q⟩;rw[õ,List.length_singleton];lia
inductive Υ(x:V)(vs:List V)(H:Hp)(Q:VK):Prop|mk:∀l b xs zs,(x=.ref l)->(vs=[.ref b])->(H l=some (.lst xs))->(H b=some (.lst zs))->(xs.length+zs.length<=sizeLine)->(Q .non (upd H l (.lst (xs++zs))))->Υ  x vs H Q
def Ip:V->List V->Hp->VK->Prop:=λx vs H Q=>Υ  x vs H Q
theorem Cq:MtM X "list.extend" Ip:=by
 intro Á s σ H x vs v us Q I rx rv h;obtain⟨l,b,xs,zs,rfl,rfl,hH,hB,hz,q⟩:=h;cases rx;obtain⟨u,rfl,ru⟩:=rv.one;cases ru;obtain⟨z,Æ,n,r,hl,e⟩:=I.lstM hH;obtain⟨z2,bS,n2,r2,eR,e2⟩:=I.lstM hB;have hsz:Æ.toArray.size+bS.toArray.size<=sizeLine:=by rw[ē,ē];lia
 have gX:¬(!Æ.toArray.isEmpty&&Builtin.List.listTooLong (Æ.toArray.size+bS.toArray.size))=true:=by rw[pR hsz,Bool.and_false];exact Ř
 refine call_meets F.slot_list_extend ⟨_,e,rfl⟩ F.entry_list_extend (F.args_list_extend_2 _ _) (AutoSeq1.list_extend_list_list_0 l Æ.toArray n b bS.toArray n2 gX (by rw[ē];lia) Â) ⟨e,e2,?_⟩;refine⟨.non,_,I.lset (its':=Æ++bS) hH e Ù (r.append r2) ?_,rfl,q⟩;rw[õ];lia
inductive Ϙ(x:V)(vs:List V)(H:Hp)(Q:VK):Prop|mk:∀l xs i k y,(x=.ref l)->(vs=[.int i])->(H l=some (.lst xs))->(-(2^63)<=i)->(i<2^63)->(seqIndex? i xs.length=some k)->(xs[k]?=some y)->(Q y (upd H l (.lst (xs.eraseIdx k))))->Ϙ  x vs H Q
def Lf:V->List V->Hp->VK->Prop:=λx vs H Q=>Ϙ  x vs H Q
theorem vQ:MtM X "list.pop" Lf:=by
 intro Á s σ H x vs v us Q I rx rv h;obtain⟨l,xs,i,k,y,rfl,rfl,hH,h1,h2,hk,hy,q⟩:=h;cases rx;obtain⟨u,rfl,ru⟩:=rv.one;obtain⟨t,rfl⟩:=ru;obtain⟨z,Æ,n,r,hl,e⟩:=I.lstM hH;obtain⟨w,hw,eJ⟩:=r.get hy;refine call_meets F.slot_list_pop ⟨_,e,rfl⟩ F.entry_list_pop (F.args_list_pop_2 _ _) (MeetsSeq.list_pop_at l Æ.toArray n i t k w (fitsIndex_both h1 h2) (by rw[ē,<-hl];exact hk) (by rw[<-Zat];exact hw) (by rw[ē];lia)) ⟨e,?_⟩;refine⟨y,_,I.lset (its':=Æ.eraseIdx k) hH e ?_ (r.eraseIdx k) ?_,eJ,q⟩;.show Æ.toArray.eraseIdxIfInBounds k=(Æ.eraseIdx k).toArray;rw[List.eraseIdxIfInBounds_toArray]
 .have:=nC xs k;lia
inductive Z0m(x:V)(y:V)(H:Hp)(Q:VK):Prop|mk:∀l b xs zs,(x=.ref l)->(y=.ref b)->(H l=some (.lst xs))->(H b=some (.lst zs))->(xs.length+zs.length<=sizeLine)->(∀p,H p=none->Q (.ref p) (upd H p (.lst (xs++zs))))->Z0m  x y H Q
def Q5:R2:=λx y H Q=>Z0m  x y H Q
theorem jc:Ġ X (binaryOp .Add) Q5:=by
 intro Á s σ H x y v u Q I rx ry h;obtain⟨l,b,xs,zs,rfl,rfl,hH,hB,hz,q⟩:=h;cases rx;cases ry;obtain⟨z,Æ,n,r,hl,e⟩:=I.lstM hH;obtain⟨z2,bS,n2,r2,eR,e2⟩:=I.lstM hB;refine PySem.P.add_list e e2 ?_ (by rw[ē,ē];lia);have ea:Æ.toArray++bS.toArray=(Æ++bS).toArray:=by simp
 rw[ea];exact⟨.ref _,_,I.lnew (t':=s.toks) (r.append r2) (by rw[õ];lia),rfl,q _ I.fresh⟩
inductive Z0j(x:V)(y:V)(H:Hp)(Q:VK):Prop|mk:∀l k xs,(x=.ref l)->(y=.int k)->(H l=some (.lst xs))->(-(2^63)<=k)->(k<2^63)->(xs.length*k.toNat<=sizeLine)->(∀p,H p=none->Q (.ref p) (upd H p (.lst (List.replicate k.toNat xs).flatten)))->Z0j  x y H Q
def Q6:R2:=λx y H Q=>Z0j  x y H Q
theorem Z08{α:Type}(xs:List α)(k:Nat):(List.replicate k xs).flatten.length=k*xs.length:=by simp
theorem Lg:Ġ X (binaryOp .Mult) Q6:=by
 intro Á s σ H x y v u Q I rx ry h;obtain⟨l,k,xs,rfl,rfl,hH,h1,h2,hz,q⟩:=h;cases rx;obtain⟨t,rfl⟩:=ry;obtain⟨z,Æ,n,r,hl,e⟩:=I.lstM hH;have hlen:Æ.toArray.size*k.toNat<=sizeLine:=by rw[ē,<-hl];exact hz
 have IX:¬Æ.toArray.size*k.toNat>(2^63-1)/8:=by
  have:(sizeLine:Nat)<=(2^63-1)/8:=by decide
  lia
 have IY:¬(!Builtin.List.listFitsIndex k)=true:=by rw[fitsIndex_both h1 h2];exact Ř
 have gX:¬Builtin.List.listTooLong (Æ.toArray.size*k.toNat)=true:=by rw[pR hlen];exact Ř
 have IZ:List.foldl (λx1 x2=>x1++x2) #[] (List.replicate (if Æ.toArray.isEmpty=true then 0 else k.toNat) Æ.toArray)=(List.replicate k.toNat Æ).flatten.toArray:=by
  have f0:∀m:Nat,List.foldl (λx1 x2=>x1++x2) #[] (List.replicate m Æ.toArray)=(List.replicate m Æ).flatten.toArray:=λm=>by have:=ş Æ m [];rw[List.nil_append]at this;exact this
  rw[f0];cases Æ with|nil=>simp;|cons a r'=>rw[Ë Ù]
 refine wpAny_binaryOp_repeat_ref (T:="list") (U:="int") Û ⟨_,e,rfl⟩ (λs'=>typeIs_int s' k t) noFill_list_mul F.fills_int_mul F.slot_int_rmul repeat_list F.slot_int_index.lookup (call_meets F.slot_int_rmul (typeIs_int s k t) F.entry_int_rmul (F.args_int_rmul_2 _ _) (int___rmul___int_list k t l Æ.toArray n) ⟨e,rfl,⟨_,e,rfl⟩,call_meets F.slot_list_mul ⟨_,e,rfl⟩ F.entry_list_mul (F.args_list_mul_2 _ _) (AutoListH.list___mul___list_int_3 l Æ.toArray n k t IY IX gX) ⟨e,?_⟩⟩);rw[IZ];exact⟨.ref _,_,I.lnew (t':=s.toks) (r.rep k.toNat) (by rw[Z08,Nat.mul_comm];exact hz),rfl,q _ I.fresh⟩
end
section
set_option maxRecDepth 100000 in
end
section
end
end L2
namespace Att
open PySem PySem.W PySem.Calls PyProof.Rows
theorem oJ:∀(ns:WF)vs,WellAll P h vs (ns.map WData.int)->IntsAre vs ns:=by intro ns;induction ns with|nil=>intro vs w;cases w;exact .nil;|cons n ns ih=>intro vs w;cases w with|cons a b=>cases a;exact .cons _ _ (ih _ b)
theorem Cr{l:OpenLaw}(hn:l.most=some n)(qr:l.row.toRowW.claim.pre args=true)(Jn:WellAll P h vals args):∃a vs ns,vals=[Value.ref a]/\args=[WData.list (ns.map WData.int)]/\h.get? a=some {cls:=.type "list",data:=.seq vs.toArray}/\IntsAre vs ns/\ns.length<=n:=by
 have TZ:WShape.hasAll [] args [.list .int]=true:=(pre_splitW qr).1;have hc:l.pre.holds [] {args:=args}=true:=(pre_splitW qr).2;obtain⟨d,r,rfl,h1,h2⟩:=hasAllW_cons TZ;obtain rfl:=hasAllW_nil h2;obtain⟨xs,rfl,h3⟩:=hasW_list h1;obtain⟨ns,rfl⟩:=items_int h3;have hlen:ns.length<=n:=by
  unfold OpenLaw.pre at hc;have h4:(WTm.not (.lt (.lit (.int (n:Int))) (.len (.arg 0)))).holds [] {args:=[.list (ns.map .int)]}=true:=by have h4:=(holds_andW hc).1;rw[hn]at h4;exact h4
  have h5:=condW_of h4 (w_not (w_lt w_lit (w_len_list (w_arg rfl))));rw[Ø]at h5;refine Nat.le_of_not_lt λq=>?_;have q':(n:Int)<((ns.length:Nat):Int):=Â;first|(rw[ð q']at h5;exact absurd h5 Û);|(simp at h5;lia)
 cases Jn with|cons w1 w2=>cases w2;cases w1 with|list ho ml=>exact⟨_,_,ns,rfl,rfl,ho,oJ ns _ ml,hlen⟩
theorem Cu(l:OpenLaw)(args:List WData):l.row.toRowW.claim.post args (.bool true) args=true:=postW_of (r:=l.row.toRowW) (X:=(true==true)) (show WShape.has [] (.bool true) .bool=true by first|rfl|decide|simp[WShape.has]) (w_eq_bool (w_res rfl) w_lit) rfl
theorem attach_call{l:OpenLaw}(hn:l.most=some n)(xw:d.params.defaults=[])(call:∀w s₀ s₁ mg mb fa o pm cd doc a vs(ns:WF),Ground q loose [] XP w s₀ mg mb s₁.heap->YP w s₁.heap->s₁.heap.get? fa=some o->o.data=.func (docDef d.name d.params d.body d.scope pm cd doc)->s₁.heap.CodeRec cd d.name->mg d.name=some (.ref fa)->s₁.heap.get? a=some {cls:=.type "list",data:=.seq vs.toArray}->IntsAre vs ns->ns.length<=n->s₁.gens=#[]->codeAny (model l.prog w) callerA (.call (.ref fa) ⟨[.ref a],[]⟩) (λr s'=>r=.ok (.ret (.bool true))/\OldK s₁.heap s'.heap/\s'.os=s₁.os/\AllBare s'.gens) s₁):WalkO q loose XP YP l.row.toRowW d [] (λf vs=>PySem.call f vs):=by intro w s₀ s₁ mg mb G Y fa o pm cd doc dV kV ho hd eI hD hmg hg args vals as qr T2 FF Jn tq;obtain rfl:dV=.none:=Dflts.none hD xw;obtain rfl:kV=.none:=Dflts.noKw hD;obtain⟨a,vs,ns,rfl,rfl,xy,hints,hlen⟩:=Cr hn qr Jn;refine enter_call (codeAny_mono (call w s₀ s₁ mg mb fa o pm cd doc a vs ns G Y ho (fd_plain hd) eI hmg xy hints hlen hg) λr s' hq=>?_);obtain⟨rfl,h2,h3,h4⟩:=hq;exact⟨.inl ⟨.bool true,.bool true,[],rfl,λ_=>rfl,.bool true,Cu l _,λ_=>⟨List.Pairwise.nil,λ_ hm=>(nomatch hm)⟩⟩,h2,h3,h4⟩
section
end
end Att
namespace L2
open PySem PySem.Spec PyProof.Rows
theorem nF:∀{vs:ā}{ns:WF},IntsAre vs ns->Ï (ns.map V.int) vs|_,_,.nil=>.nil|_,_,.cons n t h=>.cons ⟨t,rfl⟩ (nF h)
def gY(s:Stmt):Arguments:=match s with|.FunctionDef _ a _ _ _ _ _ _ _ _=>a|_=>{posonlyargs:=[],args:=[],vararg:=none,kwonlyargs:=[],kw_defaults:=[],kwarg:=none,defaults:=[]}
def cV(s:Stmt):List Stmt:=match s with|.FunctionDef _ _ b _ _ _ _ _ _ _=>b|_=>[]
def aD(s:Stmt):Scope:=match s with|.FunctionDef _ _ _ _ _ _ sc _ _ _=>sc|_=>{kind:=.function,names:=[],isGenerator:=false,isCoroutine:=false}
abbrev ä:CXT:=λ_ _ _ _ _ _=>False
abbrev E0:XK:=λ_ _ _=>False
theorem Nv:uq ä X E0:=λ_ _ _ _ _ _ _ h=>h.elim
structure ã(K:Frag)(x qual:Str)(st:Stmt)(f:Addr)(fd:FuncData):Prop where
 ex:∃oc od kV doc pm an ai ct kX,fd=PySem.W.fnOf x qual (gY st) (cV st) (aD st) .none kV doc pm an ai ct/\K.lookup f=some ⟨oc,od,.func fd,kX⟩/\PySem.W.codeIn K ai qual=true
 kp:PySem.W.keepIn K (.ref f)=true
section
variable{K:Frag}
theorem ã.ok{st:Stmt}(F:ã K x qual st f fd)(S:Ã N ps (aD st))(len:∀vs H Q E,sp vs H Q E->vs.length=ps.length)(ay:∀ai A outer s H vs Q E,ì k (A.deeper (envOfC qual (aD st) s.heap.objs.size f ai))->sp vs H Q E->∃t,ľ (jt ä P w K mg base N qual (aD st) f ai A outer s H E).nox (cV st) t/\t {nx:=λ_ H'=>Q .non H',rt:=Q} (start N vs) H):Ñ P w K mg base ä (k+1) f fd ps sp:=by obtain⟨oc,od,kV,doc,pm,an,ai,ct,kX,rfl,lk,eI⟩:=F.ex;refine Ep lk eI S len λA outer s H vs Q E hr gT=>?_;obtain⟨t,h,q⟩:=ay ai A outer s H vs Q E hr gT;exact⟨t,h.nox,q⟩
structure Ϛ(sp:Sp)(ps:ó):Prop where h:∀vs H Q E,sp vs H Q E->vs.length=ps.length:=by intro _ _ _ _ h;first|(cases h;subst_vars;rfl)|(repeat(first|(subst_vars;rfl)|obtain⟨_,h⟩:=h))
theorem ã.oq{st:Stmt}(F:ã K x qual st f fd)(S:Ã N ps (aD st))(ay:∀ai A outer s H vs Q E,ì k (A.deeper (envOfC qual (aD st) s.heap.objs.size f ai))->sp vs H Q E->∃t,ľ (jt ä P w K mg base N qual (aD st) f ai A outer s H E).nox (cV st) t/\t {nx:=λ_ H'=>Q .non H',rt:=Q} (start N vs) H)(len:Ϛ sp ps:=by exact{}):Ñ P w K mg base ä (k+1) f fd ps sp:=F.ok S len.h ay
theorem ã.binds{st:Stmt}(F:ã K x qual st f fd)(h:∀kV doc pm an ai ct us,us.length=ps.length->bindArgs (PySem.W.fnOf x qual (gY st) (cV st) (aD st) .none kV doc pm an ai ct) ⟨us,[]⟩=pure (ps.zip us)):ø K fd ps []:=by obtain⟨oc,od,kV,doc,pm,an,ai,ct,kX,rfl,lk,eI⟩:=F.ex;exact .all (h kV doc pm an ai ct)
theorem Es{st:Stmt}{kV doc pm ai ct:Value}(l:K.lookup f=some ⟨oc,od,.func (PySem.W.fnOf x qual (gY st) (cV st) (aD st) .none kV doc pm an ai ct),kX⟩)(c:PySem.W.codeIn K ai qual=true)(k:PySem.W.keepIn K (.ref f)=true):ã K x qual st f (PySem.W.fnOf x qual (gY st) (cV st) (aD st) .none kV doc pm an ai ct):=⟨⟨oc,od,kV,doc,pm,an,ai,ct,kX,rfl,l,c⟩,k⟩
end
theorem fU(hr:ì k A):A.units+1<cLine:=Nat.lt_of_le_of_lt (Nat.add_le_add_left (by decide:1<=64) _) hr.units
section
variable{X:Cx}
theorem pv(i:Nat){pos:Pos}(hN:X.N[i]?=some x:=by rfl)(hv:Vis X.env.scope x:=by first|exact Or.inl rfl|exact Or.inr (Or.inl rfl)|exact Or.inr (Or.inr rfl))(hd:ź x:=by decide)(eI:(x==("__classdict__":Str))=false:=by decide):PE X (.Name x pos) (vK i):=ym hN hv hd eI
end
theorem bA{A B:Prop}(h:B):if false=true then A else B:=by exact h
theorem bx{A B:Prop}(h:A):if true=true then A else B:=by exact h
theorem jW{c A B:Prop}[Decidable c](h1:c->A)(h2:¬c->B):if c then A else B:=by
 by_cases h:c;.rw[Í h];exact h1 h
 .rw[Ë h];exact h2 h
theorem Et{c A B:Prop}[Decidable c](hc:c)(h:B):if(!decide c)=true then A else B:=by rw[ð hc];exact bA h
def À(H H':Hp):Prop:=∀b o,H b=some o->H' b=some o
theorem À.refl(H:Hp):À H H:=λ_ _ h=>h
theorem À.trans(a:À H H1)(b:À H1 H2):À H H2:=λc o h=>b c o (a c o h)
theorem À.free(e:À H H')(h:H' l=Option.none):H l=Option.none:=by cases q:H l with|none=>rfl;|some o=>rw[e l o q]at h;cases h
end L2
inductive Xe3{A B C:Type}(p:A->B->C->Prop):Prop|mk:∀a b c,p a b c->Xe3 p
inductive Xe4{A B C D:Type}(p:A->B->C->D->Prop):Prop|mk:∀a b c d,p a b c d->Xe4 p
inductive Xe5{A B C D E:Type}(p:A->B->C->D->E->Prop):Prop|mk:∀a b c d e,p a b c d e->Xe5 p
inductive Xe6{A B C D E F:Type}(p:A->B->C->D->E->F->Prop):Prop|mk:∀a b c d e f,p a b c d e f->Xe6 p
inductive Xe7{A B C D E F G:Type}(p:A->B->C->D->E->F->G->Prop):Prop|mk:∀a b c d e f g,p a b c d e f g->Xe7 p
inductive Xe8{A B C D E F G H:Type}(p:A->B->C->D->E->F->G->H->Prop):Prop|mk:∀a b c d e f g h,p a b c d e f g h->Xe8 p
inductive Xe9{A B C D E F G H I:Type}(p:A->B->C->D->E->F->G->H->I->Prop):Prop|mk:∀a b c d e f g h i,p a b c d e f g h i->Xe9 p
inductive Xe11{A B C D E F G H I J K:Type}(p:A->B->C->D->E->F->G->H->I->J->K->Prop):Prop|mk:∀a b c d e f g h i j k,p a b c d e f g h i j k->Xe11 p
inductive Xe15{A B C D E F G H I J K L M N O:Type}(p:A->B->C->D->E->F->G->H->I->J->K->L->M->N->O->Prop):Prop|mk:∀a b c d e f g h i j k l m n o,p a b c d e f g h i j k l m n o->Xe15 p
inductive Xa2(a b:Prop):Prop|mk:a->b->Xa2 a b
inductive Xa3(a b c:Prop):Prop|mk:a->b->c->Xa3 a b c
inductive Xa4(a b c d:Prop):Prop|mk:a->b->c->d->Xa4 a b c d
inductive Xa5(a b c d e:Prop):Prop|mk:a->b->c->d->e->Xa5 a b c d e
inductive Xa6(a b c d e f:Prop):Prop|mk:a->b->c->d->e->f->Xa6 a b c d e f
inductive Xa7(a b c d e f g:Prop):Prop|mk:a->b->c->d->e->f->g->Xa7 a b c d e f g
inductive Xa8(a b c d e f g h:Prop):Prop|mk:a->b->c->d->e->f->g->h->Xa8 a b c d e f g h
inductive Xa9(a b c d e f g h i:Prop):Prop|mk:a->b->c->d->e->f->g->h->i->Xa9 a b c d e f g h i
namespace L2
open PySem PySem.Spec PyProof.Rows
def cY(cells:List (Str×Addr)):List (Str×NameKind)->List (Str×Addr)->List (Str×Addr)|[],acc=>acc|(n,k)::r,acc=>cY cells r (if k=.free then(n,(cells.lookup n).getD 0)::acc else acc)
theorem sS:∀l acc,(∀p∈l,p.2=NameKind.free->(env.cells.lookup p.1).isSome=true)->(forIn l acc λx r=>(if(x.2==NameKind.free)=true then do let a<-cellOf env x.1;pure (ForInStep.yield ((x.1,a)::r))else pure (ForInStep.yield r):Sem (ForInStep (List (Str×Addr)))))=pure (cY env.cells l acc)
 |[],acc,_=>rfl|(n,k)::r,acc,h=>by
  rw[List.forIn_cons];have ih:=λa=>sS (env:=env) r a λp hp=>h p (Zak _ hp);by_cases hk:k=.free
  .subst hk;have hs:=h (n,.free) Zap rfl;obtain⟨c,hc⟩:=Zau.mp hs;have e1:cellOf env n=pure c:=by unfold cellOf;rw[show env.cells.lookup n=some c from hc]
   have e2:cY env.cells ((n,.free)::r) acc=cY env.cells r ((n,c)::acc):=by show cY env.cells r (if NameKind.free=NameKind.free then(n,(env.cells.lookup n).getD 0)::acc else acc)=_;rw[Í rfl,show env.cells.lookup n=some c from hc];rfl
   rw[e2];simp only[beq_self_eq_true,if_true,e1,pure_bind];exact ih _
  .have hb:(k==NameKind.free)=false:=by simpa using hk
   have e2:cY env.cells ((n,k)::r) acc=cY env.cells r acc:=by show cY env.cells r (if k=NameKind.free then _ else acc)=_;rw[Ë hk]
   rw[e2];simp only[hb,Bool.false_eq_true,if_false,pure_bind];exact ih _
theorem oU(h:∀p∈scope.names,p.2=NameKind.free->(env.cells.lookup p.1).isSome=true):closureFor scope env=pure (cY env.cells scope.names []):=by have e:=sS (env:=env) scope.names [] h;unfold closureFor;simp only[bind_pure];exact e
theorem ju:∀l acc,(∀p∈l,p.2=NameKind.free->(cells.lookup p.1).isSome=true)->(cY cells l acc).lookup x=some c->acc.lookup x=some c\/cells.lookup x=some c
 |[],_,_,h=>.inl h|(n,k)::r,acc,hf,h=>by
  have h':(cY cells r (if k=.free then(n,(cells.lookup n).getD 0)::acc else acc)).lookup x=some c:=h;rcases ju r _ (λp hp=>hf p (Zak _ hp)) h' with e|e
  .by_cases hk:k=.free
   .rw[Í hk]at e;obtain⟨d,hd⟩:=Zau.mp (hf (n,k) Zap hk);rw[show cells.lookup n=some d from hd]at e;rw[Zbe]at e
    cases hx:x==n with|true=>
     rw[hx]at e;have:x=n:=by simpa using hx
     subst this;exact .inr (hd.trans (by simpa using e));|false=>rw[hx]at e;exact .inl e
   .rw[Ë hk]at e;exact .inl e
  .exact .inr e
theorem lQ:∀l acc,((∃k,(x,k)∈l/\k=NameKind.free)\/(∃c,acc.lookup x=some c))->∃c,(cY cells l acc).lookup x=some c
 |[],_,h=>by
  rcases h with⟨k,hk,_⟩|h;.exact absurd hk Ù
  .exact h;|(n,k)::r,acc,h=>by
  show∃c,(cY cells r (if k=.free then(n,(cells.lookup n).getD 0)::acc else acc)).lookup x=some c;refine lQ r _ ?_;rcases h with⟨k',hk,e⟩|⟨c,hc⟩
  .rcases ĩ.mp hk with z|z;.cases z;refine .inr ?_;rw[Í e];exact⟨_,by rw[Zbe,beq_self_eq_true]⟩
   .exact .inl ⟨k',z,e⟩
  .refine .inr ?_;by_cases hk:k=.free;.rw[Í hk,Zbe];cases hx:x==n with|true=>exact⟨_,rfl⟩;|false=>exact⟨c,hc⟩
   .rw[Ë hk];exact⟨c,hc⟩
theorem oh(hc:∀p∈scope.names,p.2≠NameKind.cell)(h:(relabel scope env).names.lookup x=some k)(hk:k=.cell\/k=.free):∃k',(x,k')∈scope.names/\k'=NameKind.free:=by
 have m:=PySem.mem_of_lookup h;obtain⟨⟨n,k0⟩,hm,e⟩:=ñ.mp m;dsimp only at e;split at e
 .rename_i c;cases e;have:(k0==NameKind.free)=true:=by cases q:(k0==NameKind.free)with|true=>rfl;|false=>rw[q]at c;simp at c
  exact⟨k0,hm,by simpa using this⟩
 .cases e;rcases hk with z|z;.exact absurd z (hc _ hm)
  .exact⟨_,hm,z⟩
def ξ(X:Cx)(scope:Scope)(Nc:ó)(C:Addr)(fp:Č)(Á:T7)(s₂:Shared)(Õ:Hp):Cx where prog:=X.prog;w:=X.w;K:=X.K;mg:=X.mg;base:=X.base;A:=X.A;N:=Nc;s₀:=s₂;H₀:=Õ;env:=compEnvC scope (cY X.env.cells scope.names []) C X.env;outer:=X.stack;stack:=X.stack;ex:=fp;fn:=λ_=>false;calm:=X.calm;pn:=X.pn++Á;xe:=λ_ _=>False
def ę(X:Cx)(bp:Env):ó->List (Option Nat)->Prop|[],[]=>True|_::N,none::r=>ę X bp N r|x::N,some i::r=>(X.N[i]?=some x/\(X.env.kindOf x=some .cell\/X.env.kindOf x=some .free)/\bp.cells.lookup x=X.env.cells.lookup x/\(bp.kindOf x=some .cell\/bp.kindOf x=some .free))/\ę X bp N r|_,_=>False
def ļ(σ:St)(src:List (Option Nat)):St:=src.map λo=>match o with|none=>none|some i=>(σ[i]?).join
theorem ę.len:∀{N:ó}{src:List (Option Nat)},ę X bp N src->src.length=N.length|[],[],_=>rfl|[],_::_,h=>h.elim|_::_,[],h=>h.elim|_::N,none::r,h=>by have h':ę X bp N r:=h;have:=ę.len (N:=N) (src:=r) h';simp[this];|_::N,some _::r,h=>by have:=ę.len (N:=N) (src:=r) h.2;simp[this]
theorem ę.get:∀{N:ó}{src:List (Option Nat)}{j i:Nat},ę X bp N src->N[j]?=some x->src[j]?=some (some i)->X.N[i]?=some x/\(X.env.kindOf x=some .cell\/X.env.kindOf x=some .free)/\bp.cells.lookup x=X.env.cells.lookup x/\(bp.kindOf x=some .cell\/bp.kindOf x=some .free)|[],[],_,_,_,e,_=>by simp at e;|[],_::_,_,_,h,_,_=>h.elim|_::_,[],_,_,h,_,_=>h.elim|_::_,none::_,0,_,_,_,e=>by simp at e;|_::N,none::r,j+1,_,h,e1,e2=>by have h':ę X bp N r:=h;exact ę.get (N:=N) (src:=r) (j:=j) h' (by simpa using e1) (by simpa using e2);|_::_,some _::_,0,_,h,e1,e2=>by simp at e1 e2;subst e1 e2;exact h.1;|_::_,some _::_,j+1,_,h,e1,e2=>ę.get (j:=j) h.2 (by simpa using e1) (by simpa using e2)
structure Đ(X:Cx)(scope:Scope):Prop where
 kind:scope.kind=.function
 cell:scope.names.all (λp=>p.2 !=.cell)=true
 names:scope.names.all (λp=>p.2 !=.local||scope.names.lookup p.1==some .local)=true
 free:scope.names.all (λp=>p.2 !=.free||(X.env.cells.lookup p.1).isSome)=true
section
theorem Đ.hcell(S:Đ X scope):∀p∈scope.names,p.2≠NameKind.cell:=λp hp=>by have:=ō.mp S.cell p hp;simpa using this
theorem Đ.hnames(S:Đ X scope):∀p∈scope.names,p.2=.local->scope.names.lookup p.1=some .local:=λp hp e=>by have:=ō.mp S.names p hp;simpa[e]using this
theorem Đ.hfree(S:Đ X scope):∀p∈scope.names,p.2=NameKind.free->(X.env.cells.lookup p.1).isSome=true:=λp hp e=>by have:=ō.mp S.free p hp;simpa[e]using this
end
def PTs(X:Cx)(ifs:Qa3)(t:TT):Prop:=∀Á s(σ:St)H Q,Ç X Á σ H s->t σ H Q->wpAny (model X.prog X.w) X.A (forIn ifs true λc r=>if r=true then do let ok<-isTrue c X.env (eval c X.env);pure (ForInStep.yield ok)else pure (ForInStep.yield r)) (TP X Á σ Q) X.xe s
def uC:TT:=λ_ H Q=>Q true H
theorem bG:PTs X [] uC:=λ_ _ _ H _ I h=>wpAny_tests_nil ⟨H,I,h⟩
theorem iB(h:PT X c t):PTs X [c] t:=λÁ s σ H Q I q=>wpAny_tests_one (h Á s σ H Q I q)
theorem Ir(I:Nat->Shared->Prop)(turn:∀n s,I n s->wpAny (model prog w) A (pyNext it) (λr s₁=>match r with|none=>R (.ok .next) s₁|some v=>wpAny (model prog w) A (letOwnedTupleGo target it v) (λ_ tw=>wpAny (model prog w) A (assign target env v) (λ_ s₂=>wpAny (model prog w) A (forIn ifs true λc r=>if r=true then do let ok<-isTrue c env (eval c env);pure (ForInStep.yield ok)else pure (ForInStep.yield r)) (λok s₃=>if ok=true then wpAny (model prog w) A (eval elt env) (λx kD=>wpAny (model prog w) A (call (.builtin "list.append") [acc,x]) (λ_ CC=>∃m,m<n/\I m CC) (λ_ _=>False) kD) (λ_ _=>False) s₃ else∃m,m<n/\I m s₃) (λ_ _=>False) s₂) (λ_ _=>False) tw) (λ_ _=>False) s₁) (λ_ _=>False) s)(n:Nat)(h:I n s):codeAny (model prog w) A (.compLoop (.ListComp elt [⟨target,iter,ifs,0⟩] scope pos) 0 it acc env) R s:=by refine codeAny_loop rfl I (λn s hI=>?_) n h;show wpAny _ A ((compTurn (.ListComp elt [⟨target,iter,ifs,0⟩] scope pos) 0 it acc env).onRaise (λx=>do noteFrame x env;theTreesLotGoes x)) _ _ s;refine wpAny_noted ?_;rw[compTurn_list];refine Å (wpAny_standAt (Å (wpAny_mono (turn n s hI) (λr s₁ h₁=>?_) λ_ _ h'=>h'.elim)));cases r with|none=>exact Ý h₁;|some v=>refine Å (wpAny_mono h₁ (λ_ tw CD=>?_) λ_ _ h'=>h'.elim);refine Å (wpAny_mono CD (λ_ s₂ iA=>Å (wpAny_mono iA (λok s₃ qv=>?_) λ_ _ h'=>h'.elim)) λ_ _ h'=>h'.elim);cases ok with|false=>exact Ý ⟨rfl,qv⟩;|true=>exact Å (Å (wpAny_mono qv (λx kD JA=>Å (wpAny_mono JA (λ_ CC JE=>Ý (Ý ⟨rfl,JE⟩)) λ_ _ h'=>h'.elim)) λ_ _ h'=>h'.elim))
def jY(J:It)(g:TG)(tt:TT)(te:TE)(Fin:List V->Hp->Prop)(cS:St)(H0:Hp):Prop:=∃W:Nat->Nat->List V->St->Hp->Prop,(∃m,W 0 m [] cS H0)/\∀i m ys σ H,W i m ys σ H->ys.length<sizeLine/\((J.stop i H/\Fin ys H)\/(J.go i H/\∀x H',J.yld i H x H'->g x σ H' λaI H2=>tt aI H2 λb H3=>if b=true then te aI H3 λy H4=>∃m',m'<m/\W (i+1) m' (ys++[y]) aI H4 else∃m',m'<m/\W (i+1) m' ys aI H3))
abbrev TM:=List V->St->Hp->(List V->St->Hp->Prop)->Prop
abbrev yD(us:ā)(k:Nat):Obj:={cls:=.type "list",data:=.seq us.toArray k}
def ϛ(X:Cx)(D:Addr):Prop:=D≠X.env.locals/\D∉X.fs/\X.s₀.heap.objs.size<=D/\(∀x c,X.env.cells.lookup x=some c->c≠D)/\∀p∈X.pn,p.1≠D
structure Fil(X:Cx)(Á:T7)(D:Addr)(σ:St)(H:Hp)(s:Shared)(ys:List V):Prop where
 inv:Ç X Á σ H s
 nD:H D=none
 np:∀p∈Á,p.1≠D
 obj:∃us k,s.heap.get? D=some (yD us k)/\Ï ys us
def PM(X:Cx)(D:Addr)(M:Sem Fin->Sem Fin)(tm:TM):Prop:=∀Á s σ H Q ys,Fil X Á D σ H s ys->ys.length<sizeLine->tm ys σ H Q->∀c R E,(∀s' de ah H',Fil X Á D ah H' s' de->Q de ah H'->wpAny (model X.prog X.w) X.A c R E s')->wpAny (model X.prog X.w) X.A (M c) R E s
def tmE(te:TE):TM:=λys σ H Q=>te σ H λy H'=>Q (ys++[y]) σ H'
def Iu(elt:Expr)(D:Addr)(env:Env):Sem Fin->Sem Fin:=λc=>(do let _<-call (.builtin "list.append") [.ref D,<-eval elt env])>>=λ_=>c
theorem thx{Q Q':α->Shared->Prop}(h:wpAny M A t Q (λ_ _=>False) s)(hQ:∀a s,Q a s->Q' a s):wpAny M A t Q' E s:=wpAny_mono h hQ λ_ _ x=>x.elim
theorem Lh(ap:ϛ X D)(hx:X.xe=λ_ _=>False)(he:PE X elt te):PM X D (Iu elt D X.env) (tmE te):=by
 intro Á s σ H Q ys F hsz h c R E hc;obtain⟨I,nD,np,us,k,oD,rv⟩:=F;obtain⟨a1,a2,a3,a4,a5⟩:=ap;have I':Ç X (Á++[(D,yD us k)]) σ H s:=I.pins_of λp hp=>(Ę.mp hp).elim (λz=>I.pin p (Ŗ _ z)) λz=>by rw[ű.mp z];exact⟨oD,nD,a1,a2,λv z=>by cases z⟩
 have FG:=he _ s σ H _ I' h;rw[hx]at FG;refine Å (Å (thx FG λxv s8=>?_));rintro⟨y,H8,I8,r8,q8⟩;have pD:=I8.pin (D,yD us k) (Ŗ _ (Ŗ _ (ű.mpr rfl)));refine Å (append_at (hsz:=by rw[ē,<-rv.length];exact Za6 hsz) pD.1 λh9 T3 T4=>Ý ?_);refine hc _ _ _ _ ⟨I8.unpinned.turned (t':=s8.toks) (λb o hb e=>T3.extBut b o hb e) pD.2.1 a1 (.inr a3) a4 λp hp=>?_,pD.2.1,np,us++[xv],k+1,?_,rv.append (.cons r8 .nil)⟩ q8;.exact(Ę.mp hp).elim (a5 p) (np p)
 .show h9.get? D=_;rw[T4,List.push_toArray]
def Kd(J:It)(g:TG)(tt:TT)(tm:TM)(Fin:List V->St->Hp->Prop)(T5:List V)(cS:St)(H0:Hp):Prop:=∃W:Nat->Nat->List V->St->Hp->Prop,(∃m,W 0 m T5 cS H0)/\∀i m ys σ H,W i m ys σ H->ys.length<sizeLine/\((J.stop i H/\Fin ys σ H)\/(J.go i H/\∀x H',J.yld i H x H'->g x σ H' λaI H2=>tt aI H2 λb H3=>if b=true then tm ys aI H3 λde ah H4=>∃m',m'<m/\W (i+1) m' de ah H4 else∃m',m'<m/\W (i+1) m' ys aI H3))
def zV(tg:Expr)(ifs:Qa3)(p:Pos)(it:Value)(env:Env)(M:Sem Fin->Sem Fin)(c:Sem Fin):Sem Fin:=do standAt p match<-pyNext it with
 |none=>pure (.done .next)|some v=>
  letOwnedTupleGo tg it v
  assign tg env v let ok<-forIn ifs true λc r=>if r=true then do let ok<-isTrue c env (eval c env);pure (ForInStep.yield ok)else pure (ForInStep.yield r)if ok=true then M c else c
theorem Nx(hc:X.calm=true)(hx:X.xe=λ_ _=>False)(ap:ϛ X D)(ht:compTurn (.ListComp elt gens scope pos) d (.ref it) (.ref D) X.env=zV tg ifs p (.ref it) X.env M (again (.compLoop (.ListComp elt gens scope pos) d (.ref it) (.ref D) X.env)))(hg:PG X tg g)(mm:PTs X ifs tt)(hm:PM X D M tm)(F:Fil X Á D σ H s ys)(T:Ŏ X.prog X.w X.K tg J fp it tn)(st:tn 0 s.heap)(hf:∀b∈fp,ni X Á H b/\b≠D)(hW:Kd J g tt tm Q ys σ H)(hR:∀s' de ah H',Fil X Á D ah H' s' de->de.length<sizeLine->Q de ah H'->R (.ok .next) s'):codeAny (model X.prog X.w) X.A (.compLoop (.ListComp elt gens scope pos) d (.ref it) (.ref D) X.env) R s:=by
 obtain⟨W,⟨m0,w0⟩,step⟩:=hW;refine codeAny_loop rfl (λn s'=>∃i ys ah H',Fil X Á D ah H' s' ys/\tn i s'.heap/\(∀b∈fp,H' b=none)/\W i n ys ah H') (λn s3 hI=>?_) m0 ⟨0,ys,σ,H,F,st,λb hb=>(hf b hb).1.1,w0⟩;obtain⟨i,ys,gy,H3,⟨I3,qA,np,us,k,T6,CF⟩,iX,Cn,w3⟩:=hI;show wpAny _ _ ((compTurn (.ListComp elt gens scope pos) d (.ref it) (.ref D) X.env).onRaise (λx=>do noteFrame x X.env;theTreesLotGoes x)) _ _ s3;refine wpAny_noted ?_;rw[ht];obtain⟨a1,a2,a3,a4,a5⟩:=ap;obtain⟨hsz,xA⟩:=step i n ys gy H3 w3;have Oy:Ç X (Á++[(D,yD us k)]) gy H3 s3:=I3.pins_of λp hp=>(Ę.mp hp).elim (λz=>I3.pin p (Ŗ _ z)) λz=>by rw[ű.mp z];exact⟨T6,qA,a1,a2,λv z=>by cases z⟩
 have CH:∀{H':Hp},(∀b∈fp,H' b=none)->∀b∈fp,ni X (Á++[(D,yD us k)]) H' b:=λ{H'}hn b hb=>by
  obtain⟨⟨_,f1,f2,f3,f4,f5⟩,f6⟩:=hf b hb;refine⟨hn b hb,f1,f2,f3,f4,λq hq=>?_⟩;rw[<-Ń]at hq;rcases Ę.mp hq with z|z;.exact f5 q z
  .rw[ű.mp z];exact f6.symm
 refine Å (wpAny_standAt (Å ?_));rcases xA with⟨stop,fin⟩|⟨go,turn⟩;.refine thx (T.done X rfl rfl rfl hc i _ s3 gy H3 (λ_ _=>False) Oy (CH Cn) iX stop) λr s4=>?_;rintro⟨hr,I4⟩;subst hr;have pD:=I4.pin (D,yD us k) (Ŗ _ (Ŗ _ (ű.mpr rfl)));exact Ý (hR s4 ys gy H3 ⟨I4.unpinned,qA,np,us,k,pD.1,CF⟩ hsz fin)
 .refine thx (T.item X rfl rfl rfl hc i _ s3 gy H3 (λ_ _=>False) Oy (CH Cn) iX go) λr s4=>?_;rintro⟨u,hr,h4⟩;subst hr;refine Å (thx h4 λ_ s5=>?_);rintro⟨x,H5,I5,r5,y5,xb,IJ⟩;have IL:=I5.pinned (CH IJ) (T.obj _ _ xb);have OA:=hg _ s5 gy H5 x u _ IL r5 (turn x H5 y5);rw[hx]at OA;refine Å (thx OA λ_ s6=>?_);rintro⟨AM,H6,I6,q6⟩;have iq:=mm _ s6 AM H6 _ I6 q6;rw[hx]at iq;refine Å (thx iq λokb s7=>?_);rintro⟨H7,I7,q7⟩;have pD:=I7.pin (D,yD us k) (Ŗ _ (Zaw _ (Ŗ _ (ű.mpr rfl))));have OB:Ç X (Á++dY fp s5.heap) AM H7 s7:=I7.pins_of λq hq=>(Ę.mp hq).elim (λz=>I7.pin q (Ŗ _ (Zaw _ (Zaw _ z)))) λz=>I7.pin q (Ŗ _ (Ŗ _ z));have OC:∀q∈Á++dY fp s5.heap,q.1≠D:=λq hq=>(Ę.mp hq).elim (np q) λz=>(hf _ (nj z).1).2;have back:∀{H8:Hp}{s8:Shared}{CI:St}{CL:List V},Fil X (Á++dY fp s5.heap) D CI H8 s8 CL->Fil X Á D CI H8 s8 CL/\tn (i+1) s8.heap/\∀b∈fp,H8 b=none:=λ{H8 s8 CI CL}F8=>by obtain⟨I8,n8,_,o8⟩:=F8;have pf:∀b∈fp,∀o,s5.heap.get? b=some o->s8.heap.get? b=some o:=λb hb o e=>(I8.pin (b,o) (Ŗ _ (Ŗ _ (jb hb e)))).1;refine⟨⟨I8.unpinned,n8,np,o8⟩,T.keep _ _ _ xb pf,λb hb=>?_⟩;obtain⟨o,e,_⟩:=T.obj _ _ xb b hb;exact(I8.pin (b,o) (Ŗ _ (Ŗ _ (jb hb e)))).2.1
  cases okb with|false=>obtain⟨m',AO,w7⟩:=q7;obtain⟨b1,b2,b3⟩:=back ⟨OB,pD.2.1,OC,us,k,pD.1,CF⟩;exact Ý ⟨rfl,m',AO,i+1,ys,AM,H7,b1,b2,b3,w7⟩;|true=>refine hm _ s7 AM H7 _ ys ⟨OB,pD.2.1,OC,us,k,pD.1,CF⟩ hsz q7 _ _ _ λs8 CL CI H8 F8 q8=>?_;obtain⟨m',AO,w8⟩:=q8;obtain⟨b1,b2,b3⟩:=back F8;exact Ý ⟨rfl,m',AO,i+1,CL,CI,H8,b1,b2,b3,w8⟩
theorem Eu(hd:gens[d]?=some c)(ha:c.is_async=0)(h0:codeAny (model prog w) A (.compLoop (.ListComp elt gens scope pos) d it acc env) R s)(h:wpAny (model prog w) A (pyIter it) (λOE s'=>codeAny (model prog w) A (.compLoop (.ListComp elt gens scope pos) d OE acc env) R s') (λ_ _=>False) s):codeAny (model prog w) A (.compStart (.ListComp elt gens scope pos) d it acc env) R s:=by
 refine codeAny_of_tree ?_;show wpAny _ _ ((compStart (.ListComp elt gens scope pos) d it acc env).onRaise (λx=>do noteFrame x env;standAt theWindowsPlace)) _ _ s;refine wpAny_notedAt ?_;have e:(clausesOf (.ListComp elt gens scope pos))[d]?=some c:=hd;unfold compStart;rw[e];have e2:(Option.elim (some c) false λx=>x.is_async !=0)=false:=by show(c.is_async !=0)=false;rw[ha];rfl
 rw[e2];show wpAny _ _ (ask>>=_) _ _ s;refine Å (wpAny_askSetting (wpAny_ite ?_));split;.exact Ý (And.intro rfl h0)
 .refine Å (wpAny_rule (Å (wpAny_standAt (Å (thx h λOE s' h'=>Ý (And.intro rfl h'))))))
section
theorem Cv(hg:gens[d]?=some ⟨tg,iter,ifs,0⟩)(hn:gens[d+1]?=none):compTurn (.ListComp elt gens scope pos) d it (.ref D) env=zV tg ifs iter.pos it env (Iu elt D env) (again (.compLoop (.ListComp elt gens scope pos) d it (.ref D) env)):=by unfold compTurn zV Iu;simp only[hg,hn];rfl
end
theorem yE{M:Addr->Env->Sem Fin->Sem Fin}(hc:X.calm=true)(S:Đ X scope)(hd:gens[0]?=some ⟨tg,iter,ifs,0⟩)(CM:∀it D env,compTurn (.ListComp elt gens scope pos) 0 (.ref it) (.ref D) env=zV tg ifs p (.ref it) env (M D env) (again (.compLoop (.ListComp elt gens scope pos) 0 (.ref it) (.ref D) env)))(dP:∀C,ę X (compEnvC scope (cY X.env.cells scope.names []) C X.env) Nc src)(hb:∀C fp Á s₂ Õ,PG (ξ X scope Nc C fp Á s₂ Õ) tg g/\PTs (ξ X scope Nc C fp Á s₂ Õ) ifs tt/\∀D,ϛ (ξ X scope Nc C fp Á s₂ Õ) D->PM (ξ X scope Nc C fp Á s₂ Õ) D (M D (ξ X scope Nc C fp Á s₂ Õ).env) tm){σ:St}{fp:Č}{tn:Nat->Heap->Prop}{J:It}(aw:Ç X Á σ Õ s₂)(T:Ŏ X.prog X.w X.K tg J fp it tn)(st:tn 0 s₂.heap)(hf:∀b∈fp,ni X Á Õ b){Fin:List V->Hp->Prop}(hW:Kd J g tt tm (λys _ H=>Fin ys H) [] (ļ σ src) Õ){RR:Value->Addr->Result->Shared->Prop}{E:TQ}(JI:∀D C s' ys H' m,Fin ys H'->H' D=none->Ç X Á σ (upd H' D (.lst ys)) s'->s'.heap.Ns C m->ni X Á (upd H' D (.lst ys)) C->RR (.ref D) C (.ok .next) s'):wpAny (model X.prog X.w) X.A (newList []) (λacc s₃=>wpAny (model X.prog X.w) X.A (newFunctionEnv scope X.env.globals (cY X.env.cells scope.names []) [] X.env.qual none .none (some X.env)) (λmn kD=>codeAny (model X.prog X.w) X.A (.compStart (.ListComp elt gens scope pos) 0 (.ref it) acc {mn with scope:=relabel scope X.env}) (RR acc mn.locals) kD) E s₃) E s₂:=by
 refine ϣ (wpAny_newFunctionEnv S.hcell (by intro y hy;simp at hy) (λh₁ eW dv=>?_) S.kind);dsimp only at eW dv⊢;generalize JJ:s₂.heap.push {cls:=.type "list",dict:=none,data:=.seq ([]:ā).toArray}=HH at eW dv⊢;generalize tF:s₂.heap.objs.size=D at eW dv⊢;have hC:HH.objs.size=D+1:=by rw[<-JJ,Heap.size_push,tF]
 generalize hCC:HH.objs.size=C at eW dv hC⊢;have JO:D≠C:=Â;have below:∀b,b<s₂.heap.objs.size->b≠C/\b≠D:=λb hb=>by rw[tF]at hb;exact⟨by rw[hC];exact Ĩ (Nat.lt_succ_of_lt hb),Ĩ hb⟩
 have bq:∀{b o},s₂.heap.get? b=some o->b≠C/\b≠D:=λ{b o}e=>below b (ÿ e);have old:∀b o,s₂.heap.get? b=some o->h₁.get? b=some o:=λb o e=>dv.extBut b o (bq e).1 (č _ (JJ▸č _ e));have JU:h₁.get? D=some {cls:=.type "list",data:=.seq ([]:ā).toArray}:=dv.extBut _ _ JO (č _ (JJ▸tF▸ı _ rfl));have T8:∀b∈fp,∃o,s₂.heap.get? b=some o:=λb hb=>by obtain⟨o,e,_⟩:=T.obj _ _ st b hb;exact⟨o,e⟩
 have FH:∀b∈fp,b≠C/\b≠D:=λb hb=>by obtain⟨o,e⟩:=T8 b hb;exact bq e
 have sub:∀{x c},(cY X.env.cells scope.names []).lookup x=some c->X.env.cells.lookup x=some c:=λ{x c}e=>by
  rcases ju scope.names [] S.hfree e with z|z;.simp at z
  .exact z
 have T9:∀{b o},s₂.heap.get? b=some o->b<D:=λ{b o}e=>by rw[<-tF];exact ÿ e
 have fresh:∀a,D<=a->Õ a=none:=λa ha=>aw.hok.fresh (by rw[tF];exact ha);have tI:∀{x c},X.env.cells.lookup x=some c->∃o,s₂.heap.get? c=some o:=λ{x c}e=>by obtain⟨v,o,ho,_⟩:=aw.cell x c e;exact⟨o,ho⟩
 have JY:∀b∈ė X.stack,∃o,s₂.heap.get? b=some o:=λb hb=>by
  rcases ĩ.mp (aw.stkSub b hb)with e|hb;.rw[e];obtain⟨m,⟨o,_,_,ho,_⟩,_⟩:=aw.loc;exact⟨o,ho⟩
  .obtain⟨_,o,ho,_⟩:=aw.funs.mem hb;exact⟨o,ho⟩
 have Kb:∀a,D<=a->a∉ė X.stack:=λa ha hb=>by obtain⟨o,e⟩:=JY a hb;exact absurd (Ł (T9 e) ha) (η _)
 have OG:∀b∈fp,b∉ė X.stack:=λb hb z=>by
  obtain⟨_,f1,f2,_⟩:=hf b hb;rcases ĩ.mp (aw.stkSub b z)with e|e;.exact f1 e
  .exact f2 e
 generalize hG:ξ X scope Nc C fp Á s₂ Õ=X';obtain⟨hg,ht,hm⟩:=hb C fp Á s₂ Õ;rw[hG]at hg ht hm;have xB:X'.Ok:=by
  subst hG;refine⟨aw.ok.mod,S.kind,aw.ok.glob,aw.ok.blt,?_,?_,?_,?_,aw.ok.hd,aw.ok.frames,.inl rfl,?_,aw.bs,ŝ aw.ok.bsz aw.sz,?_,OG,aw.stack,aw.stkFree⟩;.show s₂.heap.objs.size<=C;lia
  .exact λx y c e1 e2=>aw.ok.inj x y c (sub e1) (sub e2)
  .intro x hx;have hx:(relabel scope X.env).names.lookup x=some .cell\/(relabel scope X.env).names.lookup x=some .free:=hx;have:∃k',(x,k')∈scope.names/\k'=NameKind.free:=by
    rcases hx with z|z;.exact oh S.hcell z (.inl rfl)
    .exact oh S.hcell z (.inr rfl)
   exact lQ scope.names [] (.inl this)
  .intro x c z;exact absurd z (by show¬(false=true);simp)
  .intro b hb;exact⟨(FH b hb).1,λx c e=>(hf b hb).2.2.2.2.1 x c (sub e)⟩
  .intro b o e hb;obtain⟨_,_,_,f3,_⟩:=hf b hb;rcases f3 with z|z;.exact aw.ok.noex b o e z
   .exact absurd (Ł (ÿ (aw.ok.bs b o e).1) z) (η _)
 have eP:X'.prog=X.prog:=by subst hG;rfl
 have ew:X'.w=X.w:=by subst hG;rfl
 have eK:X'.K=X.K:=by subst hG;rfl
 have eA:X'.A=X.A:=by subst hG;rfl
 have eE:X'.xe=λ_ _=>False:=by subst hG;rfl
 have eL:X'.env.locals=C:=by subst hG;rfl
 have eN:X'.env=compEnvC scope (cY X.env.cells scope.names []) C X.env:=by subst hG;rfl
 have ec:X'.calm=true:=by subst hG;exact hc
 have eS:X'.s₀=s₂:=by subst hG;rfl
 have eH:X'.H₀=Õ:=by subst hG;rfl
 have ef:X'.fs=ė X.stack:=by subst hG;rfl
 have ex:X'.ex=fp:=by subst hG;rfl
 have ep:X'.pn=X.pn++Á:=by subst hG;rfl
 have I0:Ç X' [] (ļ σ src) Õ {s₂ with heap:=h₁,toks:=s₂.toks+([]:List (Str×Value)).length}:=by
  refine⟨xB,by rw[eS],aw.bare,by rw[eS,eH];exact Un.kept old,⟨_,by rw[eL];exact eW,?_⟩,?_,by rw[eL];exact fresh _ Â,?_,?_,by rw[eP,ew];exact aw.hok.kept old,?_⟩
  .intro j x v e1 e2 e3;have e1:Nc[j]?=some x:=by subst hG;exact e1
   have e4:∃i,src[j]?=some (some i)/\(σ[i]?).join=some v:=by unfold ļ at e2;rw[ċ]at e2;cases q:src[j]? with|none=>rw[q]at e2;cases e2;|some o=>rw[q]at e2;cases o with|none=>simp at e2;|some i=>exact⟨i,rfl,by simpa using e2⟩
   obtain⟨i,e5,e6⟩:=e4;obtain⟨c1,c2,c3,c4⟩:=(dP C).get e1 e5;have e7:σ[i]?=some (some v):=by cases q:σ[i]? with|none=>rw[q]at e6;simp at e6;|some o=>rw[q]at e6;simp at e6;rw[e6]
   obtain⟨m,_,hl⟩:=aw.loc;obtain⟨u,r,l⟩:=hl i x v c1 e7 (.inr (by rcases c2 with z|z;exact .inl z;exact .inr z));refine⟨u,r,?_⟩;rcases l with⟨k,_⟩|⟨_,c,e,z⟩;.rcases c2 with c2|c2<;>(rw[k]at c2;cases c2)
   .refine .inr ⟨by rw[eN];exact c4,c,by rw[eN];exact c3.trans e,?_⟩;obtain⟨o,ho,hd⟩:=z;exact⟨o,old c o ho,hd⟩
  .intro x c e;rw[eN]at e;obtain⟨v,o,ho,hd⟩:=aw.cell x c (sub e);exact⟨v,o,old c o ho,hd⟩
  .intro x c e;rw[eN]at e;exact aw.freeC x c (sub e)
  .intro p hp;rw[ep,Ś]at hp;obtain⟨e,n,ne,nf,d⟩:=aw.pin p hp;refine⟨old _ _ e,n,by rw[eL];exact(bq e).1,?_,d⟩;rw[ef];intro z;rcases ĩ.mp (aw.stkSub _ z)with q|q;.exact ne q
   .exact nf q
  .have:=(dP C).len;subst hG;show(ļ σ src).length=Nc.length;unfold ļ;rw[Ø,this]
 have Ua:∀p∈X'.pn,p.1≠D:=λp hp=>by rw[ep]at hp;exact(bq (aw.pin p hp).1).2
 have CO:∀x c,X'.env.cells.lookup x=some c->c≠D:=λx c e=>by rw[eN]at e;obtain⟨o,ho⟩:=tI (sub e);exact(bq ho).2
 have CH:∀{P:T7}{H:Hp},(∀p∈P,p.1=D)->(∀b∈fp,H b=none)->∀b∈fp,ni X' P H b:=λ{P H}hP hn b hb=>by
  refine⟨hn b hb,by rw[eL];exact(FH b hb).1,by rw[ef];exact OG b hb,.inl (by rw[ex];exact hb),λx c e=>?_,λp hp=>?_⟩;.rw[eN]at e;exact(hf b hb).2.2.2.2.1 x c (sub e)
  .rcases Ę.mp hp with z|z;.rw[ep]at z;exact(hf b hb).2.2.2.2.2 p z
   .rw[hP p z];exact(FH b hb).2.symm
 have ap:ϛ X' D:=⟨by rw[eL];exact JO,by rw[ef];exact Kb _ (ß _),by rw[eS,tF];exact ß _,CO,Ua⟩;have T':Ŏ X'.prog X'.w X'.K tg J fp it tn:=by rw[eP,ew,eK];exact T
 have loop:∀s₃:Shared,s₃={s₂ with heap:=h₁,toks:=s₂.toks+([]:List (Str×Value)).length}->codeAny (model X.prog X.w) X.A (.compLoop (.ListComp elt gens scope pos) 0 (.ref it) (.ref D) (compEnvC scope (cY X.env.cells scope.names []) C X.env)) (RR (.ref D) C) s₃:=by
  rintro s₃ rfl;have L:=Nx (X:=X') (R:=RR (.ref D) C) ec eE ap (CM it D X'.env) hg ht (hm D ap) ⟨I0,fresh _ (ß _),λp hp=>absurd hp Ù,[],_,JU,.nil⟩ T' (T.keep _ _ _ st λb _ o e=>old b o e) (λb hb=>⟨CH (λp hp=>absurd hp Ù) (λb hb=>(hf b hb).1) b hb,(FH b hb).2⟩) hW ?_;.rw[eP,ew,eA,eN]at L;exact L
  rintro s4 ys gy H3⟨I4,qA,_,us,k,oD,CF⟩hsz fin;obtain⟨mC,OH,_⟩:=I4.loc;rw[eL]at OH;have tJ:=I4.base;rw[eS,eH,ef,ex]at tJ;have hlen:ys.length<=sizeLine:=Za6 hsz;have Ki:ą X.prog X.w (upd H3 D (.lst ys)) s4.heap:=λb u e=>by
   by_cases hb:b=D;.subst hb;rw[aj]at e;cases e;exact⟨hlen,us,k,CF,oD⟩
   .rw[aq hb]at e;have z:=I4.hok b u e;rw[eP,ew]at z;exact z.stay (λc v _ q=>q) (λc q=>by rw[aq (aB q qA)];exact q) λc xs q=>by rw[aq (aB q qA)];exact q
  have un:Un (ė X.stack) fp Õ (upd H3 D (.lst ys)) s₂.heap s4.heap:=⟨tJ.keep,tJ.slot,λb o e n hx=>by rw[aq (bq e).2];exact tJ.free b o e n hx,tJ.there,λb xs e=>by have z:=tJ.tups b xs e;rw[aq (aB z qA)];exact z,λb o u e=>by have z:=tJ.frzs b o u e;rw[aq (aB z qA)];exact z,λb ps e=>by obtain⟨mo,z⟩:=tJ.tbls b ps e;exact⟨mo,by rw[aq (aB z qA)];exact z⟩⟩;have J4:Ç X Á σ (upd H3 D (.lst ys)) s4:=aw.call' (ch:=fp) (by have:=I4.os;rw[eS]at this;exact this) un Ki I4.bare λb hb=>by obtain⟨_,f1,f2,f3,f4,f5⟩:=hf b hb;exact⟨f3,f1,f4,f5⟩
  refine JI D C s4 ys H3 mC fin qA J4 OH ⟨?_,?_,?_,.inr ?_,?_,?_⟩;.rw[aq JO.symm];have:=I4.free;rw[eL]at this;exact this
  .have:=aw.lt;rw[tF]at this;exact ϩ (Ł this (by rw[hC];exact Zbf _))
  .intro z;obtain⟨_,o,ho,_⟩:=aw.funs.mem z;exact(bq ho).1 rfl
  .have:=aw.sz;rw[tF]at this;lia
  .intro x c e z;obtain⟨o,ho⟩:=tI e;exact(bq ho).1 z
  .intro p hp z;exact(bq (aw.pin p hp).1).1 z
 exact Eu hd rfl (loop _ rfl) (T.self _ 0 _ _ _ (T.keep _ _ _ st λb _ o e=>old b o e) (loop _ rfl))
theorem sV(hc:X.calm=true)(S:Đ X scope)(dP:∀C,ę X (compEnvC scope (cY X.env.cells scope.names []) C X.env) Nc src)(hb:∀C fp Á s₂ Õ,PG (ξ X scope Nc C fp Á s₂ Õ) tg g/\PTs (ξ X scope Nc C fp Á s₂ Õ) ifs tt/\PE (ξ X scope Nc C fp Á s₂ Õ) elt te){σ:St}(aw:Ç X Á σ Õ s₂)(T:Ŏ X.prog X.w X.K tg J fp it tn)(st:tn 0 s₂.heap)(hf:∀b∈fp,ni X Á Õ b){Fin:List V->Hp->Prop}(hW:jY J g tt te Fin (ļ σ src) Õ){RR:Value->Addr->Result->Shared->Prop}{E:TQ}(JI:∀D C s' ys H' m,Fin ys H'->H' D=none->Ç X Á σ (upd H' D (.lst ys)) s'->s'.heap.Ns C m->ni X Á (upd H' D (.lst ys)) C->RR (.ref D) C (.ok .next) s'):wpAny (model X.prog X.w) X.A (newList []) (λacc s₃=>wpAny (model X.prog X.w) X.A (newFunctionEnv scope X.env.globals (cY X.env.cells scope.names []) [] X.env.qual none .none (some X.env)) (λmn kD=>codeAny (model X.prog X.w) X.A (.compStart (.ListComp elt [⟨tg,iter,ifs,0⟩] scope pos) 0 (.ref it) acc {mn with scope:=relabel scope X.env}) (RR acc mn.locals) kD) E s₃) E s₂:=by exact yE (gens:=[⟨tg,iter,ifs,0⟩]) (p:=iter.pos) (M:=λD env=>Iu elt D env) (tm:=tmE te) hc S rfl (λit D env=>Cv rfl rfl) dP (λC fp Á s₂ Õ=>⟨(hb C fp Á s₂ Õ).1,(hb C fp Á s₂ Õ).2.1,λD ap=>Lh ap rfl (hb C fp Á s₂ Õ).2.2⟩) aw T st hf hW JI
def Ex(wi:TI)(src:List (Option Nat))(g:TG)(tt:TT)(te:TE):TE:=λσ H Q=>wi σ H λJ H1=>jY J g tt te (λys H'=>∀D,H' D=none->Q (.ref D) (upd H' D (.lst ys))) (ļ σ src) H1
section
theorem bD(Nc:ó)(src:List (Option Nat))(hc:X.calm=true)(hi:PI X tg iter wi)(hb:∀C fp Á s₂ Õ,PG (ξ X scope Nc C fp Á s₂ Õ) tg g/\PTs (ξ X scope Nc C fp Á s₂ Õ) ifs tt/\PE (ξ X scope Nc C fp Á s₂ Õ) elt te)(dP:∀C,ę X (compEnvC scope (cY X.env.cells scope.names []) C X.env) Nc src)(S:Đ X scope)(hs:∀x,foldedSetIterable iter X.env x=pure x:=by intro _;rfl):PE X (.ListComp elt [⟨tg,iter,ifs,0⟩] scope pos) (Ex wi src g tt te):=by intro Á s σ H Q I h;rw[eval_ListComp];refine wpAny_comprehension_free (use:=none) rfl hs (oU S.hfree) S.kind S.hnames ?_;refine Þ (hi Á s σ H _ I h) λv s1 h1=>Þ h1 λFD s2 h2=>?_;obtain⟨it,fp,tn,J,H2,e,I2,T,st2,f2,hW⟩:=h2;subst e;refine sV (RR:=λacc C=>compPost (model X.prog X.w) X.A X.xe none (EP X Á σ Q) acc C) hc S dP hb I2 T st2 f2 hW ?_;intro D C s' ys H' m fin nD J' hn fC;obtain⟨f0,f1,_,f3,f4,f5⟩:=fC;refine⟨m,hn,λUb xC=>?_⟩;exact⟨.ref D,_,J'.turned (t':=s'.toks) (λb o hb e=>xC.extBut b o hb e) f0 f1 f3 f4 f5,rfl,fin D nD⟩
def Li(wi:TI)(src:List (Option Nat))(g:TG)(tt:TT)(te:TE)(i:Nat):TS:=λD σ H=>Ex wi src g tt te σ H λv H'=>D.nx (σ.set i (some v)) H'
theorem jd{pos' CU:Pos}(Nc:ó)(src:List (Option Nat))(hc:X.calm=true)(hN:X.N.Nodup)(tN:X.N[i]?=some x)(hx:Loc X.env.scope x)(hi:PI X tg iter wi)(hb:∀C fp Á s₂ Õ,PG (ξ X scope Nc C fp Á s₂ Õ) tg g/\PTs (ξ X scope Nc C fp Á s₂ Õ) ifs tt/\PE (ξ X scope Nc C fp Á s₂ Õ) elt te)(dP:∀C,ę X (compEnvC scope (cY X.env.cells scope.names []) C X.env) Nc src)(S:Đ X scope)(Uc:swapsWith (.ListComp elt [⟨tg,iter,ifs,0⟩] scope pos) (some (.Name x pos')) CU.line X.env=pure true:=by rfl)(hf:X.fn x=true\/X.env.scope.names.lookup x=some .local:=by first|exact .inl rfl|exact .inr rfl|assumption)(hs:∀x,foldedSetIterable iter X.env x=pure x:=by intro _;rfl):PS X (.Assign [.Name x pos'] (.ListComp elt [⟨tg,iter,ifs,0⟩] scope pos) CU) (Li wi src g tt te i):=by
 intro Á s σ H D I h;rw[exec_Assign_Name_used _ _ _ _ Uc];refine Å (wpAny_standAt (Å ?_));show wpAny _ _ (do let _<-comprehension (.ListComp elt [⟨tg,iter,ifs,0⟩] scope pos) scope X.env _ (newList []) false (eval iter X.env) (some (assign (.Name x pos') X.env))) _ _ s;refine Å (Þ (wpAny_comprehension_free (use:=some (assign (.Name x pos') X.env)) (Q:=λ_ s'=>∃ah H',Ç X Á ah H' s'/\D.nx ah H') rfl hs (oU S.hfree) S.kind S.hnames ?_) λ_ s' hq=>Ý (Ý hq));refine Þ (hi Á s σ H _ I h) λv s1 h1=>Þ h1 λFD s2 h2=>?_;obtain⟨it,fp,tn,J,H2,e,I2,T,st2,f2,hW⟩:=h2;subst e;refine sV (RR:=λacc C=>compPost (model X.prog X.w) X.A X.xe (some (assign (.Name x pos') X.env)) (λ_ s'=>∃ah H',Ç X Á ah H' s'/\D.nx ah H') acc C) hc S dP hb I2 T st2 f2 hW ?_;intro A C s' ys H' m fin nD J' hn fC;obtain⟨f0,f1,f2',f3,f4,f5⟩:=fC;refine wpAny_assign_Name (jK J' hN tN hx (v:=.ref A) rfl (λkU Ud Ue=>?_) hf);have CY:∃m',kU.heap.Ns C m':=by
  obtain⟨a,sb,ha⟩:=Ue;have fy:C≠a:=by
   rcases ha with z|z;.rw[z];exact f1
   .exact λq=>f4 x a z q.symm
  exact⟨m,hn.sameBut sb fy⟩
 obtain⟨m',CY⟩:=CY;refine⟨m',CY,λUb xC=>?_⟩;exact⟨_,_,Ud.turned (t':=kU.toks) (λb o hb e=>xC.extBut b o hb e) f0 f1 f3 f4 f5,fin A nD⟩
end
section
theorem bZ:eO X (.builtin "isinstance") (λxs H Q=>∃x t n b,xs=[x,.ty n]/\İ X.K H x t/\PySem.W.kitOne X.K t (.type n)=some b/\Q (.bl b) H):=by intro Á s σ H xs us Q I r h;obtain⟨x,t,n,b,rfl,ty,e,q⟩:=h;obtain⟨u,c,rfl,ru,rc⟩:=ň r;obtain rfl:c=Value.type n:=rc;exact Cp I ru ty e λtk=>⟨.bl b,H,I.tok _,rfl,q⟩
theorem vR(bs:List Bool):TruthOf prog w A (λi v=>∃b,bs[i]?=some b/\v=Value.bool b) (λi=>(bs[i]?).getD false):=by intro i v s Q E hP hQ;obtain⟨b,hb,rfl⟩:=hP;dsimp only at hQ;rw[hb]at hQ;exact wpAny_truthy_bool hQ
theorem ϡ(bs:List Bool):(List.range bs.length).all (λi=>(bs[i]?).getD false)=bs.all id:=by
 apply Zas.mpr;rw[ō,ō];constructor;.intro h b hb;obtain⟨i,hi,e⟩:=Zao hb;have:=h i (Ϣ.mpr hi);rw[à hi,e]at this;exact this
 .intro h i hi;have hi:=Ϣ.mp hi;rw[à hi];exact h _ (Ě hi)
theorem je:∀{bs:List Bool}{us:ā},Ï (bs.map V.bl) us->us=bs.map Value.bool|[],_,.nil=>rfl|_::bs,_,.cons r t=>by rw[je (bs:=bs) t,show _=Value.bool _ from r];rfl
theorem dh(hc:X.calm=true):eO X (.builtin "all") (λxs H Q=>∃(p:Addr)(bs:List Bool),xs=[.ref p]/\Ê X.K H p (bs.map V.bl)/\Q (.bl (bs.all id)) H):=by
 intro Á s σ H xs us Q I r h;obtain⟨p,bs,rfl,hq,q⟩:=h;obtain⟨u,rfl,ru⟩:=ü r;cases ru;obtain⟨Æ,rv,pl,hz⟩:=I.list hq;have ei:=je rv;subst ei;have ax:p<s.heap.objs.size:=by obtain⟨_,e,_⟩:=pl.isList;exact ÿ e
 refine call_all_walk (wpAny_pyIter_list pl.isList ?_);have W:=Walks.list (prog:=X.prog) (w:=X.w) (A:=X.A.in1) (I.ok.hd hc) s.heap.objs.size p (Ĩ ax) (bs.map Value.bool).toArray;refine⟨_,_,_,_,_,_,_,rfl,{sub:=W.sub,frame:=W.frame,item:=λi s Q E hi st hQ=>W.item i s Q E hi st λv h' tk hP=>hQ v h' tk ?_,done:=W.done,self:=W.self},⟨⟨_,ı _ rfl,rfl,rfl⟩,pl.isList.push _⟩,vR bs,λh' tk k=>?_⟩;.have Dx:(bs.map Value.bool).toArray[i]?=some v:=hP;rw[List.getElem?_toArray,ċ]at Dx;cases e:bs[i]? with|none=>rw[e]at Dx;cases Dx;|some b=>rw[e]at Dx;exact⟨b,rfl,(ŗ Dx).symm⟩
 .have hsz:(bs.map Value.bool).toArray.size=bs.length:=by simp
  rw[hsz,ϡ];refine⟨.bl _,H,?_,rfl,q⟩;refine I.kept (h':=h') (t':=tk) λb o e=>k b o ?_ (č _ e);intro z;have:b=s.heap.objs.size:=by simpa using z
  exact absurd (ÿ e) (by rw[this];exact η _)
end
theorem nG{K:Frag}:PySem.W.kitOne K (.type "NoneType") (.type "int")=some false:=by kernel_rfl
theorem lR{K:Frag}:PySem.W.kitOne K (.type "NoneType") (.type "bool")=some false:=by kernel_rfl
theorem kW{K:Frag}:PySem.W.kitOne K (.type "NoneType") (.type "tuple")=some false:=by kernel_rfl
theorem uD{K:Frag}:PySem.W.kitOne K (.type "bool") (.type "int")=some true:=by kernel_rfl
theorem rB{K:Frag}:PySem.W.kitOne K (.type "bool") (.type "bool")=some true:=by kernel_rfl
theorem pU{K:Frag}:PySem.W.kitOne K (.type "bool") (.type "tuple")=some false:=by kernel_rfl
theorem vU{K:Frag}:PySem.W.kitOne K (.type "int") (.type "int")=some true:=by kernel_rfl
theorem uE{K:Frag}:PySem.W.kitOne K (.type "int") (.type "bool")=some false:=by kernel_rfl
theorem rC{K:Frag}:PySem.W.kitOne K (.type "int") (.type "tuple")=some false:=by kernel_rfl
theorem vV{K:Frag}:PySem.W.kitOne K (.type "str") (.type "int")=some false:=by kernel_rfl
theorem uF{K:Frag}:PySem.W.kitOne K (.type "str") (.type "bool")=some false:=by kernel_rfl
theorem rD{K:Frag}:PySem.W.kitOne K (.type "str") (.type "tuple")=some false:=by kernel_rfl
theorem uG{K:Frag}:PySem.W.kitOne K (.type "list") (.type "int")=some false:=by kernel_rfl
theorem rE{K:Frag}:PySem.W.kitOne K (.type "list") (.type "bool")=some false:=by kernel_rfl
theorem pW{K:Frag}:PySem.W.kitOne K (.type "list") (.type "tuple")=some false:=by kernel_rfl
theorem rF{K:Frag}:PySem.W.kitOne K (.type "tuple") (.type "int")=some false:=by kernel_rfl
theorem pY{K:Frag}:PySem.W.kitOne K (.type "tuple") (.type "bool")=some false:=by kernel_rfl
theorem oK{K:Frag}:PySem.W.kitOne K (.type "tuple") (.type "tuple")=some true:=by kernel_rfl
theorem uH{K:Frag}:PySem.W.kitOne K (.type "dict") (.type "int")=some false:=by kernel_rfl
theorem rG{K:Frag}:PySem.W.kitOne K (.type "dict") (.type "bool")=some false:=by kernel_rfl
theorem pZ{K:Frag}:PySem.W.kitOne K (.type "dict") (.type "tuple")=some false:=by kernel_rfl
section
variable{κ:Type}[DecidableEq κ]
def cQ(kvs:List (κ×V))(k:κ):Option V:=(kvs.find? λkv=>decide (kv.1=k)).map (·.2)
def ú(kvs:List (κ×V))(k:κ)(v:V):List (κ×V):=if(kvs.any λkv=>decide (kv.1=k))=true then kvs.map (λkv=>if kv.1=k then(kv.1,v)else kv)else kvs++[(k,v)]
theorem du{k:κ}(e:p.1=k):cQ (p::r) k=some p.2:=by simp[cQ,e]
theorem dw{k:κ}(e:¬p.1=k):cQ (p::r) k=cQ r k:=by simp[cQ,e]
theorem gG(k:κ):∀kvs,(kvs.any λkv=>decide (kv.1=k))=(cQ kvs k).isSome
 |[]=>rfl|p::r=>by
  rw[List.any_cons];by_cases e:p.1=k;.simp only[du e,decide_eq_true e,Bool.true_or,Option.isSome_some]
  .rw[dw e,Ĝ e];exact gG k r
theorem vW(k j:κ)(y:V):∀kvs,cQ (kvs.map λkv=>if kv.1=k then(kv.1,y)else kv) j=(cQ kvs j).map λx=>if j=k then y else x
 |[]=>rfl|p::r=>by
  have ih:=vW k j y r;rw[Ī];by_cases h:p.1=k
  .rw[Í h];by_cases e:p.1=j;.rw[du (p:=(p.1,y)) e,du e,Option.map_some,Í (e.symm.trans h)]
   .rw[dw (p:=(p.1,y)) e,dw e,ih]
  .rw[Ë h];by_cases e:p.1=j;.rw[du (p:=p) e,du e,Option.map_some,Ë (λz=>h (e.trans z))]
   .rw[dw (p:=p) e,dw e,ih]
theorem sW(k j:κ)(y:V):∀kvs,cQ kvs k=none->cQ (kvs++[(k,y)]) j=if j=k then some y else cQ kvs j
 |[],_=>by
  by_cases e:k=j;.rw[Í e.symm];exact du (p:=(k,y)) e
  .rw[Ë (λz=>e z.symm)];exact dw (p:=(k,y)) e;|p::r,hn=>by
  rw[List.cons_append];have hk:¬p.1=k:=λz=>by rw[du z]at hn;cases hn
  rw[dw hk]at hn;have ih:=sW k j y r hn;by_cases e:p.1=j;.rw[du e,du e,Ë (λz=>hk (e.trans z))]
  .rw[dw e,dw e,ih]
theorem gH(kvs:List (κ×V))(k j:κ)(y:V):cQ (ú kvs k y) j=if j=k then some y else cQ kvs j:=by
 unfold ú;by_cases a:(kvs.any λkv=>decide (kv.1=k))=true
 .rw[Í a,vW];rw[gG]at a;by_cases e:j=k;.obtain⟨x,hx⟩:=Zau.mp a;rw[Í e,e,hx,Option.map_some,Í rfl]
  .rw[Ë e];cases cQ kvs j with|none=>rfl;|some x=>rw[Option.map_some,Ë e]
 .rw[Ë a];refine sW k j y kvs ?_;rw[gG]at a;cases q:cQ kvs k with|none=>rfl;|some x=>rw[q]at a;exact(a rfl).elim
theorem dF(kvs:List (κ×V))(k:κ)(v:V):(ú kvs k v).length<=kvs.length+1:=by
 unfold ú;split;.rw[Ø];lia
 .rw[õ,ĳ,List.length_nil];lia
theorem Ey{k:κ}(v:V)(h:cQ kvs k=none):ú kvs k v=kvs++[(k,v)]:=by unfold ú;rw[gG,h];exact Ë Û
theorem ķ.isSome_eq(r:ķ o u):o.isSome=u.isSome:=by cases o with
 |none=>cases u with|none=>rfl;|some _=>exact(r).elim
 |some _=>cases u with|none=>exact(r).elim;|some _=>rfl
theorem ķ.getD(r:ķ o u)(rd:Ô d d'):Ô (o.getD d) (u.getD d'):=by cases o with
 |none=>cases u with|none=>exact rd;|some _=>exact(r).elim
 |some _=>cases u with|none=>exact(r).elim;|some _=>exact r
theorem KV.val(r:KV kvs vs)(k:κ):ķ (cQ kvs k) (valueAt vs k):=by induction r with|nil=>exact True.intro;|@cons p q ps qs h t ih=>
  obtain⟨h1,h2⟩:=h;by_cases e:p.1=k
  .have e':q.1=k:=h1.symm.trans e;have b:valueAt (q::qs) k=some q.2:=by simp[valueAt,e']
   rw[du e,b];exact h2
  .have e':¬q.1=k:=λz=>e (h1.trans z);have b:valueAt (q::qs) k=valueAt qs k:=by simp[valueAt,e']
   rw[dw e,b];exact ih
theorem KV.any(r:KV kvs vs)(k:κ):(kvs.any λkv=>decide (kv.1=k))=vs.any λkv=>decide (kv.1=k):=by induction r with|nil=>rfl;|cons h t ih=>rw[List.any_cons,List.any_cons,ih,h.1]
theorem KV.repl(r:KV kvs vs)(k:κ)(ry:Ô y u):KV (kvs.map λkv=>if kv.1=k then(kv.1,y)else kv) (vs.map λkv=>if kv.1=k then(kv.1,u)else kv):=by induction r with|nil=>exact .nil;|@cons p q ps qs h t ih=>
  rw[Ī,Ī];refine .cons ?_ ih;obtain⟨h1,h2⟩:=h;by_cases e:p.1=k;.rw[Í e,Í (h1.symm.trans e)];exact⟨h1,ry⟩
  .rw[Ë e,Ë (λz=>e (h1.trans z))];exact⟨h1,h2⟩
theorem KV.put(r:KV kvs vs)(k:κ)(ry:Ô y u):KV (ú kvs k y) (stored vs k u):=by
 unfold ú stored;rw[r.any k];by_cases e:(vs.any λkv=>decide (kv.1=k))=true;.rw[Í e,Í e];exact r.repl k ry
 .rw[Ë e,Ë e];exact Paired.snoc r ⟨rfl,ry⟩
theorem KV.length{vs:List (κ×Value)}(r:KV kvs vs):kvs.length=vs.length:=Paired.length r
end
theorem vX(r:Ô (kV k) u):(bF P w).is k u=true:=by cases k with|inl i=>obtain⟨t,e⟩:=(r);subst e;exact vH P w i t;|inr x=>obtain⟨t,e⟩:=(r);subst e;exact vI P w x t
theorem sX:∀{ks:List Key}{us:ā},Ï (ks.map kV) us->ItemsAre (bF P w) ks us|[],_,r=>by rw[List.map_nil]at r;cases r;exact .nil;|k::ks,_,r=>by cases r with|cons h t=>exact .cons (vX h) (sX t)
abbrev KT(H:Hp):List (List Key×V)->List (List Key×Addr×Value)->Prop:=Paired λp q=>p.1=q.1/\H q.2.1=some (.tup (p.1.map kV))/\Ô p.2 q.2.2
theorem KT.val(r:KT H kvs xs)(k:List Key):ķ (cQ kvs k) ((atKey xs k).map (·.2)):=by induction r with|nil=>exact True.intro;|@cons p q ps qs h t ih=>
  obtain⟨h1,_,h2⟩:=h;by_cases e:p.1=k
  .have e':q.1=k:=h1.symm.trans e;have b:atKey (q::qs) k=some q.2:=by simp[atKey,e']
   rw[du e,b];exact h2
  .have e':¬q.1=k:=λz=>e (h1.trans z);have b:atKey (q::qs) k=atKey qs k:=by simp[atKey,e']
   rw[dw e,b];exact ih
theorem KT.repl(r:KT H kvs xs)(k:List Key)(ry:Ô y u):KT H (kvs.map λkv=>if kv.1=k then(kv.1,y)else kv) (xs.map (putAt k u)):=by induction r with|nil=>exact .nil;|@cons p q ps qs h t ih=>
  rw[Ī];refine .cons ?_ ih;obtain⟨h1,h2,h3⟩:=h;unfold putAt;by_cases e:p.1=k;.rw[Í e,Í (h1.symm.trans e)];exact⟨h1,h2,ry⟩
  .rw[Ë e,Ë (λz=>e (h1.trans z))];exact⟨h1,h2,h3⟩
theorem KT.put(r:KT H kvs xs)(k:List Key)(hb:H b=some (.tup (k.map kV)))(ry:Ô y u):KT H (ú kvs k y) (storedH xs k b u):=by
 have e:(kvs.any λkv=>decide (kv.1=k))=(atKey xs k).isSome:=by rw[gG,(r.val k).isSome_eq,Option.isSome_map]
 unfold ú storedH;rw[e];by_cases q:(atKey xs k).isSome=true;.rw[Í q,Í q];exact r.repl k ry
 .rw[Ë q,Ë q];exact Paired.snoc r ⟨rfl,hb,ry⟩
theorem KT.keeps(r:KT H kvs xs)(ht:∀b ys,H b=some (.tup ys)->H' b=some (.tup ys)):KT H' kvs xs:=Paired.mapP r λ_ _ z=>⟨z.1,ht _ _ z.2.1,z.2.2⟩
section
theorem Ke(ok:ą P w H h)(e:Rd H a u):Ú P w H h a u:=e.ok ok
theorem vY(ok:ą P w H h)(e:Rd H a (.dK kvs)):kvs.length<=sizeLine/\(a==sysModules)=false/\∃vs,KV kvs vs/\h.DictOf (bF P w) a vs:=show Ú P w H h a (.dK kvs)from Ke ok e
theorem Ez(ok:ą P w H h)(e:H a=some (.dK kvs)):kvs.length<=sizeLine/\(a==sysModules)=false/\∃vs,KV kvs vs/\h.DictOf (bF P w) a vs:=vY ok (.inl e)
theorem q9(ok:ą P w H h)(e:H a=some (.tup (ks.map kV))):(tupleKind (bF P w)).is h ks a:=by obtain⟨_,Æ,r,o,h1,h2,n,h3⟩:=(ok a _ e);exact⟨o,Æ.toArray,n,h1,h2,h3,by simpa using sX r⟩
theorem vZ(ok:ą P w H h)(e:Rd H a (.dT kvs)):kvs.length<=sizeLine/\(a==sysModules)=false/\∃xs,KT H kvs xs/\h.DictOfH (tupleKind (bF P w)) a xs:=by
 obtain⟨z,y,xs,r,o,es,ep,h1,h2,h3,h4,h5⟩:=(Ke ok e);refine⟨z,y,xs,r,o,es,ep,h1,h2,h3,h4,λx hx=>?_,h5⟩;have all:∀{l:List (List Key×V)}{m:List (List Key×Addr×Value)},KT H l m->∀x∈m,(tupleKind (bF P w)).is h x.1 x.2.1:=by intro l m q;induction q with|nil=>intro x hx;exact nomatch hx;|@cons p q ps qs hq t ih=>
   intro x hx;rcases ĩ.mp hx with e|hx;.subst e;exact q9 ok (by rw[<-hq.1];exact hq.2.1)
   .exact ih x hx
 exact all r x hx
theorem EY(ok:ą P w H h)(e:H a=some (.dT kvs)):kvs.length<=sizeLine/\(a==sysModules)=false/\∃xs,KT H kvs xs/\h.DictOfH (tupleKind (bF P w)) a xs:=vZ ok (.inl e)
end
def Ē(H:Hp)(a:Addr)(y:V)(r:Option V):Prop:=(∃kvs k,Rd H a (.dK kvs)/\y=kV k/\r=cQ kvs k)\/∃kvs k b,Rd H a (.dT kvs)/\y=.ref b/\H b=some (.tup (k.map kV))/\r=cQ kvs k
def ŀ(H:Hp)(a:Addr)(y v:V)(H':Hp):Prop:=(∃kvs k,H a=some (.dK kvs)/\y=kV k/\kvs.length<sizeLine/\H'=upd H a (.dK (ú kvs k v)))\/∃kvs k b,H a=some (.dT kvs)/\y=.ref b/\H b=some (.tup (k.map kV))/\kvs.length<sizeLine/\H'=upd H a (.dT (ú kvs k v))
theorem Ē.k{k:Key}(e:H a=some (.dK kvs)):Ē H a (kV k) (cQ kvs k):=.inl ⟨kvs,k,.inl e,rfl,rfl⟩
theorem Ē.t{k:List Key}(e:H a=some (.dT kvs))(eb:H b=some (.tup (k.map kV))):Ē H a (.ref b) (cQ kvs k):=.inr ⟨kvs,k,b,.inl e,rfl,eb,rfl⟩
theorem ŀ.k{k:Key}(e:H a=some (.dK kvs))(hl:kvs.length<sizeLine):ŀ H a (kV k) v (upd H a (.dK (ú kvs k v))):=.inl ⟨kvs,k,e,rfl,hl,rfl⟩
theorem ŀ.t{k:List Key}(e:H a=some (.dT kvs))(eb:H b=some (.tup (k.map kV)))(hl:kvs.length<sizeLine):ŀ H a (.ref b) v (upd H a (.dT (ú kvs k v))):=.inr ⟨kvs,k,b,e,rfl,eb,hl,rfl⟩
section
variable{σ:St}
theorem Ç.big(I:Ç X Á σ H s):sysModules<s.heap.objs.size:=by have h:mainGlobals<s.heap.objs.size:=(I.mod.glob.keeps I.bk).lt;exact Nat.lt_trans Û h
theorem Cw(hu:A.units+1<cLine)(I:Ç X Á σ H s)(g:Ē H a y (some v))(ry:Ô y u)(h:∀w' s',Ç X Á σ H s'->Ô v w'->Q w' s'):wpAny (model X.prog X.w) A (getItem (.ref a) u) Q E s:=by
 rcases g with⟨kvs,k,e,ey,l⟩|⟨kvs,k,b,e,ey,eb,l⟩;.subst ey;obtain⟨z,hd,vs,rel,dd⟩:=vY I.hok e;obtain⟨w',hw,eJ⟩:=ķ.some_of (v:=v) (o:=valueAt vs k) (by rw[l];exact rel.val k);exact wpAny_getItem_of (vX ry) dd.mapOf hw (h w' _ (I.tok _) eJ)
 .subst ey;cases(ry);obtain⟨z,hd,xs,rel,dd⟩:=vZ I.hok e;obtain⟨w',hw,eJ⟩:=ķ.some_of (v:=v) (o:=(atKey xs k).map (·.2)) (by rw[l];exact rel.val k);obtain⟨p,hp,hJ⟩:=Option.map_eq_some_iff.mp hw;refine wpAny_getItem_heap (tupleKind_room_in1 hu) (q9 I.hok eb) dd hp ?_;rw[hJ];exact h w' _ (I.tok _) eJ
theorem lU(I:Ç X Á σ H s)(mu:Mut (H a))(hs:Heap.SameBut a s.heap h')(he:∃q,h'.get? a=some q)(new:Ú X.prog X.w (upd H a ob) h' a ob):Ç X Á σ (upd H a ob) {s with heap:=h',toks:=t'}:=I.write (x:=a) (e:=a) mu (.inl rfl) (λb q hb z=>(hs.2 b hb).trans z) he new
theorem yF(z:kvs.length<=sizeLine)(hd:(a==sysModules)=false)(rel:KV kvs vs)(dd:h'.DictOf (bF P w) a vs):Ú P w H' h' a (.dK kvs):=⟨z,hd,vs,rel,dd⟩
theorem sY(hu:A.units+1<cLine)(I:Ç X Á σ H s)(g:ŀ H a y v H')(ry:Ô y u)(rv:Ô v r)(h:∀s',Ç X Á σ H' s'->Q () s'):wpAny (model X.prog X.w) A (setItem (.ref a) u r) Q E s:=by
 rcases g with⟨kvs,k,e,ey,l,eH⟩|⟨kvs,k,b,e,ey,eb,l,eH⟩
 .subst ey eH;obtain⟨z,hd,vs,rel,dd⟩:=Ez I.hok e;have hz:vs.length<=sizeLine:=by rw[<-rel.length];exact z
  have hl:(ú kvs k v).length<=sizeLine:=by have:=dF kvs k v;lia
  refine wpAny_setItem_pairs (hsz:=hz) (vX ry) dd λh' js hs=>h _ ?_;have he:∃q,h'.get? a=some q:=by obtain⟨q,_,_,hq,_⟩:=js;exact⟨q,hq⟩
  exact lU I (by rw[e];exact True.intro) hs he (yF hl hd (rel.put k rv) js)
 .subst ey eH;cases(ry);obtain⟨z,hd,xs,rel,dd⟩:=EY I.hok e;have hz:xs.length<=sizeLine:=by rw[<-Paired.length rel];exact z
  have hl:(ú kvs k v).length<=sizeLine:=by have:=dF kvs k v;lia
  refine wpAny_setItem_heap (hsz:=hz) (tupleKind_room_in1 hu) (q9 I.hok eb) dd λh' js hs=>h _ ?_;obtain⟨q,es,ep,hq,h2,h3,h4,_,h5⟩:=js;refine lU I (by rw[e];exact True.intro) hs ⟨q,hq⟩ ⟨hl,hd,_,(rel.put k eb rv).keeps λc ys ec=>?_,q,es,ep,hq,h2,h3,h4,h5⟩;rw[aq (K9 ec e (λz=>nomatch z))];exact ec
end
section
end
def Ny(i:Expr):Prop:=∀ov iv,subscripted i false ov iv=operate [ov,iv] (getItem ov iv)
theorem Iv{T id:String}(hl:typeLookup (.type T) "__getitem__"=pure (some (.builtin id)))(hs:Ny slice)(h:wpAny (model prog w) A (eval value env) (λo s₁=>wpAny (model prog w) A (eval slice env) (λi s₂=>s₂.TypeIs o T/\wpAny (model prog w) A (getItem o i) Q E s₂) E s₁) E s):wpAny (model prog w) A (eval (.Subscript value slice pos) env) Q E s:=by
 refine Subscript_ (wpAny_mono h (λo s₁ h₁=>wpAny_mono h₁ (λi s₂ iA=>?_) λ_ _ x=>x) λ_ _ x=>x);obtain⟨hT,iA⟩:=iA;refine Å ?_;refine Å (wpAny_specialOf hT hl ?_);have fin:wpAny (model prog w) A (subscripted slice false o i) (λr s₃=>wpAny (model prog w) A (letTemporaryGo value o r>>=λ_=>pure r) Q E s₃) E s₂:=by rw[hs o i];exact wpAny_operating (wpAny_mono iA (λr s₃ qv=>Å (wpAny_letTemporaryGo (Ý qv))) λ_ _ x=>x)
 first|exact Ý (Å fin);|exact Å (Ý (Å fin));|exact Å fin
theorem wg{σ:St}(I:Ç X Á σ H s)(g:Ē H a y o):s.TypeIs (.ref a) "dict":=by
 rcases g with⟨kvs,k,e,_,_⟩|⟨kvs,k,b,e,_,_,_⟩;.obtain⟨_,_,vs,_,dd⟩:=vY I.hok e;exact dd.typeIs
 .obtain⟨_,_,xs,_,dd⟩:=vZ I.hok e;exact dd.typeIs
def Nz(td ty:TE):TE:=λσ H Q=>td σ H λx H1=>ty σ H1 λy H2=>∃a v,x=.ref a/\Ē H2 a y (some v)/\Q v H2
def NB(td ty tv:TE):TS:=λD σ H=>tv σ H λv H1=>td σ H1 λx H2=>ty σ H2 λy H3=>∃a H4,x=.ref a/\ŀ H3 a y v H4/\D.nx σ H4
section
theorem gr(hu:X.A.units+1<cLine)(ho:PE X o td)(hi:PE X i ty)(hs:Ny i):PE X (.Subscript o i pos) (Nz td ty):=by intro Á s σ H Q I h;refine Iv PySem.F.slot_dict_getitem.lookup hs (Þ (ho Á s σ H _ I h) λu s1⟨x,H1,I1,rx,q1⟩=>Þ (hi Á s1 σ H1 _ I1 q1) λiv s2=>?_);rintro⟨y,H2,I2,ry,a,v,ex,g,q2⟩;subst ex;obtain rfl:u=Value.ref a:=rx;exact⟨wg I2 g,Cw hu I2 g ry λw' s3 I3 eJ=>⟨v,H2,I3,eJ,q2⟩⟩
theorem oV(hu:X.A.units+1<cLine)(ho:PE X o td)(hi:PE X i ty)(hv:PE X value tv)(hs:swapsWith value (some (.Subscript o i pos')) pos.line X.env=pure false):PS X (.Assign [.Subscript o i pos'] value pos) (NB td ty tv):=by intro Á s σ H D I h;refine wpAny_Assign_Subscript (Þ (hv Á s σ H _ I h) λr s1⟨v,H1,I1,rv,q1⟩=>Þ (ho Á s1 σ H1 _ I1 q1) λu s2⟨x,H2,I2,rx,q2⟩=>Þ (hi Á s2 σ H2 _ I2 q2) λiv s3=>?_) hs;rintro⟨y,H3,I3,ry,a,H4,ex,g,q3⟩;subst ex;obtain rfl:u=Value.ref a:=rx;exact sY hu I3 g ry rv λs4 I4=>⟨σ,H4,I4,q3⟩
end
theorem qb(h:Heap)(hb:sysModules<h.objs.size):Ú P w H (h.push {cls:=.type "dict",data:=.dict #[]}) h.objs.size (.dK []):=⟨ĥ _,beq_eq_false_iff_ne.mpr (Ne.symm (Ĩ hb)),[],.nil,Heap.DictOf.new h⟩
theorem Fd(h:Heap)(hb:sysModules<h.objs.size):Ú P w H (h.push {cls:=.type "dict",data:=.dict #[]}) h.objs.size (.dT []):=⟨ĥ _,beq_eq_false_iff_ne.mpr (Ne.symm (Ĩ hb)),[],.nil,_,#[],0,ı _ rfl,⟨rfl,rfl,rfl⟩,rfl,rfl,List.nodup_nil⟩
def Lj:TE:=λ_ H Q=>∀p,H p=none->Q (.ref p) (upd H p (.dT []))
section
theorem qd:PE X (.Dict [] [] pos) Lj:=λÁ s σ H Q I h=>wpAny_Dict_empty ⟨.ref s.heap.objs.size,_,I.laid (a:=s.heap.objs.size) (o:=.dT []) (t':=s.toks) (λ_ _ q=>č _ q) (ß _) (Fd s.heap I.big),rfl,h _ (I.hok.fresh (ß _))⟩
end
def uI:List (TE×TE)->St->Hp->(List (V×V)->Hp->Prop)->Prop|[],_,H,Q=>Q [] H|(tk,tv)::r,σ,H,Q=>tk σ H λx H1=>tv σ H1 λy H2=>uI r σ H2 λps H3=>Q ((x,y)::ps) H3
abbrev VV:List (V×V)->List (Value×Value)->Prop:=Paired λp q=>Ô p.1 q.1/\Ô p.2 q.2
def PPs(X:Cx)(pos:Pos)(keys:List (Option Expr))(values:Qa3)(jv:List (TE×TE)):Prop:=∀Á s(σ:St)H Q,Ç X Á σ H s->uI jv σ H Q->wpAny (model X.prog X.w) X.A (evalPairs (pairTrees keys values X.env pos)) (λvs s'=>∃ps H',Ç X Á σ H' s'/\VV ps vs/\Q ps H') X.xe s
theorem zW:PPs X pos [] [] []:=λÁ s σ H Q I h=>pairTrees_nil_walk ⟨[],H,I,.nil,h⟩
theorem wj(hk:PE X k tk)(hv:PE X v tv)(hr:PPs X pos ks vs jv):PPs X pos (some k::ks) (v::vs) ((tk,tv)::jv):=λÁ s σ H Q I h=>pairTrees_cons_walk (Þ (hk Á s σ H _ I h) λu s1⟨x,H1,I1,rx,q1⟩=>Þ (hv Á s1 σ H1 _ I1 q1) λw2 s2⟨y,H2,I2,ry,q2⟩=>Þ (hr Á s2 σ H2 _ I2 q2) λws s3=>by rintro⟨ps,H3,I3,rel,q3⟩;exact⟨(x,y)::ps,H3,I3,.cons ⟨rx,ry⟩ rel,q3⟩)
def iK(kvs more:List (Key×V)):List (Key×V):=more.foldl (λacc kv=>ú acc kv.1 kv.2) kvs
theorem KV.merge:∀{more:List (Key×V)}{rs:List (Key×Value)}{kvs:List (Key×V)}{vs:List (Key×Value)},KV more rs->KV kvs vs->KV (iK kvs more) (merged vs rs):=by intro more rs kvs vs r;induction r generalizing kvs vs with|nil=>intro q;exact q;|@cons p q ps qs h t ih=>
  intro r0;have e:KV (ú kvs p.1 p.2) (stored vs q.1 q.2):=by have:=r0.put p.1 h.2;rw[<-h.1];exact this
  exact ih e
theorem iM:∀more kvs,(iK kvs more).length<=kvs.length+more.length|[],kvs=>by show kvs.length<=kvs.length+0;lia;|p::r,kvs=>by have h1:=iM r (ú kvs p.1 p.2);have h2:=dF kvs p.1 p.2;show(iK (ú kvs p.1 p.2) r).length<=_;rw[ĳ];lia
theorem kY:∀{kvs:List (Key×V)}{ws:List (Value×Value)},VV (kvs.map λkv=>(kV kv.1,kv.2)) ws->∃rs,Carries (bF P w) ws rs/\KV kvs rs|[],_,r=>by rw[List.map_nil]at r;cases r;exact⟨[],True.intro,.nil⟩;|p::kvs,_,r=>by cases r with|@cons a b as bs h t=>obtain⟨rs,c,q⟩:=kY (P:=P) (w:=w) t;obtain⟨b1,b2⟩:=b;exact⟨(p.1,b2)::rs,⟨vX h.1,rfl,c⟩,.cons ⟨rfl,h.2⟩ q⟩
def NK(jv:List (TE×TE)):TE:=λσ H Q=>∀p,H p=none->uI jv σ (upd H p (.dK [])) λps H2=>H2 p=some (.dK [])/\∃kvs,ps=kvs.map (λkv=>(kV kv.1,kv.2))/\kvs.length<=15/\Q (.ref p) (upd H2 p (.dK (iK [] kvs)))
theorem Iw(h:PPs X pos keys values jv)(ml:keys.all (·.isSome)=true)(hl:keys.length=values.length)(h0:keys≠[])(Kj:keys.length<=15):PE X (.Dict keys values pos) (NK jv):=by
 intro Á s σ H Q I q;have hn:=I.hok.fresh (ß s.heap.objs.size);have I1:=I.laid (a:=s.heap.objs.size) (o:=.dK []) (h':=s.heap.push {cls:=.type "dict",data:=.dict #[]}) (t':=s.toks) (λ_ _ q=>č _ q) (ß _) (qb s.heap I.big);refine wpAny_Dict_walk (knd:=bF X.prog X.w) ml hl h0 Kj (Þ (h Á _ σ _ _ I1 (q _ hn)) λws s2=>?_);rintro⟨ps,H2,I2,rel,e,kvs,ep,lk,q2⟩;subst ep;obtain⟨rs,c,rk⟩:=kY (P:=X.prog) (w:=X.w) rel;obtain⟨z,hd,Ug,r0,dd⟩:=Ez I2.hok e;cases r0;refine⟨rs,c,dd,λh' js hs=>⟨.ref s.heap.objs.size,_,?_,rfl,q2⟩⟩;have hz:(iK [] kvs).length<=sizeLine:=by have h1:=iM kvs [];rw[List.length_nil]at h1;rw[sizeLine_eq];lia
 have he:∃q,h'.get? s.heap.objs.size=some q:=by obtain⟨q,_,_,hq,_⟩:=js;exact⟨q,hq⟩
 exact lU I2 (by rw[e];exact True.intro) hs he (yF hz hd (rk.merge .nil) js)
structure M2(X:Cx)(o:Expr)(m:Str)(apos:Pos)(e f:Expr)(bo:Pos):Prop where
 base:attributeBase o m X.env (eval o X.env)=eval o X.env
 few:((backTo bo (starEach [e,f] X.env)).all (λx=>!x.1)&&(backToKw bo (keywordEach [] X.env)).all (λx=>x.1.isSome)&&decide (([e,f]:Qa3).length+([]:List Keyword).length+(if([]:List Keyword).isEmpty then 0 else 1)<30))=true
 line:(apos.endLine==bo.line)=true
 trees:backTo bo (starEach [e,f] X.env)=[(false,eval e X.env),(false,eval f X.env)]
def IsD(H:Hp)(a:Addr):Prop:=(∃kvs,Rd H a (.dK kvs))\/∃kvs,Rd H a (.dT kvs)
theorem Ln{σ:St}(I:Ç X Á σ H s)(d:IsD H a):s.TypeIs (.ref a) "dict"/\(∀b,Value.ref a=.ref b->∃ob,s.heap.get? b=some ob/\ob.dict=none)/\(a==sysModules)=false:=by
 rcases d with⟨kvs,e⟩|⟨kvs,e⟩;.obtain⟨_,hd,vs,_,dd⟩:=vY I.hok e;refine⟨dd.typeIs,λb q=>?_,hd⟩;cases q;obtain⟨ob,_,_,h1,h2,_⟩:=dd;exact⟨ob,h1,h2.2.1⟩
 .obtain⟨_,hd,xs,_,dd⟩:=vZ I.hok e;refine⟨dd.typeIs,λb q=>?_,hd⟩;cases q;obtain⟨ob,_,_,h1,h2,_⟩:=dd;exact⟨ob,h1,h2.2.1⟩
section
variable{σ:St}
theorem Lp(hu:A.units+1<cLine)(I:Ç X Á σ H s)(g:Ē H a y o)(ry:Ô y u)(rd:Ô d r)(h:∀w' s',Ç X Á σ H s'->Ô (o.getD d) w'->Q w' s'):wpAny (model X.prog X.w) A (call (.builtin "dict.get") [.ref a,u,r]) Q E s:=by
 rcases g with⟨kvs,k,e,ey,l⟩|⟨kvs,k,b,e,ey,eb,l⟩;.subst ey;obtain⟨z,hd,vs,rel,dd⟩:=vY I.hok e;refine call_meetsIn PySem.F.slot_dict_get dd.typeIs PySem.F.entry_dict_get (PySem.F.args_dict_get_3 _ _ _) (meets_dict_get_default (bF X.prog X.w) a (vX ry) hd r) ⟨_,dd.mapOf,h _ _ (I.tok _) ?_⟩;rw[l];exact(rel.val k).getD rd
 .subst ey;cases(ry);obtain⟨z,hd,xs,rel,dd⟩:=vZ I.hok e;refine call_meetsIn PySem.F.slot_dict_get dd.typeIs PySem.F.entry_dict_get (PySem.F.args_dict_get_3 _ _ _) (meetsH_dict_get_default (tupleKind (bF X.prog X.w)) a b hd r) ⟨tupleKind_room_in1 hu,k,xs,q9 I.hok eb,dd,h _ _ (I.tok _) ?_⟩;rw[l];exact(rel.val k).getD rd
end
def Lq(td ty tx:TE):TE:=λσ H Q=>td σ H λx H1=>∃a,x=.ref a/\IsD H1 a/\ty σ H1 λy H2=>tx σ H2 λz H3=>∃o,Ē H3 a y o/\Q (o.getD z) H3
section
theorem qe(hu:X.A.units+1<cLine)(ho:PE X o td)(he:PE X e ty)(hf:PE X f tx)(m:M2 X o "get" apos e f bo):PE X (.Call (.Attribute o "get" apos) [e,f] [] bo) (Lq td ty tx):=by intro Á s σ H Q I h;refine wpAny_Call_method m.base m.few m.line PySem.F.plainAttrs_dict PySem.F.slot_dict_get PySem.F.type_dict_get (Þ (ho Á s σ H _ I h) λu s1=>?_);rintro⟨x,H1,I1,rx,a,ex,d,q1⟩;subst ex;obtain rfl:u=Value.ref a:=rx;obtain⟨t1,t2,_⟩:=Ln I1 d;refine⟨t1,t2,?_⟩;rw[m.trees];refine Calls.callWith_builtin rfl (Calls.evalArgs_plain (Calls.spliced_cons (Þ (he Á s1 σ H1 _ I1 q1) λiv s2⟨y,H2,I2,ry,q2⟩=>Calls.spliced_cons (Þ (hf Á s2 σ H2 _ I2 q2) λfv s3⟨z,H3,I3,rz,ov,g,q3⟩=>Calls.spliced_nil ?_))));exact Lp hu I3 g ry rz λw' s4 I4 eJ=>⟨_,H3,I4,eJ,q3⟩
end
section
end
section
end
def Iz:Key->PyData|.inl i=>.int i|.inr x=>.str x
mutual
inductive Ó(S:Addr->Prop)(H:Hp):V->PyData->Prop|non:Ó S H .non .none|bl(b:Bool):Ó S H (.bl b) (.bool b)|int(i:Int):Ó S H (.int i) (.int i)|str(x:Str):Ó S H (.str x) (.str x)|lst{a:Addr}{xs:List V}{ds:ģ}(hs:S a)(e:H a=some (.lst xs))(r:Ä S H xs ds):Ó S H (.ref a) (.list ds)|tup{a:Addr}{xs:List V}{ds:ģ}(e:H a=some (.tup xs))(r:Ä S H xs ds):Ó S H (.ref a) (.tuple ds)|dct{a:Addr}{ks:List (Key×Int)}(hs:S a)(e:H a=some (.dK (ks.map λp=>(p.1,V.int p.2)))):Ó S H (.ref a) (.dict (ks.map λp=>(Iz p.1,.int p.2)))
inductive Ä(S:Addr->Prop)(H:Hp):List V->ģ->Prop|nil:Ä S H [] []|cons{v:V}{d:PyData}{vs:List V}{ds:ģ}(h:Ó S H v d)(t:Ä S H vs ds):Ä S H (v::vs) (d::ds)
end
section
theorem Ä.length:∀{vs:List V}{ds:ģ},Ä S H vs ds->vs.length=ds.length|_,_,.nil=>rfl|_,_,.cons _ t=>by rw[ĳ,ĳ,Ä.length t]
theorem Ä.get:∀{vs:List V}{ds:ģ}{i:Nat}{v:V},Ä S H vs ds->vs[i]?=some v->∃d,ds[i]?=some d/\Ó S H v d|_,_,_,_,.nil,e=>by simp at e;|_,_,0,_,.cons h _,e=>by simp at e;subst e;exact⟨_,rfl,h⟩;|_,_,i+1,v,.cons _ t,e=>by obtain⟨d,h1,h2⟩:=Ä.get (i:=i) (v:=v) t (by simpa using e);exact⟨d,by simpa using h1,h2⟩
theorem Ä.append:∀{vs ws:List V}{ds es:ģ},Ä S H vs ds->Ä S H ws es->Ä S H (vs++ws) (ds++es)|_,_,_,_,.nil,s=>s|_,_,_,_,.cons h t,s=>.cons h (Ä.append t s)
theorem Ä.set(h:Ó S H x e):∀{vs:List V}{ds:ģ}i,Ä S H vs ds->Ä S H (vs.set i x) (ds.set i e)|_,_,_,.nil=>.nil|_,_,0,.cons _ t=>.cons h t|_,_,i+1,.cons q t=>.cons q (Ä.set h i t)
theorem Ä.take:∀{vs:List V}{ds:ģ}n,Ä S H vs ds->Ä S H (vs.take n) (ds.take n)|_,_,0,_=>.nil|_,_,_+1,.nil=>.nil|_,_,n+1,.cons h t=>.cons h (Ä.take n t)
theorem Ä.drop:∀{vs:List V}{ds:ģ}n,Ä S H vs ds->Ä S H (vs.drop n) (ds.drop n)|_,_,0,r=>r|_,_,_+1,.nil=>.nil|_,_,n+1,.cons _ t=>Ä.drop n t
theorem Ä.erase:∀{vs:List V}{ds:ģ}i,Ä S H vs ds->Ä S H (vs.eraseIdx i) (ds.eraseIdx i)|_,_,_,.nil=>.nil|_,_,0,.cons _ t=>t|_,_,i+1,.cons r t=>.cons r (Ä.erase i t)
theorem Ä.ints:∀(ns:WF),Ä S H (ns.map V.int) (ns.map PyData.int)|[]=>.nil|n::ns=>.cons (.int n) (Ä.ints ns)
mutual
theorem Ó.keep(ht:∀b xs,H b=some (.tup xs)->H' b=some (.tup xs))(hs:∀b o,S b->H b=some o->H' b=some o)(hS:∀b o,S b->H b=some o->S' b):∀{v:V}{d:PyData},Ó S H v d->Ó S' H' v d|_,_,.non=>.non|_,_,.bl b=>.bl b|_,_,.int i=>.int i|_,_,.str x=>.str x|_,_,.lst s e r=>.lst (hS _ _ s e) (hs _ _ s e) (Ä.keep ht hs hS r)|_,_,.tup e r=>.tup (ht _ _ e) (Ä.keep ht hs hS r)|_,_,.dct s e=>.dct (hS _ _ s e) (hs _ _ s e)
theorem Ä.keep(ht:∀b xs,H b=some (.tup xs)->H' b=some (.tup xs))(hs:∀b o,S b->H b=some o->H' b=some o)(hS:∀b o,S b->H b=some o->S' b):∀{vs:List V}{ds:ģ},Ä S H vs ds->Ä S' H' vs ds|_,_,.nil=>.nil|_,_,.cons h t=>.cons (Ó.keep ht hs hS h) (Ä.keep ht hs hS t)
end
def tyD:PyData->String|.none=>"NoneType"|.bool _=>"bool"|.int _=>"int"|.str _=>"str"|.list _=>"list"|.tuple _=>"tuple"|.dict _=>"dict"
theorem Ó.ty{K:Frag}(h:Ó S H v d):İ K H v (.type (tyD d)):=by cases h with|non=>exact .non;|bl b=>exact .bl b;|int i=>exact .int i;|str x=>exact .str x;|lst s e r=>exact .lst e;|tup e r=>exact .tup e;|dct s e=>exact .dK e
def nH:PyData->Bool|.int _=>true|.bool _=>true|_=>false
def lV:PyData->Bool|.bool _=>true|_=>false
def cD:PyData->Bool|.tuple _=>true|_=>false
theorem zZ{K:Frag}(d:PyData):PySem.W.kitOne K (.type (tyD d)) (.type "int")=some (nH d):=by
 cases d;.exact nG
 .exact uD
 .exact vU
 .exact vV
 .exact uG
 .exact rF
 .exact uH
theorem wk{K:Frag}(d:PyData):PySem.W.kitOne K (.type (tyD d)) (.type "bool")=some (lV d):=by
 cases d;.exact lR
 .exact rB
 .exact uE
 .exact uF
 .exact rE
 .exact pY
 .exact rG
theorem gw{K:Frag}(d:PyData):PySem.W.kitOne K (.type (tyD d)) (.type "tuple")=some (cD d):=by
 cases d;.exact kW
 .exact pU
 .exact rC
 .exact rD
 .exact pW
 .exact oK
 .exact pZ
end
mutual
def sz:PyData->Nat|.none=>1|.bool _=>1|.int _=>1|.str _=>1|.list xs=>1+ù xs|.tuple xs=>1+ù xs|.dict kvs=>1+4*kvs.length
def ù:ģ->Nat|[]=>0|x::xs=>sz x+ù xs
end
mutual
def Ă:PyData->Bool|.none=>true|.bool _=>true|.int i=>decide (i.natAbs<2^128)|.str x=>decide (x.length<=10)&&x.cps.toList.all λc=>decide (c<16^8)|.list xs=>jw xs|.tuple xs=>jw xs|.dict kvs=>ik kvs
def jw:ģ->Bool|[]=>true|x::xs=>Ă x&&jw xs
def ik:List (PyData×PyData)->Bool|[]=>true|(.int i,.int j)::r=>decide (i.natAbs<2^128)&&decide (j.natAbs<2^128)&&ik r|(.str x,.int j)::r=>(decide (x.length<=10)&&x.cps.toList.all λc=>decide (c<16^8))&&decide (j.natAbs<2^128)&&ik r|_::_=>false
end
theorem oW{i:Int}(h:i.natAbs<2^128):(Str.ofString (toString i)).length<=130:=by
 have e:=int_text_length_le (a:=i) (k:=128) Û (by
  by_cases h0:i.natAbs=0;.rw[h0];decide
  .exact(Nat.log2_lt h0).mpr h);rw[PySem.ofString_length];lia
theorem ou:∀ts k acc,(textFrom k acc ts).length<=acc.length+piled ts
 |[],k,acc=>by show acc.length<=acc.length+0;lia;|t::r,k,acc=>by
  have h:=ou r (k+1) (acc++(if k>0 then", "else"":String)++t);have e:(acc++(if k>0 then", "else"":String)++t).length<=acc.length+2+t.length:=by
   rw[strLen_append,strLen_append];split;.show acc.length+2+t.length<=_;lia
   .show acc.length+0+t.length<=_;lia
  rw[piled_cons];show(textFrom (k+1) _ r).length<=_;lia
theorem wu(ts:ó):(listText ts).length<=piled ts+2:=by have h:=ou ts 0 "[";unfold listText;rw[strLen_append];have e1:(("[":Str)).length=1:=rfl;have e2:(("]":Str)).length=1:=rfl;lia
theorem Aa(ts:ó):(Str.join ", " ts).length<=piled ts:=by
 by_cases h:ts=[];.subst h;show 0<=_;lia
 .have:=join_length_add ts h;lia
theorem uJ(ts:ó):(tupleText ts).length<=piled ts+3:=by
 have h:=Aa ts;unfold tupleText;rw[strLen_append,strLen_append];have e1:(("(":Str)).length=1:=rfl;have e2:((if ts.length==1 then",)"else")":String):Str).length<=2:=by
  split;.exact ß 2
  .exact Zbf 1
 lia
theorem ww(ts:ó):(dictText ts).length<=piled ts+2:=by have h:=Aa ts;unfold dictText;rw[strLen_append,strLen_append];have e1:(("{":Str)).length=1:=rfl;have e2:(("}":Str)).length=1:=rfl;lia
theorem qg{M:List (PyData×PyData)->Prop}(h0:M [])(h1:∀i j r,i.natAbs<2^128->j.natAbs<2^128->M r->M ((.int i,.int j)::r))(h2:∀x j r,(x.length<=10/\∀c∈x.cps.toList,c<16^8)->j.natAbs<2^128->M r->M ((.str x,.int j)::r)):∀kvs,ik kvs=true->M kvs
 |[],_=>h0|(k,v)::r,h=>by
  cases k<;>cases v<;>first|(simp[ik]at h;done)|skip
  all_goals simp only[ik,Bool.and_eq_true,Ć,List.all_eq_true]at h;first|exact h1 _ _ _ h.1.1 h.1.2 (qg h0 h1 h2 r h.2)|exact h2 _ _ _ h.1.1 h.1.2 (qg h0 h1 h2 r h.2)
theorem θ:∀kvs,ik kvs=true->piled (PyData.shownKv kvs)<=400*kvs.length:=by
 have e1:((": ":Str)).length=2:=rfl;refine qg (ß _) (λi j r a b ih=>?_) (λx j r a b ih=>?_);.have h1:=oW a;have h2:=oW b;show piled ((Str.ofString (toString i)++": "++Str.ofString (toString j))::PyData.shownKv r)<=_;rw[piled_cons,strLen_append,strLen_append,e1,ĳ];lia
 .have h1:=StrLaws.reprText_len x a.2;have h2:=oW b;have:=a.1;show piled ((reprText x++": "++Str.ofString (toString j))::PyData.shownKv r)<=_;rw[piled_cons,strLen_append,strLen_append,e1,ĳ];lia
mutual
theorem sZ:∀d,Ă d=true->d.shown.length+2<=200*sz d
 |.none,_=>by decide+kernel;|.bool true,_=>by decide+kernel;|.bool false,_=>by decide+kernel;|.int i,h=>by have:=oW (i:=i) (by simpa[Ă]using h);show(Str.ofString (toString i)).length+2<=200*1;lia;|.str x,h=>by
  have h':(decide (x.length<=10)&&x.cps.toList.all λc=>decide (c<16^8))=true:=h;rw[ġ]at h';have h1:x.length<=10:=by simpa using h'.1
  have:=StrLaws.reprText_len x λc hc=>by simpa using ō.mp h'.2 c hc
  show(reprText x).length+2<=200*1;lia;|.list xs,h=>by have h1:=jf xs (by simpa[Ă]using h);have h2:=wu (PyData.shownAll xs);show(listText (PyData.shownAll xs)).length+2<=200*(1+ù xs);lia;|.tuple xs,h=>by have h1:=jf xs (by simpa[Ă]using h);have h2:=uJ (PyData.shownAll xs);show(tupleText (PyData.shownAll xs)).length+2<=200*(1+ù xs);lia;|.dict kvs,h=>by have h1:=θ kvs (by simpa[Ă]using h);have h2:=ww (PyData.shownKv kvs);show(dictText (PyData.shownKv kvs)).length+2<=200*(1+4*kvs.length);lia
theorem jf:∀xs,jw xs=true->piled (PyData.shownAll xs)<=200*ù xs|[],_=>by show 0<=_;lia;|x::xs,h=>by have h':(Ă x&&jw xs)=true:=h;rw[ġ]at h';have h1:=sZ x h'.1;have h2:=jf xs h'.2;show piled (PyData.shown x::PyData.shownAll xs)<=200*(sz x+ù xs);rw[piled_cons];lia
end
theorem rH:∀kvs,ik kvs=true->PyData.showableKv kvs=true:=by
 have big:∀{n:Int},n.natAbs<2^128->n.natAbs.log2<1920:=λ{n}hn=>by
  by_cases h0:n.natAbs=0;.rw[h0];decide
  .exact Nat.lt_trans ((Nat.log2_lt h0).mpr hn) Û
 refine qg rfl (λi j r a b ih=>?_) (λx j r a b ih=>?_)<;>simp only[PyData.showableKv,PyData.showable,Bool.and_eq_true,Ć];.exact⟨⟨big a,big b⟩,ih⟩
 .exact⟨⟨trivial,big b⟩,ih⟩
mutual
theorem oA:∀d,Ă d=true->d.showable=true
 |.none,_=>rfl|.bool _,_=>rfl|.int i,h=>by
  have h':i.natAbs<2^128:=by simpa[Ă]using h
  have:i.natAbs.log2<1920:=by
   by_cases h0:i.natAbs=0;.rw[h0];decide
   .exact Nat.lt_trans ((Nat.log2_lt h0).mpr h') Û
  exact ð this;|.str _,_=>rfl|.list xs,h=>by exact jg xs (by simpa[Ă]using h);|.tuple xs,h=>by exact jg xs (by simpa[Ă]using h);|.dict kvs,h=>by exact rH kvs (by simpa[Ă]using h)
theorem jg:∀xs,jw xs=true->PyData.showableAll xs=true|[],_=>rfl|x::xs,h=>by have h':(Ă x&&jw xs)=true:=h;rw[ġ]at h';simp only[PyData.showableAll,Bool.and_eq_true];exact⟨oA x h'.1,jg xs h'.2⟩
end
theorem yG:∀kvs,ik kvs=true->PyData.depthKv kvs=0:=by refine qg rfl (λi j r a b ih=>?_) (λx j r a b ih=>?_)<;>simp only[PyData.depthKv,PyData.depth,ih]<;>rfl
mutual
theorem lW:∀d,Ă d=true->d.depth<=sz d|.none,_=>ĥ _|.bool _,_=>ĥ _|.int i,_=>ĥ _|.str _,_=>ĥ _|.list xs,h=>by have:=nJ xs (by simpa[Ă]using h);simp only[PyData.depth,sz];lia;|.tuple xs,h=>by have:=nJ xs (by simpa[Ă]using h);simp only[PyData.depth,sz];lia;|.dict kvs,h=>by have:=yG kvs (by simpa[Ă]using h);simp only[PyData.depth,sz];lia
theorem nJ:∀xs,jw xs=true->PyData.depthAll xs<=ù xs|[],_=>ĥ _|x::xs,h=>by have h':(Ă x&&jw xs)=true:=h;rw[ġ]at h';have h1:=lW x h'.1;have h2:=nJ xs h'.2;simp only[PyData.depthAll,ù];lia
end
section
variable{σ:St}{s:Shared}
theorem qi:∀{ks:List (Key×Int)}{vs:List (Key×Value)}{es:List DictEntry},KV (ks.map λp=>(p.1,V.int p.2)) vs->Pairs (bF P w) es vs->(∃as,ReadsAll s.heap (es.map (·.key)) ((ks.map λp=>(Iz p.1,PyData.int p.2)).map (·.1)) as/\as=[])/\∃as,ReadsAll s.heap (es.map (·.val)) ((ks.map λp=>(Iz p.1,PyData.int p.2)).map (·.2)) as/\as=[]|[],vs,es,r,p=>by cases r;cases p;exact⟨⟨_,.nil,rfl⟩,⟨_,.nil,rfl⟩⟩;|(k,n)::ks,vs,es,r,p=>by cases r with|@cons a b l1 l2 h t=>cases p with|@cons e kv gN kvs' h1 h2 h3=>
    obtain⟨⟨_,i1,rfl⟩,⟨_,i2,rfl⟩⟩:=qi (ks:=ks) t h3;obtain⟨q1,q2⟩:=h;have OI:pG b.1 e.key=true:=h1;rw[<-q1]at OI;obtain⟨tv,Uh⟩:∃t,b.2=Value.int n t:=q2;rw[Uh]at h2;refine⟨⟨_,?_,rfl⟩,⟨_,?_,rfl⟩⟩
    .show ReadsAll s.heap (e.key::gN.map (·.key)) (Iz k::_) ([]++[]);rcases cG OI with⟨i,tk,ei,ev⟩|⟨x,tk,ei,ev⟩;.have ei:k=Sum.inl i:=ei;rw[ev,ei];exact .cons (.int _ _) i1
     .have ei:k=Sum.inr x:=ei;rw[ev,ei];exact .cons (.str _ _) i1
    .show ReadsAll s.heap (e.val::gN.map (·.val)) (PyData.int n::_) ([]++[]);rw[h2];exact .cons (.int _ _) i2
mutual
theorem Ó.reads(I:Ç X Á σ H s):∀{v:V}{d:PyData}{u:Value},Ó S H v d->Ô v u->∃as,Reads s.heap u d as/\∀a∈as,S a
 |_,_,_,.non,r=>by cases(show _=Value.none from r);exact⟨[],.none,λ_ h=>nomatch h⟩;|_,_,_,.bl b,r=>by cases(show _=Value.bool b from r);exact⟨[],.bool b,λ_ h=>nomatch h⟩;|_,_,_,.int i,r=>by obtain⟨t,rfl⟩:=r;exact⟨[],.int i t,λ_ h=>nomatch h⟩;|_,_,_,.str x,r=>by obtain⟨t,rfl⟩:=r;exact⟨[],.str x t,λ_ h=>nomatch h⟩;|_,_,_,@Ó.lst _ _ a xs ds hs e t,r=>by
  cases(show _=Value.ref a from r);obtain⟨_,Æ,n,rv,ho⟩:=(I.hok a _ e);obtain⟨as,h1,h2⟩:=Ä.reads I t rv;refine⟨a::as,.list ho rfl rfl (by simpa using h1),λb hb=>?_⟩;rcases ĩ.mp hb with z|z;.rw[z];exact hs
  .exact h2 b z;|_,_,_,@Ó.tup _ _ a xs ds e t,r=>by cases(show _=Value.ref a from r);obtain⟨_,Æ,rv,o,ho,hc,n,hd⟩:=(show Ú X.prog X.w H s.heap a (.tup xs)from I.hok a _ e);obtain⟨as,h1,h2⟩:=Ä.reads I t rv;exact⟨as,.tuple ho hc hd (by simpa using h1),h2⟩;|_,_,_,@Ó.dct _ _ a ks hs e,r=>by cases(show _=Value.ref a from r);obtain⟨_,_,vs,rel,o,es,ep,ho,hx,hd,_,hp,_⟩:=(show Ú X.prog X.w H s.heap a (.dK _)from I.hok a _ e);obtain⟨⟨_,i1,rfl⟩,⟨_,i2,rfl⟩⟩:=qi (s:=s) rel hp;refine⟨a::[]++[],.dict ho hx.1 hd i1 i2,λb hb=>?_⟩;rw[show b=a by simpa using hb];exact hs
theorem Ä.reads(I:Ç X Á σ H s):∀{vs:List V}{ds:ģ}{us:ā},Ä S H vs ds->Ï vs us->∃as,ReadsAll s.heap us ds as/\∀a∈as,S a|_,_,_,.nil,r=>by cases r;exact⟨[],.nil,λ_ h=>nomatch h⟩;|_,_,_,.cons h t,r=>by cases r with|cons r1 r2=>obtain⟨as,h1,h2⟩:=Ó.reads I h r1;obtain⟨bs,h3,h4⟩:=Ä.reads I t r2;exact⟨as++bs,.cons h1 h3,λb hb=>(Ę.mp hb).elim (h2 b) (h4 b)⟩
end
theorem jO(hg:X.A.guards=some [])(hS:¬S sysModules):eO X (.builtin "repr") (λxs H Q=>∃v d,xs=[v]/\Ó S H v d/\Ă d=true/\sz d<=4000/\X.A.units+(sz d+1)<cLine/\Q (.str d.shown) H):=by
 intro Á s σ H xs us Q I r h;obtain⟨v,d,rfl,th,tm,hz,hu,q⟩:=h;obtain⟨u,rfl,ru⟩:=ü r;have hl:=sZ d tm;have hsz:d.shown.length<=sizeLine:=by rw[sizeLine_eq];lia
 have fin:∀t h' tk,(∀b o,s.heap.get? b=some o->h'.get? b=some o)->EP X Á σ Q (.str d.shown t) {s with heap:=h',toks:=tk}:=λt h' tk k=>⟨.str d.shown,H,I.kept k,⟨t,rfl⟩,q⟩
 have jI:=oA d tm;cases th with|non=>cases(show u=Value.none from ru);exact PySem.P.repr_of_none (fin _ s.heap _ λ_ _ e=>e);|bl b=>cases(ru);exact PySem.P.repr_of_bool (fin _ s.heap _ λ_ _ e=>e);|int i=>
  obtain⟨t,rfl⟩:=ru;have:i.natAbs.log2<1920:=by simpa[PyData.showable]using jI
  exact PySem.P.repr_of_int this (fin _ s.heap _ λ_ _ e=>e);|str x=>obtain⟨t,rfl⟩:=ru;exact PySem.P.repr_of_str (fin _ s.heap _ λ_ _ e=>e) hsz;|@lst a xs ds hs e t=>obtain⟨as,rd,ha⟩:=(Ó.lst hs e t).reads I ru;cases(show u=Value.ref a from ru);exact repr_of_reads' rd jI (λ_ hm=>hS (ha _ hm)) hg (by have:=lW _ tm;lia) (λb o e=>e) (λh' t tk k=>fin t h' tk k) hsz;|@tup a xs ds e t=>obtain⟨as,rd,ha⟩:=(Ó.tup (S:=S) e t).reads I ru;cases(show u=Value.ref a from ru);exact repr_of_reads' rd jI (λ_ hm=>hS (ha _ hm)) hg (by have:=lW _ tm;lia) (λb o e=>e) (λh' t tk k=>fin t h' tk k) hsz;|@dct a ks hs e=>obtain⟨as,rd,ha⟩:=(Ó.dct hs e).reads I ru;cases(show u=Value.ref a from ru);exact repr_of_reads' rd jI (λ_ hm=>hS (ha _ hm)) hg (by have:=lW _ tm;lia) (λb o e=>e) (λh' t tk k=>fin t h' tk k) hsz
end
section
def Q7(xs:List V)(i:Nat)(y:V):List V:=xs.take i++y::xs.drop i
inductive Ρ(x:V)(vs:List V)(H:Hp)(Q:VK):Prop|mk:∀l xs i y,(x=.ref l)->(vs=[.int i,y])->(H l=some (.lst xs))->(0<=i)->(i<=xs.length)->(xs.length<sizeLine)->(Q .non (upd H l (.lst (Q7 xs i.toNat y))))->Ρ  x vs H Q
def IK:V->List V->Hp->VK->Prop:=λx vs H Q=>Ρ  x vs H Q
theorem tu:MtM X "list.insert" IK:=by
 intro Á s σ H x vs v us Q I rx rv h;obtain⟨l,xs,i,y,rfl,rfl,hH,h0,h1,hz,q⟩:=h;cases rx;obtain⟨u,w',rfl,⟨t,rfl⟩,eJ⟩:=rv.two;obtain⟨z,Æ,n,r,hl,e⟩:=I.lstM hH;have hn:=kO;refine call_meets F.slot_list_insert ⟨_,e,rfl⟩ F.entry_list_insert (F.args_list_insert_3 _ _ _) (AutoSeq1.list_insert_list_int_val_1 l Æ.toArray n i t w' (by rw[fitsIndex_both Â Â];exact Ř) (by rw[ē];lia)) ⟨e,?_⟩;refine⟨.non,_,I.lset (its':=Æ.take i.toNat++w'::Æ.drop i.toNat) hH e ?_ (Ï.append (r.take _) (.cons eJ (r.drop _))) ?_,rfl,q⟩
 .have h2:¬i<0:=Â;have h3:min i.toNat Æ.toArray.size=i.toNat:=by rw[ē];lia
  simp only[h2,h3];simp;exact Ϭ (by rw[Zav];lia)
 .rw[õ,ĳ,Ĵ,Zav];lia
theorem Cy(hu:X.A.units<cLine):Ġ X (compareOp .Eq) (λx y H Q=>∃a b xs,x=.ref a/\y=.ref b/\Î X.K H a xs/\Î X.K H b []/\Q (.bl xs.isEmpty) H):=by
 intro Á s σ H x y v u Q I rx ry h;obtain⟨a,b,xs,rfl,rfl,ha,hb,q⟩:=h;cases rx;cases ry;obtain⟨Æ,r1,p1,_⟩:=I.tuple ha;obtain⟨bS,r2,p2,_⟩:=I.tuple hb;have e2:bS=[]:=r2.zero;subst e2;refine PySem.SeqAt.eq_tupleAt (e:=λ_=>true) p1 p2 hu (λj h1 h2=>absurd h2 Ù) ?_;have e3:((List.range (min Æ.toArray.size ([]:ā).toArray.size)).all (λ_=>true)&&Æ.toArray.size==([]:ā).toArray.size)=xs.isEmpty:=by have:=r1.length;cases Æ with|nil=>cases r1;rfl;|cons a r=>cases xs with|nil=>simp at this;|cons b r'=>simp
 rw[e3];exact⟨.bl _,H,I,rfl,q⟩
end
section
theorem Lr(hj:s.heap.IsTupleIter j t i)(ht:s.heap.IsTuple t Æ)(hx:Æ[i]?=some x)(hQ:∀h',h'.IsTupleIter j t (i+1)->Heap.SameBut j s.heap h'->Q x {s with heap:=h'}):wpAny (model prog w) A (Builtin.SmallTypes.nextOf (.ref j)) Q E s:=by obtain⟨o,ho,hc,hd⟩:=id hj;obtain⟨p,hp,_,m,hm⟩:=ht;refine Å (wpAny_callSpecial?_slot (name:=Str.ofString "__next__") hj.typeIs F.slot_tuple_iterator_next (wpAny_call_entry F.slot_tuple_iterator_next hj.typeIs F.entry_tuple_iterator_next ?_ (F.args_tuple_iterator_next_1 _)));show wpAny _ _ (field (.ref j) 0>>=_) _ _ s;refine Å (wpAny_field ho hd (x:=.ref t) rfl ?_);refine Å (wpAny_field ho hd (x:=.int i 0) rfl (Å (wpAny_seqItems hp hm ?_)));simp only[Int.toNat_natCast,hx];refine Å (wpAny_setField ho hd Ù (Ý ⟨x,rfl,Ý (hQ _ ⟨_,Heap.get?_update_self _ ho (Obj.isFreed_of_fields (Obj.data_mapFields hd _)),(Obj.cls_mapFields ..).trans hc,by rw[Obj.data_mapFields hd];simp[rawInt]⟩ (Heap.SameBut.update ..))⟩))
theorem yH(hh:A.handled=none)(hj:s.heap.IsTupleIter j t i)(ht:s.heap.IsTuple t Æ)(hx:Æ[i]?=none)(hE:∀h' e,Heap.ExtBut j s.heap h'->(∃o,h'.get? e=some o/\o.cls=.type "StopIteration")->E (.ref e) {s with heap:=h'}):wpAny (model prog w) A (Builtin.SmallTypes.nextOf (.ref j)) Q E s:=by
 obtain⟨o,ho,hc,hd⟩:=id hj;obtain⟨p,hp,_,m,hm⟩:=ht;refine Å (wpAny_callSpecial?_slot (name:=Str.ofString "__next__") hj.typeIs F.slot_tuple_iterator_next (wpAny_call_entry F.slot_tuple_iterator_next hj.typeIs F.entry_tuple_iterator_next ?_ (F.args_tuple_iterator_next_1 _)));show wpAny _ _ (field (.ref j) 0>>=_) _ _ s;refine Å (wpAny_field ho hd (x:=.ref t) rfl ?_);refine Å (wpAny_field ho hd (x:=.int i 0) rfl (Å (wpAny_seqItems hp hm ?_)));simp only[Int.toNat_natCast,hx];refine Å (wpAny_rule (Å (wpAny_setField ho hd Ù ?_)));refine Å ?_;refine Å (ϣ (Å (m:=firstArgMember _ _) (wpAny_of_eq (a:=Value.none) (by first|rfl|(simp only[firstArgMember];rfl)) (ϣ ?_ (by size_fits)))) (by size_fits));simp only[raiseNew];refine Å (wpAny_handled ?_);first|rw[show A.in1.handled=none from hh];|rw[hh]
 exact Å (Ý (wpAny_throw (hE _ _ (((Heap.SameBut.update ..).extBut.push _).push _) ⟨_,ı _ rfl,rfl⟩)))
end
def Itz(K:Frag)(a b:Addr):It:=⟨λi H=>∃xs ys x y,Î K H a xs/\Ê K H b ys/\xs[i]?=some x/\ys[i]?=some y,λi H v H'=>∃T,H T=none/\v=.ref T/\∀xs ys,Î K H a xs->Ê K H b ys->∃x y,xs[i]?=some x/\ys[i]?=some y/\H'=upd H T (.tup [x,y]),λi H=>∃xs,Î K H a xs/\xs.length<=i⟩
section
end
theorem Ó.same(h:Ó S H v d)(s:À H H'):Ó S H' v d:=h.keep (λb xs e=>s b _ e) (λb o _ e=>s b o e) λ_ _ z _=>z
theorem Ä.same(h:Ä S H v d)(s:À H H'):Ä S H' v d:=h.keep (λb xs e=>s b _ e) (λb o _ e=>s b o e) λ_ _ z _=>z
theorem À.upd(h:H D=none):À H (upd H D o):=λb u e=>by rw[aq (aB e h)];exact e
theorem À.updR(s:À H H')(h:H' D=none):À H (L2.upd H' D o):=s.trans (À.upd h)
theorem wy{K:Frag}(f:PyData->Bool){H0:Hp}{Fin:List V->Hp->Prop}(hT:H0 a=some (.tup xs))(th:Ä S H0 xs ds)(hl:xs.length<sizeLine)(kF:∀v d H Q,d∈ds->À H0 H->Ó S H v d->(∀H',À H H'->Q (.bl (f d)) H')->te (cS.set j (some v)) H Q)(fin:∀H',À H0 H'->Fin (ds.map λd=>V.bl (f d)) H'):jY (Itt K a) (bO j) uC te Fin cS H0:=by
 have hlen:=th.length;refine⟨λi m ys σ H=>m=xs.length-i/\i<=xs.length/\ys=(ds.take i).map (λd=>V.bl (f d))/\(∀o,σ.set j o=cS.set j o)/\À H0 H,⟨_,rfl,ĥ _,rfl,λ_=>rfl,À.refl _⟩,?_⟩;rintro i m ys σ H⟨rfl,hi,rfl,fA,hs⟩;have sq:Î K H a xs:=Î.of (hs _ _ hT);refine⟨by rw[Ø,Ĵ];lia,?_⟩;by_cases ax:i<xs.length;.refine .inr ⟨⟨xs,xs[i],sq,by simp[ax]⟩,λx H' y=>?_⟩;obtain⟨e,y⟩:=y;subst e;have hx:=y xs sq;obtain⟨d,hd,ht⟩:=(th.same hs).get hx;show te (σ.set j (some x)) H' _;rw[fA];refine kF x d H' _ (ŕ hd) hs ht λH2 s2=>⟨xs.length-(i+1),Â,rfl,ax,?_,λo=>by rw[List.set_set],hs.trans s2⟩;rw[ī,hd];simp
 .have e:i=xs.length:=Â;subst e;refine .inl ⟨⟨xs,sq,ß _⟩,?_⟩;rw[hlen,ł];exact fin H hs
theorem Fe{ds:ģ}:ds.map (λd=>V.bl (f d))=(ds.map f).map V.bl:=by rw[Ĳ];rfl
theorem Ls{ds:ģ}:(ds.map f).all id=ds.all f:=by rw[List.all_map];rfl
section
def Ff(t:TA):TE:=λσ H Q=>t σ H λxs H1=>xs.length<=sizeLine/\∀p,H1 p=none->p≠sysModules->Q (.ref p) (upd H1 p (.lst xs))
theorem Ab(h:PA X es t):PE X (.List es pos) (Ff t):=by intro Á s σ H Q I hq;refine wpAny_List_spliced (Þ (h pos Á s σ H _ I hq) λus s1⟨xs,H1,I1,r,z,q⟩=>⟨by rw[<-r.length];exact z,?_⟩);have hf:H1 s1.heap.objs.size=none:=I1.hok.fresh (ß _);refine⟨.ref s1.heap.objs.size,_,I1.laid (o:=.lst xs) (t':=s1.toks) (λb u e=>č _ e) (ß _) ⟨z,us,0,r,ı _ rfl⟩,rfl,q _ hf (ϩ I1.big)⟩
theorem iQ:eO X (.type "list") (λxs H Q=>∃p ys,xs=[.ref p]/\Î X.K H p ys/\∀l,H l=none->l≠sysModules->Q (.ref l) (upd H l (.lst ys))):=by intro Á s σ H xs us Q I r h;obtain⟨p,ys,rfl,hq,q⟩:=h;obtain⟨u,rfl,rx⟩:=ü r;cases rx;obtain⟨Æ,r',pl,hz⟩:=I.tuple hq;have hlen:=r'.length;obtain⟨o,ho,hc,n,hd⟩:=pl;refine call_list_seq p (.inr rfl) ho hc hd (λh' c' kp e=>?_) (by simp only[List.size_toArray];lia);exact⟨.ref s.heap.objs.size,_,I.laid (t':=s.toks) kp (ß _) (show Ú X.prog X.w _ h' _ (.lst ys)from⟨hz,Æ,c',r',e⟩),rfl,q _ (I.hok.fresh (ß _)) (ϩ I.big)⟩
def yI:TE:=λ_ H Q=>∀p,H p=none->p≠sysModules->Q (.ref p) (upd H p (.dK []))
theorem wz:PE X (.Dict [] [] pos) yI:=λÁ s σ H Q I h=>wpAny_Dict_empty ⟨.ref s.heap.objs.size,_,I.laid (a:=s.heap.objs.size) (o:=.dK []) (t':=s.toks) (λ_ _ q=>č _ q) (ß _) (qb s.heap I.big),rfl,h _ (I.hok.fresh (ß _)) (ϩ I.big)⟩
def yJ(jv:List (TE×TE)):TE:=λσ H Q=>∀p,H p=none->p≠sysModules->uI jv σ (upd H p (.dK [])) λps H2=>H2 p=some (.dK [])/\∃kvs,ps=kvs.map (λkv=>(kV kv.1,kv.2))/\kvs.length<=15/\Q (.ref p) (upd H2 p (.dK (iK [] kvs)))
theorem Fg(h:PPs X pos keys values jv)(ml:keys.all (·.isSome)=true)(hl:keys.length=values.length)(h0:keys≠[])(Kj:keys.length<=15):PE X (.Dict keys values pos) (yJ jv):=by
 intro Á s σ H Q I q;have hn:=I.hok.fresh (ß s.heap.objs.size);have I1:=I.laid (a:=s.heap.objs.size) (o:=.dK []) (h':=s.heap.push {cls:=.type "dict",data:=.dict #[]}) (t':=s.toks) (λ_ _ q=>č _ q) (ß _) (qb s.heap I.big);refine wpAny_Dict_walk (knd:=bF X.prog X.w) ml hl h0 Kj (Þ (h Á _ σ _ _ I1 (q _ hn (ϩ I.big))) λws s2=>?_);rintro⟨ps,H2,I2,rel,e,kvs,ep,lk,q2⟩;subst ep;obtain⟨rs,c,rk⟩:=kY (P:=X.prog) (w:=X.w) rel;obtain⟨z,hd,Ug,r0,dd⟩:=Ez I2.hok e;cases r0;refine⟨rs,c,dd,λh' js hs=>⟨.ref s.heap.objs.size,_,?_,rfl,q2⟩⟩;have hz:(iK [] kvs).length<=sizeLine:=by have h1:=iM kvs [];rw[List.length_nil]at h1;rw[sizeLine_eq];lia
 have he:∃q,h'.get? s.heap.objs.size=some q:=by obtain⟨q,_,_,hq,_⟩:=js;exact⟨q,hq⟩
 exact lU I2 (by rw[e];exact True.intro) hs he (yF hz hd (rk.merge .nil) js)
end
section
def Ac(r r' FI:R2)(ta tb tc td:TE):TE:=λσ H Q=>ta σ H λx H1=>tb σ H1 λy H2=>r x y H2 λz H3=>∃k,z=.bl k/\(if k=true then tc σ H3 λx2 H4=>r' y x2 H4 λz2 H5=>∃k2,z2=.bl k2/\(if k2=true then td σ H5 λx3 H6=>FI x2 x3 H6 Q else Q (.bl false) H5)else Q (.bl false) H3)
theorem Cz(h1:Ġ X (compareOp o1) r)(h2:Ġ X (compareOp o2) r')(h3:Ġ X (compareOp o3) FI)(ha:PE X a ta)(hb:PE X b tb)(hc:PE X c tc)(hd:PE X d td)(hm:lastMarks [o1,o2,o3] [b,c,d]=false:=by with_unfolding_all rfl):PE X (.Compare a [o1,o2,o3] [b,c,d] pos) (Ac r r' FI ta tb tc td):=by intro Á s σ H Q I h;refine Compare_chain (Þ (ha Á s σ H _ I h) λv s1⟨x,H1,I1,r1,q1⟩=>chain_link (Þ (hb Á s1 σ H1 _ I1 q1) λu s2⟨y,H2,I2,r2,q2⟩=>Þ (h1 Á s2 σ H2 x y v u _ I2 r1 r2 q2) λg s3⟨z,H3,I3,r3,k,e,q3⟩=>?_)) hm;subst e;cases r3;refine wpAny_truthy_bool ?_;cases k with|false=>exact ite_ff ⟨.bl false,H3,I3,rfl,q3⟩;|true=>refine ite_tt (chain_link (Þ (hc Á s3 σ H3 _ I3 q3) λw' s4⟨z',H4,I4,r4,q4⟩=>Þ (h2 Á s4 σ H4 y z' u w' _ I4 r2 r4 q4) λg2 s5=>?_));rintro⟨z5,H5,I5,r5,k2,e2,q5⟩;subst e2;cases r5;refine wpAny_truthy_bool ?_;cases k2 with|false=>exact ite_ff ⟨.bl false,H5,I5,rfl,q5⟩;|true=>exact ite_tt (chain_last (Þ (hd Á s5 σ H5 _ I5 q5) λw6 s6=>by rintro⟨z6,H6,I6,r6,q6⟩;exact h3 Á s6 σ H6 z' z6 w' w6 Q I6 r4 r6 q6))
end
def Ev(σ:St)(H:Hp)(t:TE)(v:V):Prop:=∀Q,Q v H->t σ H Q
section
theorem fO:Ev σ H (tC v) v:=λ_ h=>h
theorem dZ(h:σ[i]?=some (some v)):Ev σ H (vK i) v:=λ_ q=>⟨v,h,q⟩
theorem Fi(a:Ev σ H ta (.int i))(b:Ev σ H tb (.int j))(c:C i j):Ev σ H (Ÿ (rI C g) ta tb) (g i j):=λ_ q=>a _ (b _ ⟨i,j,rfl,rfl,c,q⟩)
theorem cC{p q:Int->Int->Bool}(a:Ev σ H ta (.int i))(b:Ev σ H tb (.int j))(c:Ev σ H tc (.int k)):Ev σ H (yu (ς λi j=>.bl (p i j)) (ς λi j=>.bl (q i j)) ta tb tc) (.bl (p i j&&q j k)):=λQ h=>a _ (b _ ⟨i,j,rfl,rfl,_,rfl,by cases e:p i j with|false=>rw[e]at h;exact bA h;|true=>rw[e]at h;exact bx (c _ ⟨j,k,rfl,rfl,h⟩)⟩)
theorem CG{p q r:Int->Int->Bool}(a:Ev σ H ta (.int i))(b:Ev σ H tb (.int j))(c:Ev σ H tc (.int k))(d:Ev σ H td (.int l)):Ev σ H (Ac (ς λi j=>.bl (p i j)) (ς λi j=>.bl (q i j)) (ς λi j=>.bl (r i j)) ta tb tc td) (.bl (p i j&&(q j k&&r k l))):=λQ h=>a _ (b _ ⟨i,j,rfl,rfl,_,rfl,by cases e:p i j with|false=>rw[e]at h;exact bA h;|true=>rw[e]at h;refine bx (c _ ⟨j,k,rfl,rfl,_,rfl,?_⟩);cases e2:q j k with|false=>rw[e2]at h;exact bA h;|true=>rw[e2]at h;exact bx (d _ ⟨k,l,rfl,rfl,h⟩)⟩)
theorem jh(x:Ev σ H ta (.bl b))(y:b=true->Ev σ H tb (.bl c)):Ev σ H (Ka ta tb) (.bl (b&&c)):=λQ h=>x _ ⟨b,rfl,by cases e:b with|false=>rw[e]at h;exact bA h;|true=>rw[e]at h;exact bx (y e _ h)⟩
end
structure ď(e:Expr):Prop where eq:∀es env,starEach (e::es) env=(false,eval e env)::starEach es env
theorem jx{c j p}:ď (.Constant c j p):=⟨λ_ _=>rfl⟩
theorem kZ{x p}:ď (.Name x p):=⟨λ_ _=>rfl⟩
theorem jy{es k p}:ď (.Tuple es k p):=⟨λ_ _=>rfl⟩
theorem lq{es p}:ď (.List es p):=⟨λ_ _=>rfl⟩
theorem lu{ks vs p}:ď (.Dict ks vs p):=⟨λ_ _=>rfl⟩
theorem lz{f as ks p}:ď (.Call f as ks p):=⟨λ_ _=>rfl⟩
theorem Ķ{a o b p}:ď (.BinOp a o b p):=⟨λ_ _=>rfl⟩
theorem qj{o a p}:ď (.UnaryOp o a p):=⟨λ_ _=>rfl⟩
theorem nM{a b p}:ď (.Subscript a b p):=⟨λ_ _=>rfl⟩
theorem lA{a b c p}:ď (.ListComp a b c p):=⟨λ_ _=>rfl⟩
theorem nO{a b c p}:ď (.Compare a b c p):=⟨λ_ _=>rfl⟩
section
theorem au(ha:PE X e te)(hr:PA X es t)(hp:ď e:=by first|exact kZ|exact jx|exact lz|exact jy|exact lq|exact Ķ|exact nM|exact qj|exact lu|exact lA|exact nO):PA X (e::es) (fP te t):=aK ha hr (hp.eq _ _)
end
structure AA(X:Cx)(es:Qa3)(t:TA):Prop where run:PA X es t
section
theorem bC:AA X [] pN:=⟨ao⟩
theorem lB(ha:PE X e te)(hr:AA X es t)(hp:ď e:=by first|exact kZ|exact jx|exact lz|exact jy|exact lq|exact Ķ|exact nM|exact qj|exact lu|exact lA|exact nO):AA X (e::es) (fP te t):=⟨aK ha hr.run (hp.eq _ _)⟩
theorem Ad{x1}(h:AA X es t):PE X (.Tuple es x1 pos) (rm t):=bW h.run
theorem uK(h:AA X es t):PE X (.List es pos) (Ik t):=cX h.run
end
inductive œ:Qa3->WF->Prop|nil:œ [] []|cons{i:Int}{j:Nat}{p:Pos}{es:Qa3}{is:WF}:œ es is->œ (.Constant (.int i) j p::es) (i::is)
def wA(is:WF):TA:=λ_ H Q=>Q (is.map V.int) H
theorem jP:∀{es:Qa3}{is:WF},œ es is->PA X es (wA is)|_,_,.nil=>λ_ _ _ _ H Q I h=>Calls.spliced_nil ⟨[],H,I,.nil,h⟩|_,_,@œ.cons i j p es is r=>by have h:=au (X:=X) (az (i:=i) (j:=j) (pos:=p)) (jP r);exact h
theorem Lw{a b c p q r}:PE X (.Tuple [.Constant (.int i) a p,.Constant (.int j) b q] c r) (rm (wA [i,j])):=bW (jP (.cons (.cons .nil)))
theorem IV{a b c d p q q' r r'}:PE X (.Tuple [.Constant (.int i) a p,.BinOp (.Constant (.int j) b q) .Pow (.Constant (.int k) d q') r'] c r) (rm (fP (tC (.int i)) (fP (Ÿ (rI El λi j=>.int (i^j.toNat)) (tC (.int j)) (tC (.int k))) pN))):=bW (au az (au (aV nu az az) ao))
theorem fu{k:Nat}{pos:Pos}{K:Frag}{n:Nat}(hK:X.K=K)(hc:X.calm=true)(h:PGs X es t)(hn:(assignEach es X.env).length=n:=by rfl)(cE:(assignEach es X.env).findIdx? (·.1)=none:=by rfl):PG X (.Tuple es k pos) (lN K n t):=by subst hK;exact cj hc h hn cE
structure BE(X:Cx)(e:Expr)(t:TE):Prop where run:PE X e t
section
theorem bh(ha:BE X e te)(hr:AA X es t)(hp:ď e:=by first|exact kZ|exact jx|exact lz|exact jy|exact lq|exact Ķ|exact nM|exact qj|exact lu|exact lA|exact nO):AA X (e::es) (fP te t):=lB ha.run hr hp
theorem tD(h:BE X e te):PE X e te:=h.run
theorem gm{j}:BE X (.Constant (.int i) j pos) (tC (.int i)):=⟨az⟩
theorem oE{j}:BE X (.Constant (.bool b) j pos) (tC (.bl b)):=⟨gD⟩
theorem yK{j}:BE X (.Constant .none j pos) (tC .non):=⟨j9⟩
theorem cU{j}:BE X (.Constant (.str x) j pos) (tC (.str x)):=⟨pI⟩
theorem ql{j q}:BE X (.UnaryOp .USub (.Constant (.int i) j q) pos) (tUn (rU λi=>.int (-i)) (tC (.int i))):=⟨rY nA az⟩
theorem Fj{j j' q q'}:BE X (.BinOp (.Constant (.int i) j q) .Pow (.Constant (.int k) j' q') pos) (Ÿ (rI El λi j=>.int (i^j.toNat)) (tC (.int i)) (tC (.int k))):=⟨aV nu az az⟩
theorem fG{x1}(h:AA X es t):BE X (.Tuple es x1 pos) (rm t):=⟨bW h.run⟩
theorem eF(h:AA X es t):BE X (.List es pos) (Ik t):=⟨cX h.run⟩
theorem qm{a b c p q r}:BE X (.Tuple [.Constant (.int i) a p,.Constant (.int j) b q] c r) (rm (wA [i,j])):=⟨Lw⟩
theorem IW{a b c d p q q' r r'}:BE X (.Tuple [.Constant (.int i) a p,.BinOp (.Constant (.int j) b q) .Pow (.Constant (.int k) d q') r'] c r) (rm (fP (tC (.int i)) (fP (Ÿ (rI El λi j=>.int (i^j.toNat)) (tC (.int j)) (tC (.int k))) pN))):=⟨IV⟩
end
structure BS(X:Cx)(st:Stmt)(t:TS):Prop where run:PS X st t
structure BSs(X:Cx)(II:List Stmt)(t:TS):Prop where run:ľ X II t
section
variable{st:Stmt}{pos:Pos}
theorem jZ(h:BSs X rest t):ľ X rest t:=h.run
theorem aM(h1:BS X st t)(h2:BSs X rest u):BSs X (st::rest) (Ie t u):=⟨aC h1.run h2.run⟩
theorem cF(h1:BS X st t):BSs X [st] t:=⟨aF h1.run⟩
theorem uL(hN:X.N.Nodup)(hi:X.N[i]?=some x)(hx:Loc X.env.scope x)(he:BE X e te)(hs:swapsWith e (some (.Name x pos')) pos.line X.env=pure false:=by rfl)(hf:X.fn x=true\/X.env.scope.names.lookup x=some .local:=by first|exact .inl rfl|exact .inr rfl|assumption):BS X (.Assign [.Name x pos'] e pos) (yo te (bO i)):=⟨mZ hN hi hx he.run hs hf⟩
theorem gQ(he:BE X e te):BS X (.Return (some e) pos) (KQ te):=⟨aQ he.run⟩
theorem km(ho:Ġ X (binaryOp op) r)(ha:BE X a ta)(hb:BE X b tb):BE X (.BinOp a op b pos) (Ÿ r ta tb):=⟨aV ho ha.run hb.run⟩
theorem qp(hr:IxR X r)(ha:BE X a ta)(hb:BE X b tb)(hs:uw b):BE X (.Subscript a b pos) (Ÿ r ta tb):=⟨Kc hr ha.run hb.run hs⟩
end
theorem Ö{X:Cx}{pos:Pos}(i:Nat)(hN:X.N.Nodup)(hi:X.N[i]?=some x:=by rfl)(hx:Loc X.env.scope x:=by exact Or.inl rfl)(hf:X.fn x=true\/X.env.scope.names.lookup x=some .local:=by first|exact .inl rfl|exact .inr rfl):PG X (.Name x pos) (bO i):=bJ hN hi hx hf
theorem ĕ{pos pos':Pos}(i:Nat)(hN:X.N.Nodup)(he:PE X e te)(hi:X.N[i]?=some x:=by rfl)(hx:Loc X.env.scope x:=by exact Or.inl rfl)(hs:swapsWith e (some (.Name x pos')) pos.line X.env=pure false:=by rfl)(hf:X.fn x=true\/X.env.scope.names.lookup x=some .local:=by first|exact .inl rfl|exact .inr rfl):PS X (.Assign [.Name x pos'] e pos) (yo te (bO i)):=mZ hN hi hx he hs hf
theorem fV{pos pos':Pos}(i:Nat)(hN:X.N.Nodup)(he:BE X e te)(hi:X.N[i]?=some x:=by rfl)(hx:Loc X.env.scope x:=by exact Or.inl rfl)(hs:swapsWith e (some (.Name x pos')) pos.line X.env=pure false:=by rfl)(hf:X.fn x=true\/X.env.scope.names.lookup x=some .local:=by first|exact .inl rfl|exact .inr rfl):BS X (.Assign [.Name x pos'] e pos) (yo te (bO i)):=uL hN hi hx he hs hf
theorem pX(hr:IxR X r)(ha:PE X a ta)(hb:PE X b tb)(hs:uw b:=by exact λ_ _=>rfl):PE X (.Subscript a b pos) (Ÿ r ta tb):=Kc hr ha hb hs
theorem zL{n:Nat}(h:Nat.ble n 1000=true:=by rfl):n<=sizeLine:=ŝ (Nat.le_of_ble_eq_true h) Û
theorem cI(h:ę X bp N r)(h1:X.N[i]?=some x:=by rfl)(h2:X.env.kindOf x=some .cell:=by rfl)(h3:bp.cells.lookup x=X.env.cells.lookup x:=by rfl)(h4:bp.kindOf x=some .cell:=by rfl):ę X bp (x::N) (some i::r):=⟨⟨h1,.inl h2,h3,.inl h4⟩,h⟩
theorem ö{N P:ó}{sc:Scope}(h1:sc.kind=.function:=by rfl)(h2:sc.isCoroutine=false:=by rfl)(h3:sc.isGenerator=false:=by rfl)(h4:N.Nodup:=by decide+kernel)(h5:N.take P.length=P:=by rfl)(h6:∀x∈P,sc.names.lookup x=some .local\/sc.names.lookup x=some .cell:=by decide+kernel)(h7:∀y∈sc.names,y.2≠.free:=by decide+kernel):Ã N P sc:=⟨h1,h2,h3,h4,h5,h6,h7⟩
section
theorem Ae(h:AA X es t):BE X (.List es pos) (Ff t):=⟨Ab h.run⟩
theorem Fl:BE X (.Dict [] [] pos) yI:=⟨wz⟩
theorem Fo{a b p q}:BE X (.Dict [some (.Constant (.int i) a p)] [.Constant (.int j) b q] pos) (yJ [(tC (.int i),tC (.int j))]):=⟨Fg (wj az az zW) rfl rfl Ù (by show 1<=15;decide)⟩
end
def Ϥ(S:Addr->Prop)(σ:St)(H:Hp)(t:TE)(d:PyData):Prop:=∀H0,À H H0->∀Q,(∀v H',À H0 H'->Ó S H' v d->Q v H')->t σ H0 Q
def ThA(S:Addr->Prop)(σ:St)(H:Hp)(t:TA)(ds:ģ):Prop:=∀H0,À H H0->∀Q,(∀vs H',À H0 H'->Ä S H' vs ds->Q vs H')->t σ H0 Q
section
theorem J0(h:∀H',Ó S H' v d):Ϥ S σ H (tC v) d:=λH0 _ Q q=>q v H0 (À.refl _) (h H0)
theorem jz:Ϥ S σ H (tC (.int i)) (.int i):=J0 λ_=>.int i
theorem Kf:Ϥ S σ H (tC (.bl b)) (.bool b):=J0 λ_=>.bl b
theorem Fp:Ϥ S σ H (tC .non) .none:=J0 λ_=>.non
theorem uM:Ϥ S σ H (tC (.str x)) (.str x):=J0 λ_=>.str x
theorem Fq(h:∀H',Ev σ H' t (.int i)):Ϥ S σ H t (.int i):=λH0 _ Q q=>h H0 _ (q _ H0 (À.refl _) (.int i))
theorem gR:ThA S σ H pN []:=λH0 _ Q q=>q [] H0 (À.refl _) .nil
theorem bw(h1:Ϥ S σ H te d)(h2:ThA S σ H ta ds):ThA S σ H (fP te ta) (d::ds):=λH0 s0 Q q=>h1 H0 s0 _ λv H1 s1 t1=>h2 H1 (s0.trans s1) _ λvs H2 s2 t2=>q (v::vs) H2 (s1.trans s2) (.cons (t1.same s2) t2)
theorem J1(is:WF):ThA S σ H (wA is) (is.map PyData.int):=λH0 _ Q q=>q _ H0 (À.refl _) (Ä.ints is)
theorem jA(h:ThA S σ H ta ds)(hl:ds.length<=4000):Ϥ S σ H (rm ta) (.tuple ds):=λH0 s0 Q q=>h H0 s0 _ λvs H1 s1 t1=>⟨by rw[t1.length,sizeLine_eq];lia,λp hp=>q _ _ (s1.updR hp) (.tup aj (t1.same (À.upd hp)))⟩
theorem Af(h:ThA S σ H ta ds)(hl:ds.length<=4000)(hS:∀H',À H H'->∀p,H' p=none->p≠sysModules->S p):Ϥ S σ H (Ff ta) (.list ds):=λH0 s0 Q q=>h H0 s0 _ λvs H1 s1 t1=>⟨by rw[t1.length,sizeLine_eq];lia,λp hp np=>q _ _ (s1.updR hp) (.lst (hS H1 (s0.trans s1) p hp np) aj (t1.same (À.upd hp)))⟩
theorem J3(hS:∀H',À H H'->∀p,H' p=none->p≠sysModules->S p):Ϥ S σ H yI (.dict []):=λH0 s0 Q q p hp np=>q _ _ (À.upd hp) (.dct (ks:=[]) (hS H0 s0 p hp np) aj)
theorem Ft(hS:∀H',À H H'->∀p,H' p=none->p≠sysModules->S p):Ϥ S σ H (yJ [(tC (.int i),tC (.int j))]) (.dict [(.int i,.int j)]):=λH0 s0 Q q p hp np=>by refine⟨aj,[(Sum.inl i,.int j)],rfl,by show 1<=15;decide,q _ _ (λb o e=>?_) (.dct (ks:=[(Sum.inl i,j)]) (hS H0 s0 p hp np) aj)⟩;rw[aq (aB e hp),aq (aB e hp)];exact e
end
section
theorem cZ(h:D.nx σ H):Eg D σ H:=h
theorem aP(h:t {D with nx:=u D} σ H):Ie t u D σ H:=h
theorem aN(h:∀c,(∀ah H',u D ah H'->c ah H')->t {D with nx:=c} σ H):Ie t u D σ H:=h (u D) λ_ _ z=>z
theorem aW(h:te σ H λx H1=>g x σ H1 D.nx):yo te g D σ H:=h
theorem uN(h:te σ H D.rt):KQ te D σ H:=h
theorem lC(h:ta σ H λxs H1=>xs.length<=sizeLine/\∀p,H1 p=none->Q (.ref p) (upd H1 p (.lst xs))):Ik ta σ H Q:=h
theorem aJ(h:R (σ.set i (some v)) H):bO i v σ H R:=h
end
theorem Fv{K:Frag}(f:PyData->PyData->Bool){H0:Hp}{Fin:List V->Hp->Prop}(inv:St->Prop)(h0:inv cS)(ea:H0 a=some (.tup xs))(eb:H0 b=some (.lst zs))(r1:Ä S H0 xs ds)(r2:Ä S' H0 zs es)(hl:ds.length=es.length)(hz:xs.length<sizeLine)(step:∀T x z d e σ H(R:St->VK),d∈ds->e∈es->inv σ->À H0 H->H T=some (.tup [x,z])->Ó S H x d->Ó S' H z e->(∀aI H',inv aI->À H H'->R aI (.bl (f d e)) H')->g (.ref T) σ H λaI H2=>te aI H2 (R aI))(fin:∀H',À H0 H'->Fin ((List.zipWith f ds es).map V.bl) H'):jY (Itz K a b) g uC te Fin cS H0:=by
 have l1:=r1.length;have l2:=r2.length;refine⟨λi m ys σ H=>m=xs.length-i/\i<=xs.length/\ys=((List.zipWith f ds es).take i).map V.bl/\inv σ/\À H0 H,⟨_,rfl,ĥ _,rfl,h0,À.refl _⟩,?_⟩;rintro i m ys σ H⟨rfl,hi,rfl,fA,hs⟩;have q1:Î K H a xs:=Î.of (hs _ _ ea);have q2:Ê K H b zs:=Ê.of (hs _ _ eb);refine⟨by rw[Ø,Ĵ];lia,?_⟩;by_cases ax:i<xs.length
 .have xE:i<zs.length:=Â;refine .inr ⟨⟨xs,zs,xs[i],zs[i],q1,q2,by simp[ax],by simp[xE]⟩,λv H' y=>?_⟩;obtain⟨T,nT,rfl,y⟩:=y;obtain⟨x,z,ex,ez,rfl⟩:=y xs zs q1 q2;obtain⟨d,hd,td⟩:=(r1.same (hs.updR (o:=.tup [x,z]) nT)).get ex;obtain⟨e,he,t2⟩:=(r2.same (hs.updR (o:=.tup [x,z]) nT)).get ez;refine step T x z d e σ _ (λaI y H4=>∃m',m'<xs.length-i/\m'=xs.length-(i+1)/\i+1<=xs.length/\((List.zipWith f ds es).take i).map V.bl++[y]=((List.zipWith f ds es).take (i+1)).map V.bl/\inv aI/\À H0 H4) (ŕ hd) (ŕ he) fA (hs.updR nT) aj td t2 λaI H2 i2 s2=>⟨xs.length-(i+1),Â,rfl,ax,?_,i2,(hs.updR nT).trans s2⟩;have hz:(List.zipWith f ds es)[i]?=some (f d e):=by rw[List.getElem?_zipWith,hd,he]
  rw[ī,hz];simp
 .have e:i=xs.length:=Â;subst e;refine .inl ⟨⟨xs,q1,ß _⟩,?_⟩;rw[Ϭ (by rw[List.length_zipWith];lia)];exact fin H hs
section
def NQ(i j k:Nat)(ta:TA):TS:=λD σ H=>ta σ H λvs H1=>∃v w u,vs=[v,w,u]/\D.nx (((σ.set i (some v)).set j (some w)).set k (some u)) H1
theorem Ag{kt k2 pt2}(hc:X.calm=true)(hN:X.N.Nodup)(hi:X.N[i]?=some x)(hj:X.N[j]?=some y)(hk:X.N[k]?=some z)(wt:i≠j)(Ui:i≠k)(hjk:j≠k)(hx:X.env.scope.names.lookup x=some .local)(hy:X.env.scope.names.lookup y=some .local)(hz:X.env.scope.names.lookup z=some .local)(ha:PA X [a,b,c] ta)(hw:swappedStores [.Tuple [.Name x px,.Name y py,.Name z pz] kt pt] (.Tuple [a,b,c] k2 pt2) X.env=pure (some [x,y,z]))(hs:swapsWithSole [.Tuple [.Name x px,.Name y py,.Name z pz] kt pt] (.Tuple [a,b,c] k2 pt2) pos.line X.env=pure false:=by rfl):PS X (.Assign [.Tuple [.Name x px,.Name y py,.Name z pz] kt pt] (.Tuple [a,b,c] k2 pt2) pos) (NQ i j k ta):=by
 intro Á s σ H D I h;refine Assign_Tuple_swapped (names:=[x,y,z]) (Tuple_ (Þ (ha _ Á s σ H _ I h) λus s1=>?_)) hs hw;rintro⟨vs,H1,I1,r1,q1⟩;obtain⟨v,w,u,e1,q1⟩:=q1;subst e1;obtain⟨u1,u2,u3,rfl,rv,eJ,ru⟩:∃u1 u2 u3,us=[u1,u2,u3]/\Ô v u1/\Ô w u2/\Ô u u3:=by cases r1 with|cons p q=>cases q with|cons p' q'=>cases q' with|cons p2 q2=>cases q2;exact⟨_,_,_,rfl,p,p',p2⟩
 refine ϣ ?_ (by show 3<=sizeLine;decide);have I2:Ç X Á σ H1 {s1 with heap:=s1.heap.push {cls:=.type "tuple",data:=.seq [u1,u2,u3].toArray}}:=I1.kept (t':=s1.toks) λb o e=>č _ e;refine unpackItems_tuple (items:=#[u1,u2,u3]) (I.ok.hd hc) (IsTup.new s1.heap _) λh' cq=>?_;have I3:=I2.kept (h':=h') (t':=s1.toks) λb o e=>cq b o (Ĩ (ÿ e)) e;refine assignInOrder_cons (wpAny_bindName (gC I3 hN hk (.inl hz) ru (λs2 I4=>?_) (.inr hz)));refine assignInOrder_cons (wpAny_bindName (gC I4 hN hj (.inl hy) eJ (λs3 I5=>?_) (.inr hy)));refine assignInOrder_cons (wpAny_bindName (gC I5 hN hi (.inl hx) rv (λs4 I6=>assignInOrder_nil ?_) (.inr hx)));rw[List.set_comm _ _ (Ne.symm wt),List.set_comm _ _ (Ne.symm Ui),List.set_comm _ _ (Ne.symm hjk)]at I6;exact⟨_,H1,I6,q1⟩
end
end L2
namespace L2.ZT
open PySem PySem.Spec PyProof.Rows L2
def nm(t:Bool):String:=match t with|true=>"tuple_iterator"|false=>"list_iterator"
def tn(t:Bool):String:=match t with|true=>"tuple"|false=>"list"
def Io(t:Bool)(h:Heap)(a l:Addr)(i:Nat):Prop:=∃o,h.get? a=some o/\o.cls=.type (nm t)/\o.data=.fields #[.ref l,.int i 0]
def Sq(t:Bool)(h:Heap)(a:Addr)(items:Qa2):Prop:=∃o,h.get? a=some o/\o.cls=.type (tn t)/\∃n,o.data=.seq items n
def SQ(t:Bool)(K:Frag)(H:Hp)(a:Addr)(xs:List V):Prop:=match t with|true=>Î K H a xs|false=>Ê K H a xs
theorem Io.at(x:Io t h a l i)(e:∀o,h.get? a=some o->h'.get? a=some o):Io t h' a l i:=by obtain⟨o,ho,r⟩:=x;exact⟨o,e _ ho,r⟩
theorem Io.extBut(x:Io t h a l i)(e:Heap.ExtBut b h h')(n:a≠b):Io t h' a l i:=x.at λo q=>e _ _ n q
theorem Sq.at(x:Sq t h a xs)(e:∀o,h.get? a=some o->h'.get? a=some o):Sq t h' a xs:=by obtain⟨o,ho,r⟩:=x;exact⟨o,e _ ho,r⟩
theorem Sq.extBut(x:Sq t h a xs)(e:Heap.ExtBut b h h')(n:a≠b):Sq t h' a xs:=x.at λo q=>e _ _ n q
theorem oF{σ:St}(I:Ç X Á σ H s)(h:SQ t X.K H a xs):∃Æ:ā,Ï xs Æ/\Sq t s.heap a Æ.toArray/\xs.length<=sizeLine:=by
 cases t;.obtain⟨Æ,r,p,z⟩:=I.list h;exact⟨Æ,r,p.isList,z⟩
 .exact I.tuple h
theorem yL{σ:St}(I:Ç X Á σ H s)(h:SQ t X.K H a xs)(h':SQ t X.K H a ys):xs=ys:=by
 cases t;.exact I.list_inj h h'
 .exact I.tuple_inj h h'
section
theorem nx(hj:Io t s.heap j l i)(ht:Sq t s.heap l Æ)(hx:Æ[i]?=some x)(hQ:∀h',Io t h' j l (i+1)->Heap.SameBut j s.heap h'->Q x {s with heap:=h'}):wpAny (model prog w) A (Builtin.SmallTypes.nextOf (.ref j)) Q E s:=by
 cases t;.exact wpAny_nextOf_list_item hj ht hx hQ
 .exact Lr hj ht hx hQ
theorem yM(hh:A.handled=none)(hj:Io t s.heap j l i)(ht:Sq t s.heap l Æ)(hx:Æ[i]?=none)(hE:∀h' e,Heap.ExtBut j s.heap h'->(∃o,h'.get? e=some o/\o.cls=.type "StopIteration")->E (.ref e) {s with heap:=h'}):wpAny (model prog w) A (Builtin.SmallTypes.nextOf (.ref j)) Q E s:=by
 cases t;.exact wpAny_nextOf_list_end hh hj ht hx hE
 .exact yH hh hj ht hx hE
theorem qu(hl:Sq t s.heap l Æ)(hQ:Q (.ref s.heap.objs.size) {s with heap:=s.heap.push {cls:=.type (nm t),data:=.fields #[.ref l,.int 0 0]}}):wpAny (model prog w) A (pyIter (.ref l)) Q E s:=by
 cases t;.exact wpAny_pyIter_list hl hQ
 .exact wpAny_pyIter_tuple hl hQ
end
theorem draws(hh:A.handled=none)(it a:Addr)(fy:a≠it)(Æ:Qa2):Draws prog w A it [it,a] Æ.size (λi v=>Æ[i]?=some v) (λi h=>Io t h it a i/\Sq t h a Æ)where
 live:=λ_ _ st=>by obtain⟨o,ho,_⟩:=st.1;exact⟨o,ho⟩
 frame:=λ_ _ _ st hk=>⟨st.1.at λo e=>hk it Ù o e,st.2.at λo e=>hk a Ù o e⟩;item:=λi s Q E hi st hQ=>nx st.1 st.2 (x:=Æ[i]) (by simp[hi]) λh' h1 h2=>hQ _ h' s.toks (by simp[hi]) ⟨h1,st.2.extBut h2.extBut fy⟩ h2;done:=λs Q E st hE=>yM hh st.1 st.2 Ù hE
abbrev eA(t0:Bool)(h:Heap)(t:Addr):Heap:=h.push {cls:=.type (nm t0),data:=.fields #[.ref t,.int 0 0]}
theorem qw(t:Addr)(Æ:Qa2):Meets (Builtin.«enumerate.__new__» ⟨[.type "enumerate",.ref t],[]⟩) (λ_ R s=>Sq t0 s.heap t Æ/\R (.ok (.ret (.ref (eA t0 s.heap t).objs.size))) {s with heap:=(eA t0 s.heap t).push {cls:=.type "enumerate",data:=.fields #[.none,.bool false,.ref s.heap.objs.size,rawInt 0,.none,.none]}}):=.of_wp λprog w A R s h=>by
  obtain⟨hp,g,d,tk,os⟩:=s;obtain⟨ht,h⟩:=h;have Kk:=sub_enumerate;have hT:Sq t0 (Shared.heap ⟨hp,g,d,tk,os⟩) t Æ:=ht;wp_walk;refine wpAny_stack_any λst=>Ý ?_;split
  .rename_i c _ _ _ _ _;cases(c==Value.type "enumerate");.wp_walk using qu hT;exact⟨_,rfl,h⟩
   .wp_walk using qu hT;exact⟨_,rfl,h⟩
  .wp_walk using qu hT;exact⟨_,rfl,h⟩
theorem rJ{s:Shared}(ht:Sq t0 s.heap t Æ)(h:∀h',IsEnum h' (s.heap.objs.size+1) s.heap.objs.size 0 .none->Io t0 h' s.heap.objs.size t 0->(∀c o,s.heap.get? c=some o->h'.get? c=some o)->Q (.ref (s.heap.objs.size+1)) {s with heap:=h'}):wpAny (model prog w) A (call (.type "enumerate") [.ref t]) Q E s:=by refine callType_new F.called_enumerate Û (F.typeCall_enumerate_1 _) (F.newCall_enumerate_1 _) (λobj=>F.args_object_init_2 obj _) F.entry_enumerate_new (qw t Æ) ⟨ht,?_⟩;have e1:(eA t0 s.heap t).objs.size=s.heap.objs.size+1:=Heap.size_push ..;have g2:=ı (eA t0 s.heap t) (o:={cls:=.type "enumerate",data:=.fields #[.none,.bool false,.ref s.heap.objs.size,rawInt 0,.none,.none]}) rfl;have g1:=č {cls:=.type "enumerate",data:=.fields #[.none,.bool false,.ref s.heap.objs.size,rawInt 0,.none,.none]} (ı s.heap (o:={cls:=.type (nm t0),data:=.fields #[.ref t,.int 0 0]}) rfl);rw[e1]at g2⊢;exact⟨⟨_,g2,rfl⟩,h _ g2 ⟨_,g1,rfl,rfl⟩ λc o x=>č _ (č _ x)⟩
def Ite(t0:Bool)(K:Frag)(a:Addr):It:=⟨λi H=>∃xs x,SQ t0 K H a xs/\xs[i]?=some x,λi H v H'=>∃T,H T=none/\v=.ref T/\∀xs,SQ t0 K H a xs->∃x,xs[i]?=some x/\H'=upd H T (.tup [.int i,x]),λi H=>∃xs,SQ t0 K H a xs/\xs.length<=i⟩
def tne(t0:Bool)(e it a:Addr)(i:Nat)(h:Heap):Prop:=(∃old,IsEnum h e it i old)/\Io t0 h it a i
theorem CJ{K:Frag}(Kn:e≠it)(Uj:e≠a)(Uk:a≠it):Ŏ P w K (.Tuple es k pos) (Ite t0 K a) [e,it] e (tne t0 e it a)where
 mem:=by simp
 obj:=λi h st c hc=>by
  obtain⟨⟨old,s1⟩,⟨o4,s4,c4,d4⟩⟩:=st;simp only[List.mem_cons,List.not_mem_nil,or_false]at hc;rcases hc with z|z<;>subst z;.exact⟨_,s1,λv q=>by cases q⟩
  .exact⟨_,s4,λv q=>by rw[d4]at q;cases q⟩
 keep:=λi h h' st kp=>by obtain⟨⟨old,s1⟩,s4⟩:=st;exact⟨⟨old,kp e Ù _ s1⟩,s4.at λo z=>kp it Ù o z⟩
 item:=by
  intro X hP hw hK hc i Á s σ H E I hf st hg;subst hP hw hK;obtain⟨⟨old,s1⟩,s4⟩:=st;obtain⟨xs,x,qB,hx⟩:=hg;obtain⟨Æ,rv,p,_⟩:=oF I qB;obtain⟨ux,FK,rx⟩:=rv.get hx;have ax:i<Æ.toArray.size:=by have:=(ĵ.mp FK).1;simpa using this
  have D:=draws (t:=t0) (prog:=X.prog) (w:=X.w) (A:=X.A.in1) (I.ok.hd hc) it a Uk Æ.toArray;refine wpAny_pyNext_enum_itemD D s1 ⟨s4,p⟩ ax Kn (by simp[Kn,Uj]) λu h1 tk hu g1 g3 g5 g6 kp=>?_;have eu:u=ux:=by have hu:Æ.toArray[i]?=some u:=hu;rw[List.getElem?_toArray,FK]at hu;exact(ŗ hu).symm
  subst eu;refine⟨_,rfl,?_⟩;refine wpAny_letOwnedTupleGo_enum g1 λh2 e1 sb=>?_;have live:∀c,c∈[e,it]->∃o,s.heap.get? c=some o:=λc bg=>by
   simp only[List.mem_cons,List.not_mem_nil,or_false]at bg;rcases bg with q|q<;>subst q;.exact⟨_,s1⟩
   .obtain⟨o,h,_⟩:=s4;exact⟨o,h⟩
  have ne:∀c,c∈[e,it]->c≠s.heap.objs.size:=λc bg z=>by obtain⟨o,ho⟩:=live c bg;exact absurd (ÿ ho) (by rw[z];exact η _)
  have hT:H s.heap.objs.size=none:=I.hok.fresh (ß _);have kept:∀c o,c∉[e,it]->s.heap.get? c=some o->h2.get? c=some o:=λc o bg z=>sb.extBut _ _ (λq=>bg (by simp[q])) (kp c o (λq=>bg (by simp[q])) (λq=>bg (by simp[q])) z);have trk:∀c o,H c=some o->c∉[e,it]:=λc o z bg=>by have:=(hf c bg).1;rw[z]at this;cases this
  have xI:h2.get? s.heap.objs.size=some {cls:=.type "tuple",data:=.seq #[.int i tk,u]}:=sb.extBut _ _ (Ne.symm (ne e Ù)) g5;have mv:ą X.prog X.w (upd H s.heap.objs.size (.tup [.int i,x])) h2:=λc o z=>by
   by_cases hb:c=s.heap.objs.size;.subst hb;rw[aj]at z;cases z;exact⟨by show 2<=sizeLine;decide,[.int i tk,u],.cons ⟨tk,rfl⟩ (.cons rx .nil),_,xI,rfl,_,rfl⟩
   .rw[aq hb]at z;refine(I.hok c o z).stay (λd v hd q=>kept d v ?_ q) (λd q=>by rw[aq (aB q hT)];exact q) λd l q=>by rw[aq (aB q hT)];exact q
    rcases hd with e'|e';.rw[e'];exact trk c o z
    .exact trk d _ e'
  have I2:Ç X Á σ (upd H s.heap.objs.size (.tup [.int i,x])) {s with heap:=h2,toks:=tk+1}:=by
   refine I.step (g':=s.gens) (d':=s.drawn) (t':=tk+1) (ch:=[e,it]) (λc bg=>?_) (λc o _ _ hn z _=>kept c o hn z) (λc o _ _ hn z _=>⟨o.slots,kept c o hn z⟩) (λc o _ z n=>by rw[aq (Ĩ (ÿ z))];exact n) (λc o hn z=>⟨o,kept c o hn z⟩) (λc l z=>by rw[aq (aB z hT)];exact z) (λc o l z=>by rw[aq (aB z hT)];exact z) (λc l z=>⟨#[],by rw[aq (aB z hT),z];simp⟩) (λm hm=>?_) mv I.bare;.obtain⟨f0,f1,f2,f3,f4,f5⟩:=hf c bg;exact⟨f3,f1,f4,f5⟩
   .obtain⟨o,gN,ep,ho,r⟩:=hm;refine⟨o,gN,ep,kept _ o (λbg=>?_) ho,r⟩;exact(hf _ bg).2.1 rfl
  refine⟨.ref s.heap.objs.size,_,I2,rfl,⟨s.heap.objs.size,hT,rfl,λKt AQ=>⟨x,?_,rfl⟩⟩,⟨⟨u,?_⟩,?_⟩,λc bg=>?_⟩;.rw[yL I AQ qB];exact hx
  .have:=e1;rw[show(((i+1:Nat):Int))=(i:Int)+1 by lia];exact this
  .exact g3.1.extBut sb.extBut Kn.symm
  .rw[aq (ne c bg)];exact(hf c bg).1
 done:=by
  intro X hP hw hK hc i Á s σ H E I hf st hg;subst hP hw hK;obtain⟨⟨old,s1⟩,s4⟩:=st;obtain⟨xs,qB,hlen⟩:=hg;obtain⟨Æ,rv,p,_⟩:=oF I qB;have hl:=rv.length;have hT:s.TypeIs (.ref e) "enumerate":=⟨_,s1,rfl⟩;have fin:∀h',Heap.ExtBut it s.heap h'->Ç X Á σ H {s with heap:=h'}:=λh' kp=>by obtain⟨f0,f1,f2,f3,f4,f5⟩:=hf it Ù;exact I.turned (t':=s.toks) (λb o hb z=>kp b o hb z) f0 f1 f3 f4 f5
  unfold pyNext;refine Å (wpAny_attempt (wpAny_callSpecial?_slot (name:=Str.ofString "__next__") hT F.slot_enumerate_next (wpAny_call_entry F.slot_enumerate_next hT F.entry_enumerate_next ?_ (F.args_enumerate_next_1 _))));show wpAny _ _ (field (.ref e) 2>>=_) _ _ _;refine Å (wpAny_field s1 rfl (x:=.ref it) rfl ?_);refine Å (yM (I.ok.hd hc) s4 p (by simp;lia) λh' x FG cq=>?_);obtain⟨o,ho,Ul⟩:=cq;refine Å (wpAny_isInstance (T:="StopIteration") (b:=true) ⟨o,ho,Ul⟩ isSubtype_stop (Ý ⟨rfl,fin h' FG⟩))
 self:=λ_ _ _ _ _ st h=>wpAny_pyIter_enum st.1.choose_spec h
section
def NT(t0:Bool)(K:Frag)(t:TA):TI:=λσ H R=>t σ H λvs H1=>∃a xs,vs=[.ref a]/\SQ t0 K H1 a xs/\R (Ite t0 K a) H1
theorem pi_enum(t0:Bool)(hg:Gl X "enumerate")(hm:X.mg "enumerate"=none)(ha:PA X [a] ta)(hs:starEach [a] X.env=[(false,eval a X.env)]:=by rfl):PI X (.Tuple es k tp) (.Call (.Name "enumerate" p) [a] [] pos) (NT t0 X.K ta):=by
 intro Á s σ H R I h;refine Call_ (kJ I hg hm boot_enumerate (PyProof.Rows.callWith_type1 (Þ (ha pos Á s σ H _ I h) λus s1=>?_) hs rfl));rintro⟨vs,H1,I1,r1,q1⟩;obtain⟨x,xs,e,hx,q⟩:=q1;subst e;obtain⟨u,rfl,ru⟩:=ü r1;cases ru;obtain⟨Æ,_,p1,_⟩:=oF I1 hx;refine rJ p1 λh' z1 z4 kp=>?_;refine wpAny_pyIter_enum z1 ?_;have lx:x<s1.heap.objs.size:=by obtain⟨_,e,_⟩:=p1;exact ÿ e
 refine⟨_,_,_,_,H1,rfl,I1.kept (t':=s1.toks) kp,CJ (e:=s1.heap.objs.size+1) (it:=s1.heap.objs.size) (a:=x) (Nat.succ_ne_self _) (ϩ (Nat.lt_succ_of_lt lx)) (Ĩ lx),⟨⟨_,z1⟩,z4⟩,λc hc=>?_,q⟩;have hle:s1.heap.objs.size<=c:=by grind
 exact I1.fpOk hle (I1.hok.fresh hle)
end
theorem for_enum(t0:Bool){K:Frag}{g:TG}{tb:TS}{D:Ŕ}{σ:St}{H:Hp}(Pv:Nat->St->Hp->Prop)(h0:Pv 0 σ H)(hl:∀i σ H,i<=xs.length->Pv i σ H->SQ t0 K H a xs)(hs:∀i x σ H T,xs[i]?=some x->Pv i σ H->H T=none->g (.ref T) σ (upd H T (.tup [.int i,x])) λaI H2=>tb {D with nx:=Pv (i+1),ct:=Pv (i+1),bk:=D.nx} aI H2)(hd:∀σ H,Pv xs.length σ H->D.nx σ H):∃W:Nat->Nat->St->Hp->Prop,(∃m,W 0 m σ H)/\∀i m σ H,W i m σ H->((Ite t0 K a).stop i H/\D.nx σ H)\/((Ite t0 K a).go i H/\∃N,(∀ah H',N ah H'->∃m',m'<m/\W (i+1) m' ah H')/\∀x H',(Ite t0 K a).yld i H x H'->g x σ H' λaI H2=>tb {D with nx:=N,ct:=N,bk:=D.nx} aI H2):=by
 refine⟨λi m σ H=>m=xs.length-i/\i<=xs.length/\Pv i σ H,⟨xs.length,by simp,ĥ _,h0⟩,?_⟩;rintro i m σ H⟨rfl,hi,p⟩;have q:=hl i σ H hi p;by_cases ax:i<xs.length;.refine .inr ⟨⟨xs,xs[i],q,by simp[ax]⟩,Pv (i+1),λah H' p'=>⟨xs.length-(i+1),Â,rfl,ax,p'⟩,λx H' y=>?_⟩;obtain⟨T,nT,rfl,y⟩:=y;obtain⟨x,ex,rfl⟩:=y xs q;exact hs i x σ H T ex p nT
 .have e:i=xs.length:=Â;subst e;exact .inl ⟨⟨xs,q,ß _⟩,hd σ H p⟩
end L2.ZT
namespace L2
open PySem PySem.Spec PyProof.Rows
section
theorem rK(hc:X.calm=true):eO X (.builtin "min") (λxs H Q=>∃(p:Addr)(ns:WF),xs=[.ref p]/\Ê X.K H p (ns.map V.int)/\ns≠[]/\∀M,M∈ns->(∀a∈ns,M<=a)->Q (.int M) H):=by
 intro Á s σ H xs us Q I r h;obtain⟨p,ns,rfl,hq,fy,q⟩:=h;obtain⟨u,rfl,ru⟩:=ü r;cases ru;obtain⟨Æ,rv,pl,hz⟩:=I.list hq;have hi:IntsAre Æ ns:=ĭ rv;obtain⟨zs,ez⟩:=(hi.allInts:AllInts Æ.toArray).items;have en:numsOf Æ=ns:=hi.numsOf;have hl:s.heap.IsList p (intItems zs):=ez▸pl.isList;have aS:0<zs.size:=by
  have e1:(intItems zs).size=Æ.length:=by rw[<-ez,ē]
  have e2:=rv.length;rw[Ø]at e2;have e3:0<ns.length:=List.length_pos_iff.mpr fy;simp only[intItems,Array.size_map]at e1;lia
 have hn:numsOf (intItems zs).toList=ns:=by rw[<-ez];exact en
 refine min_intList (I.ok.hd hc) hl aS λv h' tk hv hk=>?_;obtain⟨t,rfl⟩:=intItems_at hv;obtain⟨h1,h2⟩:=argBest_lt (numAt zs) (zs.size-1);rw[nums_intItems]at hn;refine⟨.int _,H,I.kept (t':=tk) hk,⟨t,rfl⟩,q _ ?_ λa ha=>?_⟩;.rw[<-hn,numAt_eq];exact getD_mem (by rw[Ø,Ş];lia)
 .rw[<-hn]at ha;obtain⟨j,hj,rfl⟩:=mem_getD ha;rw[Ø,Ş]at hj;rw[<-numAt_eq];exact h2 j Â
inductive ϙ(K:Frag)(x:V)(y:V)(H:Hp)(Q:VK):Prop|mk:∀a b ys,(x=.ref a)->(y=.ref b)->(Î K H a [])->(Î K H b ys)->(Q (.ref b) H)->ϙ K x y H Q
def Lx(K:Frag):R2:=λx y H Q=>ϙ K x y H Q
open Builtin in
theorem Fw(l b:Addr)(Æ:Qa2)(n m:Nat)(dd AN:Option Addr)(sl kC:Array (Option Value)):Meets (Builtin.«tuple.__add__» ⟨[.ref l,.ref b],[]⟩) (λ_ R s=>s.heap.get? l=some {cls:=.type "tuple",dict:=dd,data:=.seq #[] n,slots:=sl}/\s.heap.get? b=some {cls:=.type "tuple",dict:=AN,data:=.seq Æ m,slots:=kC}/\R (.ok (.ret (.ref b))) s):=by refine .of_wp λprog w A R s h=>?_;obtain⟨hl,hb,h⟩:=h;have f2:=PySem.AutoSeq1.sub_tuple_tuple;wp_walk;exact⟨_,rfl,h⟩
theorem Fx:Ġ X (binaryOp .Add) (Lx X.K):=by intro Á s σ H x y v u Q I rx ry h;obtain⟨a,b,ys,rfl,rfl,ha,hb,q⟩:=h;cases rx;cases ry;obtain⟨Æ,r1,p1,_⟩:=I.tuple ha;obtain⟨bS,r2,p2,_⟩:=I.tuple hb;have e:Æ=[]:=r1.zero;subst e;obtain⟨⟨cls,dd,data,sl⟩,ho,hc,n,hd⟩:=id p1;obtain⟨⟨IP,AN,data2,kC⟩,qo,xi,n2,hd2⟩:=id p2;simp only at hc hd xi hd2;subst hc hd xi hd2;exact concat_meets ⟨_,ho,rfl⟩ ⟨_,qo,rfl⟩ noFill_tuple_add seq_tuple_add PySem.F.slot_tuple_add PySem.F.entry_tuple_add (PySem.F.args_tuple_add_2 _ _) (Fw a b bS.toArray n n2 dd AN sl kC) ⟨ho,qo,.ref b,H,I,rfl,q⟩
theorem Fy:Ġ X (binaryOp .Add) (λx y H Q=>∃a b xs ys,x=.ref a/\y=.ref b/\Î X.K H a xs/\Î X.K H b ys/\ys≠[]/\xs.length+ys.length<=sizeLine/\(xs=[]->Q (.ref b) H)/\(xs≠[]->∀p,H p=none->Q (.ref p) (upd H p (.tup (xs++ys))))):=by
 intro Á s σ H x y v u Q I rx ry h;obtain⟨a,b,xs,ys,rfl,rfl,ha,hb,hy,hz,q1,q2⟩:=h;by_cases hx:xs=[];.subst hx;exact Fx Á s σ H _ _ v u Q I rx ry ⟨a,b,ys,rfl,rfl,ha,hb,q1 rfl⟩
 .exact zR Á s σ H _ _ v u Q I rx ry ⟨a,b,xs,ys,rfl,rfl,ha,hb,hx,hz,λz=>absurd z hy,λ_=>q2 hx⟩
end
section
open HT in
theorem lZ{lo hi:Option Int}(ht:IsTup s.heap t items)(hs:s.heap.IsSliceOf sl vl vu .none)(pl:IsPart vl lo)(pu:IsPart vu hi)(h1:sIx items.size 0 lo=0)(h2:sIx items.size items.size hi=items.size)(h:Q (.ref t) s):wpAny (model prog w) A (getItem (.ref t) (.ref sl)) Q E s:=by
 obtain⟨os,xt,FE,CA⟩:=id hs;have IQ:s.TypeIs (.ref sl) "slice":=⟨os,xt,FE⟩;unfold getItem;try with_reducible refine wpAny_holding ?_
 first|refine Å (Ý ?_)|skip
 refine Å (wpAny_sequenceKey ht.typeIs Û ?_);refine Å (wpAny_callSpecial?_slot (name:=Str.ofString "__getitem__") ht.typeIs PyProof.Rows.slot_tuple_getitem (wpAny_call_entry PyProof.Rows.slot_tuple_getitem ht.typeIs entry_tuple_getitem ?_ (args_tuple_getitem _ _)));show wpAny _ _ (Builtin.Tuple.tupleItemsOf (.ref t)>>=_) _ _ s;refine Å (tupleItemsOf_ ht ?_);refine Å (wpAny_typeOf IQ ?_);refine Å (iY hs pl pu ?_);rw[h1,h2];show wpAny _ _ (if((((0:Nat):Int))==0&&(1:Int)==1&&(items.size-0)==items.size)=true then _ else _) _ _ s;rw[Í Ù];refine Å (Å (wpAny_typeOf ht.typeIs (Ý ?_)));rw[Í Û];exact Å (wpAny_rule (Ý ⟨_,rfl,Ý h⟩))
end
section
inductive Z0g(K:Frag)(x:V)(lo:Option Int)(hi:Option Int)(H:Hp)(Q:VK):Prop|mk:∀a xs,(x=.ref a)->(Î K H a xs)->(((HT.sIx xs.length 0 lo=0/\HT.sIx xs.length xs.length hi=xs.length)->Q (.ref a) H))->((¬(HT.sIx xs.length 0 lo=0/\HT.sIx xs.length xs.length hi=xs.length)->∀p,H p=none->Q (.ref p) (upd H p (.tup (pQ xs lo hi)))))->Z0g K x lo hi H Q
def Q8(K:Frag):V->Option Int->Option Int->Hp->VK->Prop:=λx lo hi H Q=>Z0g K x lo hi H Q
theorem J7:SlR X (Q8 X.K):=by
 intro Á s σ H x v vl vu lo hi sl Q I rx hs pl pu h;obtain⟨a,xs,rfl,hx,q1,q2⟩:=h;by_cases hw:HT.sIx xs.length 0 lo=0/\HT.sIx xs.length xs.length hi=xs.length
 .cases rx;obtain⟨Æ,r,ht,hz⟩:=I.tuple hx;have hlen:Æ.toArray.size=xs.length:=by rw[ē];exact r.length.symm
  refine⟨"tuple",_,PyProof.Rows.slot_tuple_getitem.lookup,ht.typeIs,?_⟩;exact lZ ht hs pl pu (by rw[hlen];exact hw.1) (by rw[hlen];exact hw.2) ⟨.ref a,H,I,rfl,q1 hw⟩
 .exact Ld Á s σ H _ v vl vu lo hi sl Q I rx hs pl pu ⟨a,xs,rfl,hx,hw,q2 hw⟩
end
section
end
section
end
end L2
namespace L2.ZT
open PySem PySem.Spec PyProof.Rows L2
section
theorem wB{z TI TO i1 i2 l1 l2:Addr}(D:ZipApart z TI TO i1 i2 l1 l2)(hz:IsZip s.heap z TI TO .none)(Kx:IsPair s.heap TI (.ref i1) (.ref i2))(OK:IsPair s.heap TO a b)(h1:Io t1 s.heap i1 l1 k)(h2:Io t2 s.heap i2 l2 k)(ej:Sq t1 s.heap l1 xs)(eR:Sq t2 s.heap l2 ys)(hx:xs[k]?=some x)(hy:ys[k]?=some y)(hQ:∀h',IsZip h' z TI TO (rawInt s.heap.objs.size)->IsPair h' TO x y->Io t1 h' i1 l1 (k+1)->Io t2 h' i2 l2 (k+1)->IsPair h' s.heap.objs.size x y->h'.objs.size=s.heap.objs.size+1->(∀c o,c≠z->c≠TO->c≠i1->c≠i2->s.heap.get? c=some o->h'.get? c=some o)->Q (some (.ref s.heap.objs.size)) {s with heap:=h'}):wpAny (model prog w) A (pyNext (.ref z)) Q E s:=by
 have hT:s.TypeIs (.ref z) "zip":=⟨_,hz,rfl⟩;unfold pyNext;refine Å (wpAny_attempt (wpAny_callSpecial?_slot (name:=Str.ofString "__next__") hT F.slot_zip_next (wpAny_call_entry F.slot_zip_next hT F.entry_zip_next ?_ (F.args_zip_next_1 _))));show wpAny _ _ (field (.ref z) 2>>=_) _ _ _;refine Å (wpAny_field hz rfl (x:=.bool false) rfl ?_);show wpAny _ _ (field (.ref z) 3>>=_) _ _ _;refine Å (wpAny_field hz rfl (x:=.ref TI) rfl (Å (wpAny_seqItems Kx rfl ?_)));refine Å ?_;unfold Builtin.SmallTypes.ownedTupleIsFree;refine Å (wpAny_field hz rfl (x:=.none) rfl (Ý ?_));simp only[if_true];refine Å (wpAny_rule (Å (wpAny_field hz rfl (x:=.ref TO) rfl (Å (wpAny_setField_rec hz Ù λg1 z1 s1=>?_)))));replace z1:IsZip g1 z TI TO .ellipsis:=z1;refine Å ?_;simp only[List.zipIdx_cons,List.zipIdx_nil,List.forIn_cons,List.forIn_nil];refine Å (Å (wpAny_onRaise ?_));show wpAny _ _ (Builtin.SmallTypes.nextOf (.ref i1)>>=_) _ _ _;refine Å (nx (h1.extBut s1.extBut D.i1z) (ej.extBut s1.extBut D.l1z) hx λg2 q1 s2=>Ý ?_);have o2:IsPair g2 TO a b:=s2.extBut _ _ D.TOi1 (s1.extBut _ _ D.TOz OK);refine Å (wpAny_seqItems o2 rfl (Å (wpAny_updateSeq_pair o2 λg3 o3 s3=>?_)));replace o3:IsPair g3 TO x b:=o3;refine Å (wpAny_letGo (Ý (Å (Å (wpAny_onRaise ?_)))));show wpAny _ _ (Builtin.SmallTypes.nextOf (.ref i2)>>=_) _ _ _;refine Å (nx (((h2.extBut s1.extBut D.i2z).extBut s2.extBut D.i12.symm).extBut s3.extBut D.TOi2.symm) (((eR.extBut s1.extBut D.l2z).extBut s2.extBut D.l2i1).extBut s3.extBut D.l2TO) hy λg4 q2 s4=>Ý ?_);have o4:IsPair g4 TO x b:=s4.extBut _ _ D.TOi2 o3;refine Å (wpAny_seqItems o4 rfl (Å (wpAny_updateSeq_pair o4 λg5 o5 s5=>?_)));replace o5:IsPair g5 TO x y:=o5;refine Å (wpAny_letGo (Ý (Ý (Å (wpAny_seqItems o5 rfl (Å (wpAny_newTuple ?_)))))));have hsz:g5.objs.size=s.heap.objs.size:=by rw[s5.1,s4.1,s3.1,s2.1,s1.1]
 have z5:IsZip g5 z TI TO .ellipsis:=s5.extBut _ _ D.TOz.symm (s4.extBut _ _ D.i2z.symm (s3.extBut _ _ D.TOz.symm (s2.extBut _ _ D.i1z.symm z1)));have k5:∀c o,c≠z->c≠TO->c≠i1->c≠i2->s.heap.get? c=some o->g5.get? c=some o:=λc o c1 c2 c3 c4 e=>s5.extBut _ _ c2 (s4.extBut _ _ c4 (s3.extBut _ _ c2 (s2.extBut _ _ c3 (s1.extBut _ _ c1 e))));have p1:Io t1 g5 i1 l1 (k+1):=((q1.extBut s3.extBut D.TOi1.symm).extBut s4.extBut D.i12).extBut s5.extBut D.TOi1.symm;have p2:Io t2 g5 i2 l2 (k+1):=q2.extBut s5.extBut D.TOi2.symm;have OL:z<g5.objs.size:=ÿ z5;refine Å ?_;unfold Builtin.SmallTypes.ownedTupleHandOut;have z6:IsZip (g5.push {cls:=.type "tuple",data:=.seq #[x,y]}) z TI TO .ellipsis:=č _ z5;refine Å (wpAny_setField_rec z6 Ù λg7 z7 s7=>?_);replace z7:IsZip g7 z TI TO (rawInt g5.objs.size):=z7;refine wpAny_setField_rec z7 Ù λg8 z8 s8=>?_;replace z8:IsZip g8 z TI TO (rawInt g5.objs.size):=z8;have up:∀c o,c≠z->g5.get? c=some o->g8.get? c=some o:=λc o c1 e=>s8.extBut _ _ c1 (s7.extBut _ _ c1 (č _ e));have t8:IsPair g8 g5.objs.size x y:=s8.extBut _ _ (ϩ OL) (s7.extBut _ _ (ϩ OL) (ı _ rfl));have n8:g8.objs.size=g5.objs.size+1:=by rw[s8.1,s7.1,Heap.size_push]
 rw[hsz]at z8 t8 n8;refine Ý ⟨_,rfl,Ý ?_⟩;show Q (some (.ref g5.objs.size)) _;rw[hsz];exact hQ g8 z8 (up _ _ D.TOz o5) (p1.at λo e=>up _ o D.i1z e) (p2.at λo e=>up _ o D.i2z e) t8 n8 λc o c1 c2 c3 c4 e=>up c o c1 (k5 c o c1 c2 c3 c4 e)
theorem yN{z TI TO i1 i2 l1 l2:Addr}(hh:A.handled=none)(D:ZipApart z TI TO i1 i2 l1 l2)(hz:IsZip s.heap z TI TO .none)(Kx:IsPair s.heap TI (.ref i1) (.ref i2))(OK:IsPair s.heap TO a b)(h1:Io t1 s.heap i1 l1 k)(ej:Sq t1 s.heap l1 xs)(hx:xs[k]?=none)(hQ:∀h',(∀c o,c≠z->c≠i1->s.heap.get? c=some o->h'.get? c=some o)->Q none {s with heap:=h'}):wpAny (model prog w) A (pyNext (.ref z)) Q E s:=by
 have hT:s.TypeIs (.ref z) "zip":=⟨_,hz,rfl⟩;refine Å (wpAny_attempt (wpAny_callSpecial?_slot (name:=Str.ofString "__next__") hT F.slot_zip_next (wpAny_call_entry F.slot_zip_next hT F.entry_zip_next ?_ (F.args_zip_next_1 _))));show wpAny _ _ (field (.ref z) 2>>=_) _ _ _;refine Å (wpAny_field hz rfl (x:=.bool false) rfl ?_);refine Å (wpAny_field hz rfl (x:=.ref TI) rfl (Å (wpAny_seqItems Kx rfl ?_)));refine Å ?_;refine Å (wpAny_field hz rfl (x:=.none) rfl (Ý ?_));refine Å (wpAny_rule (Å (wpAny_field hz rfl (x:=.ref TO) rfl (Å (wpAny_setField_rec hz Ù λg1 z1 s1=>?_)))));replace z1:IsZip g1 z TI TO .ellipsis:=z1;refine Å ?_;refine Å (Å (wpAny_onRaise ?_));refine Å (yM hh (h1.extBut s1.extBut D.i1z) (ej.extBut s1.extBut D.l1z) hx λg2 e s2 he=>?_);obtain⟨oe,KA,OM⟩:=he;have z2:IsZip g2 z TI TO .ellipsis:=s2 _ _ D.i1z.symm z1;have Um:e≠z:=λq=>by subst q;rw[z2]at KA;cases KA;simp at OM
 refine wpAny_setField_rec z2 Ù λg3 _ s3=>?_;refine Å (wpAny_isInstance (T:="StopIteration") (b:=true) ⟨oe,s3.extBut _ _ Um KA,OM⟩ isSubtype_stop (Ý (hQ _ λc o c1 c2 q=>s3.extBut _ _ c1 (s2 _ _ c2 (s1.extBut _ _ c1 q)))))
end
abbrev zA(t1:Bool)(h:Heap)(t:Addr):Heap:=h.push {cls:=.type (nm t1),data:=.fields #[.ref t,.int 0 0]}
abbrev zB(t1 t2:Bool)(h:Heap)(t l:Addr):Heap:=(zA t1 h t).push {cls:=.type (nm t2),data:=.fields #[.ref l,.int 0 0]}
abbrev zC(t1 t2:Bool)(h:Heap)(t l:Addr):Heap:=(zB t1 t2 h t l).push {cls:=.type "tuple",data:=.seq #[.ref h.objs.size,.ref (zA t1 h t).objs.size]}
abbrev zD(t1 t2:Bool)(h:Heap)(t l:Addr):Heap:=(zC t1 t2 h t l).push {cls:=.type "tuple",data:=.seq #[.none,.none]}
abbrev zE(t1 t2:Bool)(h:Heap)(t l:Addr):Heap:=(zD t1 t2 h t l).push {cls:=.type "zip",data:=.fields #[.none,.bool false,.bool false,.ref (zB t1 t2 h t l).objs.size,.ref (zC t1 t2 h t l).objs.size]}
theorem uO(t l:Addr)(xs ys:Qa2):Meets (Builtin.«zip.__new__» ⟨[.type "zip",.ref t,.ref l],[]⟩) (λ_ R s=>Sq t1 s.heap t xs/\Sq t2 s.heap l ys/\R (.ok (.ret (.ref (zD t1 t2 s.heap t l).objs.size))) {s with heap:=zE t1 t2 s.heap t l}):=.of_wp λprog w A R s h=>by obtain⟨hp,g,d,tk,os⟩:=s;obtain⟨ht,hl,h⟩:=h;have Kk:=sub_zip;have hT:Sq t1 (Shared.heap ⟨hp,g,d,tk,os⟩) t xs:=ht;have hL:Sq t2 (Shared.heap ⟨hp.push {cls:=.type (nm t1),data:=.fields #[.ref t,.int 0 0]},g,d,tk,os⟩) l ys:=hl.at λo e=>č _ e;wp_walk using qu hT,qu hL;exact⟨_,rfl,h⟩
theorem wC{s:Shared}(ht:Sq t1 s.heap t xs)(hl:Sq t2 s.heap l ys)(h:∀h',IsZip h' (s.heap.objs.size+4) (s.heap.objs.size+2) (s.heap.objs.size+3) .none->IsPair h' (s.heap.objs.size+2) (.ref s.heap.objs.size) (.ref (s.heap.objs.size+1))->IsPair h' (s.heap.objs.size+3) .none .none->Io t1 h' s.heap.objs.size t 0->Io t2 h' (s.heap.objs.size+1) l 0->(∀c o,s.heap.get? c=some o->h'.get? c=some o)->Q (.ref (s.heap.objs.size+4)) {s with heap:=h'}):wpAny (model prog w) A (call (.type "zip") [.ref t,.ref l]) Q E s:=by
 refine callType_new F.called_zip Û (F.typeCall_zip_2 _ _) (F.newCall_zip_2 _ _) (λobj=>F.args_object_init_3 obj _ _) F.entry_zip_new (uO t l xs ys) ⟨ht,hl,?_⟩;have e1:(zA t1 s.heap t).objs.size=s.heap.objs.size+1:=Heap.size_push ..;have e2:(zB t1 t2 s.heap t l).objs.size=s.heap.objs.size+2:=by rw[Heap.size_push,e1]
 have e3:(zC t1 t2 s.heap t l).objs.size=s.heap.objs.size+3:=by rw[Heap.size_push,e2]
 have e4:(zD t1 t2 s.heap t l).objs.size=s.heap.objs.size+4:=by rw[Heap.size_push,e3]
 have ON:∀{c o},(zD t1 t2 s.heap t l).get? c=some o->(zE t1 t2 s.heap t l).get? c=some o:=λe=>č _ e;have OO:∀{c o},(zC t1 t2 s.heap t l).get? c=some o->(zE t1 t2 s.heap t l).get? c=some o:=λe=>ON (č _ e);have OP:∀{c o},(zB t1 t2 s.heap t l).get? c=some o->(zE t1 t2 s.heap t l).get? c=some o:=λe=>OO (č _ e);have up1:∀{c o},(zA t1 s.heap t).get? c=some o->(zE t1 t2 s.heap t l).get? c=some o:=λe=>OP (č _ e);have g5:(zE t1 t2 s.heap t l).get? (zD t1 t2 s.heap t l).objs.size=some _:=ı _ rfl;have g4:(zE t1 t2 s.heap t l).get? (zC t1 t2 s.heap t l).objs.size=some _:=ON (ı _ rfl);have g3:(zE t1 t2 s.heap t l).get? (zB t1 t2 s.heap t l).objs.size=some _:=OO (ı _ rfl);have g2:(zE t1 t2 s.heap t l).get? (zA t1 s.heap t).objs.size=some _:=OP (ı _ rfl);have g1:(zE t1 t2 s.heap t l).get? s.heap.objs.size=some _:=up1 (ı _ rfl);rw[e4,e2,e3]at g5;rw[e2,e1]at g3;rw[e3]at g4;rw[e1]at g2;rw[e4];exact⟨⟨_,g5,rfl⟩,h _ g5 g3 g4 ⟨_,g1,rfl,rfl⟩ ⟨_,g2,rfl,rfl⟩ λc o x=>up1 (č _ x)⟩
def Itz(t1 t2:Bool)(K:Frag)(a b:Addr):It:=⟨λi H=>∃xs ys x y,SQ t1 K H a xs/\SQ t2 K H b ys/\xs[i]?=some x/\ys[i]?=some y,λi H v H'=>∃T,H T=none/\v=.ref T/\∀xs ys,SQ t1 K H a xs->SQ t2 K H b ys->∃x y,xs[i]?=some x/\ys[i]?=some y/\H'=upd H T (.tup [x,y]),λi H=>∃xs,SQ t1 K H a xs/\xs.length<=i⟩
def tnz(t1 t2:Bool)(z TI TO i1 i2 a b:Addr)(i:Nat)(h:Heap):Prop:=IsZip h z TI TO .none/\IsPair h TI (.ref i1) (.ref i2)/\(∃u v,IsPair h TO u v)/\Io t1 h i1 a i/\Io t2 h i2 b i
theorem Fz{K:Frag}{z TI TO i1 i2 a b:Addr}(D:ZipApart z TI TO i1 i2 a b):Ŏ P w K (.Tuple es k pos) (Itz t1 t2 K a b) [z,TI,TO,i1,i2] z (tnz t1 t2 z TI TO i1 i2 a b)where
 mem:=by simp
 obj:=λi h st c hc=>by
  obtain⟨s1,s2,⟨u,v,s3⟩,⟨o4,s4,c4,d4⟩,⟨o5,s5,c5,d5⟩⟩:=st;simp only[List.mem_cons,List.not_mem_nil,or_false]at hc;rcases hc with e|e|e|e|e<;>subst e;.exact⟨_,s1,λv q=>by cases q⟩
  .exact⟨_,s2,λv q=>by cases q⟩
  .exact⟨_,s3,λv q=>by cases q⟩
  .exact⟨_,s4,λv q=>by rw[d4]at q;cases q⟩
  .exact⟨_,s5,λv q=>by rw[d5]at q;cases q⟩
 keep:=λi h h' st kp=>by obtain⟨s1,s2,⟨u,v,s3⟩,s4,s5⟩:=st;exact⟨kp z Ù _ s1,kp TI Ù _ s2,⟨u,v,kp TO Ù _ s3⟩,s4.at λo e=>kp i1 Ù o e,s5.at λo e=>kp i2 Ù o e⟩
 item:=by
  intro X hP hw hK hc i Á s σ H E I hf st hg;subst hP hw hK;obtain⟨s1,s2,⟨u,v,s3⟩,s4,s5⟩:=st;obtain⟨xs,ys,x,y,qB,OQ,hx,hy⟩:=hg;obtain⟨Æ,rv,p,_⟩:=oF I qB;obtain⟨Uo,eJ,q,_⟩:=oF I OQ;obtain⟨ux,FK,rx⟩:=rv.get hx;obtain⟨uy,Up,ry⟩:=eJ.get hy;refine wB D s1 s2 s3 s4 s5 p q (x:=ux) (y:=uy) (by simpa using FK) (by simpa using Up) λh1 g1 g2 g3 g4 g5 g6 kp=>?_;refine⟨_,rfl,?_⟩;refine wpAny_letOwnedTupleGo_zip g1 λh2 e1 sb=>?_;have ne:∀c,c∈[z,TI,TO,i1,i2]->c≠s.heap.objs.size:=λc bg e=>by
   obtain⟨f0,f1,f2,f3,f4,f5⟩:=hf c bg;have:∃o,s.heap.get? c=some o:=by
    simp only[List.mem_cons,List.not_mem_nil,or_false]at bg;rcases bg with q|q|q|q|q<;>subst q;.exact⟨_,s1⟩
    .exact⟨_,s2⟩
    .exact⟨_,s3⟩
    .obtain⟨o,h,_⟩:=s4;exact⟨o,h⟩
    .obtain⟨o,h,_⟩:=s5;exact⟨o,h⟩
   obtain⟨o,ho⟩:=this;exact absurd (ÿ ho) (by rw[e];exact η _)
  have hT:H s.heap.objs.size=none:=I.hok.fresh (ß _);have kept:∀c o,c∉[z,TO,i1,i2]->s.heap.get? c=some o->h2.get? c=some o:=λc o bg e=>sb.extBut _ _ (λq=>bg (by simp[q])) (kp c o (λq=>bg (by simp[q])) (λq=>bg (by simp[q])) (λq=>bg (by simp[q])) (λq=>bg (by simp[q])) e);have DA:∀c,c∈[z,TO,i1,i2]->c∈[z,TI,TO,i1,i2]:=λc bg=>by simp only[List.mem_cons,List.not_mem_nil,or_false]at bg⊢;rcases bg with q|q|q|q<;>simp[q]
  have trk:∀c o,H c=some o->c∉[z,TO,i1,i2]:=λc o e bg=>by have:=(hf c (DA c bg)).1;rw[e]at this;cases this
  have xI:h2.get? s.heap.objs.size=some {cls:=.type "tuple",data:=.seq #[ux,uy]}:=sb.extBut _ _ (Ne.symm (ne z Ù)) g5;have mv:ą X.prog X.w (upd H s.heap.objs.size (.tup [x,y])) h2:=λc o e=>by
   by_cases hb:c=s.heap.objs.size;.subst hb;rw[aj]at e;cases e;exact⟨by show 2<=sizeLine;decide,[ux,uy],.cons rx (.cons ry .nil),_,xI,rfl,_,rfl⟩
   .rw[aq hb]at e;refine(I.hok c o e).stay (λd v hd q=>kept d v ?_ q) (λd q=>by rw[aq (aB q hT)];exact q) λd l q=>by rw[aq (aB q hT)];exact q
    rcases hd with e'|e';.rw[e'];exact trk c o e
    .exact trk d _ e'
  have I2:Ç X Á σ (upd H s.heap.objs.size (.tup [x,y])) {s with heap:=h2}:=by
   refine I.step (g':=s.gens) (d':=s.drawn) (t':=s.toks) (ch:=[z,TO,i1,i2]) (λc bg=>?_) (λc o _ _ hn e _=>kept c o hn e) (λc o _ _ hn e _=>⟨o.slots,kept c o hn e⟩) (λc o _ e n=>by rw[aq (Ĩ (ÿ e))];exact n) (λc o hn e=>⟨o,kept c o hn e⟩) (λc l e=>by rw[aq (aB e hT)];exact e) (λc o l e=>by rw[aq (aB e hT)];exact e) (λc l e=>⟨#[],by rw[aq (aB e hT),e];simp⟩) (λm hm=>?_) mv I.bare;.obtain⟨f0,f1,f2,f3,f4,f5⟩:=hf c (DA c bg);exact⟨f3,f1,f4,f5⟩
   .obtain⟨o,gN,ep,ho,r⟩:=hm;refine⟨o,gN,ep,kept _ o (λbg=>?_) ho,r⟩;exact(hf _ (DA _ bg)).2.1 rfl
  refine⟨.ref s.heap.objs.size,_,I2,rfl,⟨s.heap.objs.size,hT,rfl,λKt de AQ Uq=>⟨x,y,?_,?_,rfl⟩⟩,⟨e1,?_,?_,?_,?_⟩,λc bg=>?_⟩;.rw[yL I AQ qB];exact hx
  .rw[yL I Uq OQ];exact hy
  .exact sb.extBut _ _ D.TIz (kp _ _ D.TIz D.TITO D.TIi1 D.TIi2 s2)
  .exact⟨_,_,sb.extBut _ _ D.TOz g2⟩
  .exact g3.extBut sb.extBut D.i1z
  .exact g4.extBut sb.extBut D.i2z
  .rw[aq (ne c bg)];exact(hf c bg).1
 done:=by
  intro X hP hw hK hc i Á s σ H E I hf st hg;subst hP hw hK;obtain⟨s1,s2,⟨u,v,s3⟩,s4,s5⟩:=st;obtain⟨xs,qB,hlen⟩:=hg;obtain⟨Æ,rv,p,_⟩:=oF I qB;have hl:=rv.length;refine yN (I.ok.hd hc) D s1 s2 s3 s4 p (by simp;lia) λh' kp=>⟨rfl,?_⟩;refine I.step (h':=h') (H':=H) (g':=s.gens) (d':=s.drawn) (t':=s.toks) (ch:=[z,i1]) (λc bg=>?_) (λc o _ _ hn e _=>kp c o (λq=>hn (by simp[q])) (λq=>hn (by simp[q])) e) (λc o _ _ hn e _=>⟨o.slots,kp c o (λq=>hn (by simp[q])) (λq=>hn (by simp[q])) e⟩) (λc o _ e n=>n) (λc o hn e=>⟨o,kp c o (λq=>hn (by simp[q])) (λq=>hn (by simp[q])) e⟩) (λ_ _ e=>e) (λ_ _ _ e=>e) (λc l e=>⟨#[],by rw[e];simp⟩) (λm hm=>?_) (λc o e=>?_) I.bare
  .have:c∈[z,TI,TO,i1,i2]:=by simp only[List.mem_cons,List.not_mem_nil,or_false]at bg⊢;rcases bg with q|q<;>simp[q]
   obtain⟨f0,f1,f2,f3,f4,f5⟩:=hf c this;exact⟨f3,f1,f4,f5⟩
  .obtain⟨o,gN,ep,ho,r⟩:=hm;exact⟨o,gN,ep,kp _ o (Ne.symm (hf z Ù).2.1) (Ne.symm (hf i1 Ù).2.1) ho,r⟩
  .have nn:∀d v c',c'∈[z,TI,TO,i1,i2]->H d=some v->d≠c':=λd v c' bg q e'=>by have:=(hf c' bg).1;rw[<-e',q]at this;cases this
   have nz:∀d v,H d=some v->d≠z/\d≠i1:=λd v q=>⟨nn d v z Ù q,nn d v i1 Ù q⟩;refine(I.hok c o e).stay (λd v hd q=>?_) (λ_ q=>q) λ_ _ q=>q;rcases hd with e'|e';.rw[e']at q⊢;exact kp c v (nz c o e).1 (nz c o e).2 q
   .exact kp d v (nz d _ e').1 (nz d _ e').2 q
 self:=λ_ _ _ _ _ st h=>wpAny_pyIter_zip st.1 h
section
def Q9(t1 t2:Bool)(K:Frag)(t:TA):TI:=λσ H R=>t σ H λvs H1=>∃a b xs ys,vs=[.ref a,.ref b]/\SQ t1 K H1 a xs/\SQ t2 K H1 b ys/\R (Itz t1 t2 K a b) H1
theorem pi_zip(t1 t2:Bool){es:Qa3}{k:Nat}{tp:Pos}{p pos:Pos}(hg:Gl X "zip")(hm:X.mg "zip"=none)(ha:PA X [a,b] ta)(hs:starEach [a,b] X.env=[(false,eval a X.env),(false,eval b X.env)]:=by rfl)(l9:starEach [b] X.env=[(false,eval b X.env)]:=by rfl):PI X (.Tuple es k tp) (.Call (.Name "zip" p) [a,b] [] pos) (Q9 t1 t2 X.K ta):=by
 intro Á s σ H R I h;refine Call_ (kJ I hg hm boot_zip (PyProof.Rows.callWith_type1 (Þ (ha pos Á s σ H _ I h) λus s1=>?_) (by rw[hs,l9]) (by rw[l9];rfl)));rintro⟨vs,H1,I1,r1,q1⟩;obtain⟨x,y,xs,ys,e,hx,hy,q⟩:=q1;subst e;obtain⟨u,v,rfl,ru,rv⟩:=ň r1;cases ru;cases rv;obtain⟨Æ,_,p1,_⟩:=oF I1 hx;obtain⟨Uo,_,p2,_⟩:=oF I1 hy;refine wC p1 p2 λh' z1 z2 z3 z4 z5 kp=>?_;refine wpAny_pyIter_zip z1 ?_;have lx:x<s1.heap.objs.size:=by obtain⟨_,e,_⟩:=p1;exact ÿ e
 have ly:y<s1.heap.objs.size:=by obtain⟨_,e,_⟩:=p2;exact ÿ e
 refine⟨_,_,_,_,H1,rfl,I1.kept (t':=s1.toks) kp,Fz (zipApart_new lx ly),⟨z1,z2,⟨_,_,z3⟩,z4,z5⟩,λc hc=>?_,q⟩;have hle:s1.heap.objs.size<=c:=by grind
 exact I1.fpOk hle (I1.hok.fresh hle)
end
theorem for_zip{K:Frag}{g:TG}{tb:TS}{D:Ŕ}{σ:St}{H:Hp}(Pv:Nat->St->Hp->Prop)(he:xs.length=ys.length)(h0:Pv 0 σ H)(hl:∀i σ H,i<=xs.length->Pv i σ H->SQ t1 K H a xs/\SQ t2 K H b ys)(hs:∀i x y σ H T,xs[i]?=some x->ys[i]?=some y->Pv i σ H->H T=none->g (.ref T) σ (upd H T (.tup [x,y])) λaI H2=>tb {D with nx:=Pv (i+1),ct:=Pv (i+1),bk:=D.nx} aI H2)(hd:∀σ H,Pv xs.length σ H->D.nx σ H):∃W:Nat->Nat->St->Hp->Prop,(∃m,W 0 m σ H)/\∀i m σ H,W i m σ H->((Itz t1 t2 K a b).stop i H/\D.nx σ H)\/((Itz t1 t2 K a b).go i H/\∃N,(∀ah H',N ah H'->∃m',m'<m/\W (i+1) m' ah H')/\∀x H',(Itz t1 t2 K a b).yld i H x H'->g x σ H' λaI H2=>tb {D with nx:=N,ct:=N,bk:=D.nx} aI H2):=by
 refine⟨λi m σ H=>m=xs.length-i/\i<=xs.length/\Pv i σ H,⟨xs.length,by simp,ĥ _,h0⟩,?_⟩;rintro i m σ H⟨rfl,hi,p⟩;obtain⟨q1,q2⟩:=hl i σ H hi p;by_cases ax:i<xs.length;.have xE:i<ys.length:=Â;refine .inr ⟨⟨xs,ys,xs[i],ys[i],q1,q2,by simp[ax],by simp[xE]⟩,Pv (i+1),λah H' p'=>⟨xs.length-(i+1),Â,rfl,ax,p'⟩,λv H' y=>?_⟩;obtain⟨T,nT,rfl,y⟩:=y;obtain⟨x,z,ex,ez,rfl⟩:=y xs ys q1 q2;exact hs i x z σ H T ex ez p nT
 .have e:i=xs.length:=Â;subst e;exact .inl ⟨⟨xs,q1,ß _⟩,hd σ H p⟩
end L2.ZT
namespace L2
open PySem PySem.Spec PyProof.Rows PySem.Calls
section
theorem dB(hc:X.calm=true):eO X (.builtin "sum") (λxs H Q=>∃(p:Addr)(ns:WF),xs=[.ref p]/\(Ê X.K H p (ns.map V.int)\/Î X.K H p (ns.map V.int))/\Q (.int ns.sum) H):=by
 intro Á s σ H xs us Q I r h;obtain⟨p,ns,rfl,hq,q⟩:=h;obtain⟨u,rfl,ru⟩:=ü r;cases ru;have go:∀Æ:ā,Ï (ns.map V.int) Æ->∃zs:Array (Int×Tok),Æ.toArray=intItems zs/\preSum (numAt zs) zs.size=ns.sum:=λÆ rv=>by have hi:IntsAre Æ ns:=ĭ rv;obtain⟨zs,ez⟩:=(hi.allInts:AllInts Æ.toArray).items;refine⟨zs,ez,?_⟩;have en:numsOf Æ.toArray.toList=ns:=hi.numsOf;rw[ez,nums_intItems]at en;rw[preSum_eq,Ϭ Ù,en]
 rcases hq with hq|hq;.obtain⟨Æ,rv,pl,hz⟩:=I.list hq;obtain⟨zs,ez,es⟩:=go Æ rv;refine sum_intListG (I.ok.hd hc) (ez▸pl.isList) λh' tk t' hk=>?_;rw[es];exact⟨.int _,H,I.kept (t':=tk) hk,⟨t',rfl⟩,q⟩
 .obtain⟨Æ,rv,pl,hz⟩:=I.tuple hq;obtain⟨zs,ez,es⟩:=go Æ rv;have ht:s.heap.IsTuple p Æ.toArray:=pl;refine PySem.W.ktm_sumG (I.ok.hd hc) (ez▸ht) λh' tk t' hk=>?_;rw[es];exact⟨.int _,H,I.kept (t':=tk) hk,⟨t',rfl⟩,q⟩
end
section
open PySem.W
end
section
end
end L2
namespace So
open PySem PyProof.Rows
def iC:Bool->Keyed->Array Keyed->Nat->Nat->Nat->StateT SortSt Sem (Option Nat):=sortPriv%PySem.Builtin.gallop
section
def LtP(prog:Program)(w:World)(A:Around)(E:TQ)(s:Shared)(Ok:Keyed->Prop)(st:SortSt):Prop:=∀x y Q,Ok x->Ok y->(∀r,Q (some r) st)->wpS (model prog w) A E s (lt' x y) Q st
theorem bL{st:SortSt}(e:arr[i]?=some p)(h:Q p st):wpS (model prog w) A E s (elem' arr i) Q st:=by rw[elem'_eq,e];exact è h
theorem gn{st:SortSt}(hL:LtP prog w A E s Ok st)(hk:Ok key)(hn:h<n)(kG:∀i,i<n->∃p,arr[b+i]?=some p/\Ok p)(q:∀k,k<=n->Q (some k) st):wpS (model prog w) A E s (iC left key arr b n h) Q st:=by
 have hb:∀(i:Nat)(R:Option Bool->SortSt->Prop),i<n->(∀r,R (some r) st)->wpS (model prog w) A E s (do let x<-elem' arr (b+i)if left=true then lt' x key else do
    let r<-lt' key x
    pure (Option.map (λx=>!x) r)) R st:=λi R hi hR=>by obtain⟨p,e1,e2⟩:=kG i hi;refine â (bL e1 ?_);cases left with|true=>rw[Í rfl];exact hL _ _ _ e2 hk hR;|false=>rw[Ë Û];exact â (hL _ _ _ hk e2 λr=>è (hR _))
 delta iC;refine â (hb h _ hn λr=>?_);cases r with|true=>
  dsimp only;rw[Í rfl];refine â (wpS_mono (wpS_forRange (I:=λx c Ð=>Ð=st/\c.1=none/\c.2.1<c.2.2/\c.2.1<n-h/\x<c.2.2) (Q:=λc Ð=>Ð=st/\c.1=none/\c.2.1<c.2.2/\c.2.1<n-h) ?_ ?_ ⟨rfl,rfl,(by show 0<1;decide),(by show 0<n-h;lia),(by show 0<1;decide)⟩) ?_)
  .rintro x⟨c0,l,o⟩Ð _ hx⟨rfl,rfl,g1,g2,g3⟩;dsimp only at g1 g2 g3⊢;by_cases ho:o≥n-h;.rw[Í ho];exact è ⟨rfl,rfl,g1,g2⟩
   .rw[Ë ho];refine â (hb (h+o) _ Â λr=>?_);cases r with|true=>dsimp only;rw[Ë Û];exact è ⟨rfl,rfl,by dsimp only;lia,by dsimp only;lia,by dsimp only;lia⟩;|false=>dsimp only;rw[Í Û];exact è ⟨rfl,rfl,g1,g2⟩
  .rintro⟨c0,l,o⟩Ð⟨rfl,rfl,g1,g2,g3⟩;exact⟨rfl,rfl,g1,g2⟩
  .rintro⟨c0,l,o⟩Ð⟨rfl,rfl,g1,g2⟩;dsimp only at g1 g2⊢;refine â (wpS_mono (wpS_forRange (I:=λx c dA=>dA=Ð/\c.1=none/\c.2.2<=n) (Q:=λc dA=>dA=Ð/\c.1=none/\c.2.2<=n) ?_ ?_ ⟨rfl,rfl,(by show h+min o (n-h)<=n;lia)⟩) ?_)
   .rintro x⟨c0,l,r⟩dA _ hx⟨rfl,rfl,g2⟩;dsimp only at g2⊢;by_cases lh:l≥r;.rw[Í lh];exact è ⟨rfl,rfl,g2⟩
    .rw[Ë lh];refine â (hb (l+(r-l)/2) _ Â λt=>?_);cases t with|true=>dsimp only;rw[Í rfl];exact è ⟨rfl,rfl,g2⟩;|false=>dsimp only;rw[Ë Û];exact è ⟨rfl,rfl,by dsimp only;lia⟩
   .rintro⟨c0,l,r⟩dA⟨rfl,rfl,g2⟩;exact⟨rfl,rfl,g2⟩
   .rintro⟨c0,l,r⟩dA⟨rfl,rfl,g1⟩;exact è (q _ g1);|false=>
  dsimp only;rw[Ë Û];refine â (wpS_mono (wpS_forRange (I:=λx c Ð=>Ð=st/\c.1=none/\c.2.1<c.2.2/\c.2.1<h+1/\x<c.2.2) (Q:=λc Ð=>Ð=st/\c.1=none/\c.2.1<c.2.2/\c.2.1<h+1) ?_ ?_ ⟨rfl,rfl,(by show 0<1;decide),(by show 0<h+1;lia),(by show 0<1;decide)⟩) ?_)
  .rintro x⟨c0,l,o⟩Ð _ hx⟨rfl,rfl,g1,g2,g3⟩;dsimp only at g1 g2 g3⊢;by_cases ho:o≥h+1;.rw[Í ho];exact è ⟨rfl,rfl,g1,g2⟩
   .rw[Ë ho];refine â (hb (h-o) _ Â λr=>?_);cases r with|false=>dsimp only;rw[Ë Û];exact è ⟨rfl,rfl,by dsimp only;lia,by dsimp only;lia,by dsimp only;lia⟩;|true=>dsimp only;rw[Í rfl];exact è ⟨rfl,rfl,g1,g2⟩
  .rintro⟨c0,l,o⟩Ð⟨rfl,rfl,g1,g2,g3⟩;exact⟨rfl,rfl,g1,g2⟩
  .rintro⟨c0,l,o⟩Ð⟨rfl,rfl,g1,g2⟩;dsimp only at g1 g2⊢;refine â (wpS_mono (wpS_forRange (I:=λx c dA=>dA=Ð/\c.1=none/\c.2.2<=n) (Q:=λc dA=>dA=Ð/\c.1=none/\c.2.2<=n) ?_ ?_ ⟨rfl,rfl,(by show h-l<=n;lia)⟩) ?_)
   .rintro x⟨c0,l,r⟩dA _ hx⟨rfl,rfl,g2⟩;dsimp only at g2⊢;by_cases lh:l≥r;.rw[Í lh];exact è ⟨rfl,rfl,g2⟩
    .rw[Ë lh];refine â (hb (l+(r-l)/2) _ Â λt=>?_);cases t with|true=>dsimp only;rw[Í rfl];exact è ⟨rfl,rfl,g2⟩;|false=>dsimp only;rw[Ë Û];exact è ⟨rfl,rfl,by dsimp only;lia⟩
   .rintro⟨c0,l,r⟩dA⟨rfl,rfl,g2⟩;exact⟨rfl,rfl,g2⟩
   .rintro⟨c0,l,r⟩dA⟨rfl,rfl,g1⟩;exact è (q _ g1)
end
abbrev Sm:=StateT SortSt Sem
def J8(lo a m:Nat):Sm AscSt:=forIn [a:m] ((none,a):AscSt) λ_ c=>do let x<-ltAt' (lo+c.snd) (lo+c.snd-1)match x with|some b=>if b=true then pure (ForInStep.done (none,c.snd))else pure (ForInStep.yield (none,c.snd+1))|_=>pure (ForInStep.done (some none,c.snd))
def Ah(lo n m:Nat):Sm (Option Nat):=do reverseSlice' lo (lo+n)let c<-J8 lo n m match c.fst with|some r=>pure r|none=>pure (some c.snd)
def FJ(lo n m:Nat):Sm DescSt:=forIn [n:m] ((none,n,0):DescSt) λ_ c=>do let x<-ltAt' (lo+c.snd.fst) (lo+c.snd.fst-1)match x with
 |some b=>if b=true then if c.snd.snd>0 then do reverseSlice' (lo+c.snd.fst-(c.snd.snd+1)) (lo+c.snd.fst)pure (ForInStep.yield (none,c.snd.fst+1,0))else pure (ForInStep.yield (none,c.snd.fst+1,0))else do let y<-ltAt' (lo+c.snd.fst-1) (lo+c.snd.fst)match y with|some d=>if d=true then pure (ForInStep.done (none,c.snd.fst,c.snd.snd))else pure (ForInStep.yield (none,c.snd.fst+1,c.snd.snd+1))|_=>pure (ForInStep.done (some none,c.snd.fst,c.snd.snd))
  |_=>pure (ForInStep.done (some none,c.snd.fst,c.snd.snd))
def Ai(lo n m:Nat):Sm (Option Nat):=do liftM (rule "list.sort.descending-run")let c<-FJ lo (n+1) m match c.fst with|some r=>pure r|none=>if c.snd.snd>0 then do reverseSlice' (lo+c.snd.fst-(c.snd.snd+1)) (lo+c.snd.fst)Ah lo c.snd.fst m else Ah lo c.snd.fst m
theorem bc{f f':α->Sm β}(h:m=m')(h':f=f'):(m>>=f)=(m'>>=f'):=by rw[h,h']
theorem CK(lo m:Nat):countRun' lo m=(do let c<-J8 lo 1 m match c.fst with|some r=>pure r|none=>if(c.snd==m)=true then pure (some c.snd)else if c.snd>1 then do let x<-ltAt' lo (lo+c.snd-1)match x with|some b=>if b=true then pure (some c.snd)else do reverseSlice' lo (lo+c.snd)Ai lo c.snd m|_=>pure none else Ai lo c.snd m):=by
 have tl:∀n:Nat,((do
   reverseSlice' lo (lo+n)let mut n:=n
   for _ in[n:m]do
    let some smaller<-ltAt' (lo+n) (lo+n-1)|return none
    if smaller then break
    n:=n+1
   return some n):Sm (Option Nat))=Ah lo n m:=λn=>by refine bc rfl (funext λu=>bc rfl (funext λc=>?_));obtain⟨r,n⟩:=c;cases r<;>rfl
 have pl:∀n:Nat,((do
   rule "list.sort.descending-run"let mut n:=n+1 let mut neq:=0
   for _ in[n:m]do
    let some smaller<-ltAt' (lo+n) (lo+n-1)|return none
    if smaller then
 if neq>0 then reverseSlice' (lo+n-(neq+1)) (lo+n)
     neq:=0 else
     let some larger<-ltAt' (lo+n-1) (lo+n)|return none
     if larger then break
     neq:=neq+1
    n:=n+1
   if neq>0 then reverseSlice' (lo+n-(neq+1)) (lo+n)
   reverseSlice' lo (lo+n)for _ in[n:m]do
    let some smaller<-ltAt' (lo+n) (lo+n-1)|return none
    if smaller then break
    n:=n+1
   return some n):Sm (Option Nat))=Ai lo n m:=λn=>by refine bc rfl (funext λu=>bc rfl (funext λc=>?_));obtain⟨r,n2,q2⟩:=c;cases r with|some r=>rfl;|none=>
   dsimp only;split;.exact bc rfl (funext λu=>tl n2)
   .exact tl n2
 unfold J8;refine bc rfl (funext λc=>?_);obtain⟨r,n⟩:=c;cases r with|some r=>rfl;|none=>
  dsimp only;split;.rfl
  .split;.refine bc rfl (funext λx=>?_);cases x with|none=>rfl;|some b=>
     dsimp only;split;.rfl
     .exact bc rfl (funext λu=>pl n)
   .exact pl n
structure SB(ks:SortKind)(af:Array Keyed)(st:SortSt):Prop where
 kind:kindOf st=ks
 ok:failedOf st=none
 pm:(arrOf st).Perm af
section
variable{Ok:Keyed->Prop}{af:Array Keyed}
def LtAll(prog:Program)(w:World)(A:Around)(E:TQ)(s:Shared)(Ok:Keyed->Prop)(ks:SortKind):Prop:=∀st,kindOf st=ks->LtP prog w A E s Ok st
structure Go(ks:SortKind)(af:Array Keyed)(st Ð:SortSt):Prop where
 b:SB ks af Ð
 p:pendingOf Ð=pendingOf st
theorem SB.size{st:SortSt}(B:SB ks af st):(arrOf st).size=af.size:=B.pm.size_eq
theorem SB.item{st:SortSt}(B:SB ks af st)(h0:∀p∈af.toList,Ok p)(hi:i<af.size):∃p,(arrOf st)[i]?=some p/\Ok p:=by
 have tN:i<(arrOf st).size:=by rw[B.size];exact hi
 exact⟨_,Array.getElem?_eq_getElem tN,h0 _ ((Zbc.mp B.pm).mem_iff.mp (Array.mem_toList_iff.mpr (Array.getElem_mem tN)))⟩
theorem SB.arr{st:SortSt}(B:SB ks af st)(h:xs.Perm (arrOf st)):SB ks af (setArr st xs):=⟨B.kind,B.ok,h.trans B.pm⟩
theorem Go.refl{st:SortSt}(B:SB ks af st):Go ks af st st:=⟨B,rfl⟩
theorem Go.arr{st Ð:SortSt}(g:Go ks af st Ð)(h:xs.Perm (arrOf Ð)):Go ks af st (setArr Ð xs):=⟨g.b.arr h,g.p⟩
theorem ltA(hL:LtAll prog w A E s Ok ks){st:SortSt}(B:SB ks af st)(h0:∀p∈af.toList,Ok p)(hi:i<af.size)(hj:j<af.size)(h:∀r,Q (some r) st):wpS (model prog w) A E s (ltAt' i j) Q st:=by obtain⟨p,e1,ka⟩:=B.item h0 hi;obtain⟨q,e2,kb⟩:=B.item h0 hj;exact â (wpS_get (â (bL e1 (â (bL e2 (hL st B.kind p q Q ka kb h))))))
theorem uP{st aT:SortSt}(g:Go ks af aT st)(h:∀Ð,Go ks af aT Ð->Q () Ð):wpS (model prog w) A E s (reverseSlice' i j) Q st:=wpS_reverse (h _ (g.arr (mirror_perm _ _ _ _)))
variable(hL:LtAll prog w A E s Ok ks)(h0:∀p∈af.toList,Ok p)
include hL h0
theorem Aj{st:SortSt}{lo a m:Nat}(hn:lo+m<=af.size)(ha:1<=a)(ham:a<=m)(B:SB ks af st)(h:∀n,a<=n->n<=m->Q (none,n) st):wpS (model prog w) A E s (J8 lo a m) Q st:=by
 refine wpS_forRange (I:=λx c Ð=>Ð=st/\c=(none,x)) ?_ ?_ ⟨rfl,rfl⟩;.rintro x c Ð KG KI⟨rfl,rfl⟩;refine â (ltA hL B h0 Â Â λr=>?_);cases r with|true=>exact è (h x KG Â);|false=>exact è ⟨rfl,rfl⟩
 .rintro c Ð⟨rfl,rfl⟩;exact h _ Â Â
theorem wF{aT st:SortSt}{lo n m:Nat}(hn:lo+m<=af.size)(h1:1<=n)(xS:n<=m)(g:Go ks af aT st)(h:∀k Ð,Go ks af aT Ð->1<=k->k<=m->Q (some k) Ð):wpS (model prog w) A E s (Ah lo n m) Q st:=â (uP g λÐ g'=>â (Aj hL h0 hn h1 xS g'.b λk k1 k2=>è (h k _ g' Â k2)))
theorem FN{aT st:SortSt}{lo n m:Nat}(hn:lo+m<=af.size)(h1:1<=n)(xS:n<=m)(g:Go ks af aT st)(h:∀k q Ð,Go ks af aT Ð->n<=k->k<=m->Q (none,k,q) Ð):wpS (model prog w) A E s (FJ lo n m) Q st:=by
 unfold FJ;refine wpS_forRange (I:=λx c Ð=>∃q,c=(none,x,q)/\Go ks af aT Ð) ?_ ?_ ⟨0,rfl,g⟩
 .rintro x c Ð KG KI⟨q,rfl,g⟩;dsimp only;refine â (ltA hL g.b h0 Â Â λr=>?_)
  cases r with|true=>
   dsimp only;rw[Í rfl];by_cases DB:q>0;.rw[Í DB];exact â (uP g λst2 g2=>è ⟨0,rfl,g2⟩)
   .rw[Ë DB];exact è ⟨0,rfl,g⟩;|false=>dsimp only;refine â (ltA hL g.b h0 Â Â λr=>?_);cases r with|true=>exact è (h x q Ð g KG Â);|false=>exact è ⟨q+1,rfl,g⟩
 .rintro c Ð⟨q,rfl,g⟩;exact h _ q Ð g Â Â
theorem wG{aT st:SortSt}{lo n m:Nat}(hn:lo+m<=af.size)(xS:n+1<=m)(g:Go ks af aT st)(h:∀k Ð,Go ks af aT Ð->1<=k->k<=m->Q (some k) Ð):wpS (model prog w) A E s (Ai lo n m) Q st:=by
 refine â (wpS_lift (wpAny_rule ⟨rfl,?_⟩));refine â (FN hL h0 hn Â xS g λk q Ð g k1 k2=>?_);dsimp only;by_cases DB:q>0;.rw[Í DB];exact â (uP g λst2 g2=>wF hL h0 hn Â k2 g2 h)
 .rw[Ë DB];exact wF hL h0 hn Â k2 g h
theorem FP{st:SortSt}{lo m:Nat}(hn:lo+m<=af.size)(h1:1<=m)(B:SB ks af st)(h:∀k Ð,Go ks af st Ð->1<=k->k<=m->Q (some k) Ð):wpS (model prog w) A E s (countRun' lo m) Q st:=by
 rw[CK];refine â (Aj hL h0 hn (ß 1) h1 B λn n1 n2=>?_);dsimp only;have g:=Go.refl B;by_cases xS:n=m;.rw[Í (by simpa using xS)];exact è (h n st g n1 n2)
 .rw[Ë (by simpa using xS)];by_cases OR:n>1;.rw[Í OR];refine â (ltA hL B h0 Â Â λr=>?_);cases r with|true=>exact è (h n st g n1 n2);|false=>exact â (uP g λst2 g2=>wG hL h0 hn Â g2 h)
  .rw[Ë OR];exact wG hL h0 hn Â g h
theorem Ly{aT st:SortSt}{lo n ok:Nat}(hn:lo+n<=af.size)(g:Go ks af aT st)(h:∀Ð,Go ks af aT Ð->Q true Ð):wpS (model prog w) A E s (binarySort' lo n ok) Q st:=by
 rw[binarySort'_eq];refine â (wpS_mono (wpS_forRange (I:=λk c Ð=>c=(none,())/\Go ks af aT Ð) (Q:=λc Ð=>c=(none,())/\Go ks af aT Ð) ?_ (λc Ð h=>h) ⟨rfl,g⟩) ?_)
 .rintro k c Ð KL hkn⟨rfl,g⟩;refine â (wpS_mono (wpS_forRange (I:=λx c st2=>st2=Ð/\∃l r,c=(none,l,r)/\l<=r/\r<=k) (Q:=λc st2=>st2=Ð/\∃l r,c=(none,l,r)) ?_ ?_ ⟨rfl,0,k,rfl,Â,Â⟩) ?_)
  .rintro x c st2 _ hxk⟨rfl,l,r,rfl,lh,KO⟩;dsimp only;by_cases kH:l≥r;.rw[Í kH];exact è ⟨rfl,l,r,rfl⟩
   .rw[Ë kH];refine â (ltA hL g.b h0 Â Â λt=>?_);cases t with|true=>dsimp only;rw[Í rfl];exact è ⟨rfl,l,(l+r)/2,rfl,Â,Â⟩;|false=>dsimp only;rw[Ë Û];exact è ⟨rfl,(l+r)/2+1,r,rfl,Â,Â⟩
  .rintro c st2⟨rfl,l,r,rfl,_⟩;exact⟨rfl,l,r,rfl⟩
  .rintro c st2⟨rfl,l,r,rfl⟩;show wpS _ _ _ _ (do moveDown' (lo+k) (lo+l);pure (ForInStep.yield (none,()))) _ _;rw[moveDown'_eq];exact â (wpS_modify (è ⟨rfl,g.arr (bubble_perm _ _ _)⟩))
 .rintro c Ð⟨rfl,g⟩;exact è (h Ð g)
end
def mj:Array Keyed->Array Keyed->Sm (Array Keyed):=sortPriv%PySem.Builtin.mergeLo
def mq:Nat->Sm Unit:=sortPriv%PySem.Builtin.setMinGallop
abbrev C1:=Option (Array Keyed)×Array Keyed×Nat×Nat×Nat×Nat
abbrev C2:=Option (Array Keyed)×Array Keyed×Nat×Nat×Nat×Nat×Nat
abbrev C0:=Option (Array Keyed)×Array Keyed×Nat×Nat×Nat
def one(a b:Array Keyed)(g:Nat)(out:Array Keyed)(ia ib ac bc:Nat):Sm (ForInStep C1):=do let y<-elem' b ib let x<-elem' a ia let r<-lt' y x match r with|some w=>if w=true then do let y<-elem' b ib if(ib+1==b.size)=true then pure (ForInStep.done (some (out.push y++a.extract ia a.size++b.extract (ib+1) b.size),out.push y,ia,ib+1,0,bc+1))else if bc+1≥g then pure (ForInStep.done (none,out.push y,ia,ib+1,0,bc+1))else pure (ForInStep.yield (none,out.push y,ia,ib+1,0,bc+1))else do let x<-elem' a ia if(ia+1+1==a.size)=true then pure (ForInStep.done (some (out.push x++b.extract ib b.size++a.extract (ia+1) a.size),out.push x,ia+1,ib,ac+1,0))else if ac+1≥g then pure (ForInStep.done (none,out.push x,ia+1,ib,ac+1,0))else pure (ForInStep.yield (none,out.push x,ia+1,ib,ac+1,0))|_=>pure (ForInStep.done (some (out++a.extract ia a.size++b.extract ib b.size),out,ia,ib,ac,bc))
def gl4(a b:Array Keyed)(out:Array Keyed)(ia ib g k k1:Nat):Sm (ForInStep C2):=do let x<-elem' a ia if(ia+1+1==a.size)=true then pure (ForInStep.done (some (out.push x++b.extract ib b.size++a.extract (ia+1) a.size),out.push x,ia+1,ib,g,k,k1))else if(decide (k<7)&&decide (k1<7))=true then pure (ForInStep.done (none,out.push x,ia+1,ib,g,k,k1))else pure (ForInStep.yield (none,out.push x,ia+1,ib,g,k,k1))
def gl3(a b:Array Keyed)(out:Array Keyed)(ia ib g k bc:Nat):Sm (ForInStep C2):=do let x<-elem' a ia let r<-iC true x b ib (b.size-ib) 0 match r with|some k1=>if k1>0 then if(ib+k1==b.size)=true then pure (ForInStep.done (some (out++b.extract ib (ib+k1)++a.extract ia a.size++b.extract (ib+k1) b.size),out++b.extract ib (ib+k1),ia,ib+k1,g,k,k1))else gl4 a b (out++b.extract ib (ib+k1)) ia (ib+k1) g k k1 else gl4 a b out ia ib g k k1|_=>pure (ForInStep.done (some (out++a.extract ia a.size++b.extract ib b.size),out,ia,ib,g,k,bc))
def gl2(a b:Array Keyed)(out:Array Keyed)(ia ib g k bc:Nat):Sm (ForInStep C2):=do let y<-elem' b ib if(ib+1==b.size)=true then pure (ForInStep.done (some (out.push y++a.extract ia a.size++b.extract (ib+1) b.size),out.push y,ia,ib+1,g,k,bc))else gl3 a b (out.push y) ia (ib+1) g k bc
def Ϩ(a b:Array Keyed)(out:Array Keyed)(ia ib g ac bc:Nat):Sm (ForInStep C2):=do mq g let y<-elem' b ib let r<-iC false y a ia (a.size-ia) 0 match r with|some k=>if k>0 then if(ia+k+1==a.size)=true then pure (ForInStep.done (some (out++a.extract ia (ia+k)++b.extract ib b.size++a.extract (ia+k) a.size),out++a.extract ia (ia+k),ia+k,ib,g,k,bc))else if(ia+k==a.size)=true then pure (ForInStep.done (some (out++a.extract ia (ia+k)++a.extract (ia+k) a.size++b.extract ib b.size),out++a.extract ia (ia+k),ia+k,ib,g,k,bc))else gl2 a b (out++a.extract ia (ia+k)) (ia+k) ib g k bc else gl2 a b out ia ib g k bc|_=>pure (ForInStep.done (some (out++a.extract ia a.size++b.extract ib b.size),out,ia,ib,g,ac,bc))
def gal(a b:Array Keyed)(out:Array Keyed)(ia ib g ac bc:Nat):Sm (ForInStep C2):=if g>1 then Ϩ a b out ia ib (g-1) ac bc else Ϩ a b out ia ib g ac bc
def round(a b:Array Keyed)(out:Array Keyed)(ia ib g:Nat):Sm (ForInStep C0):=do let c<-forIn [0:a.size+b.size] ((none,out,ia,ib,0,0):C1) λ_ c=>one a b g c.2.1 c.2.2.1 c.2.2.2.1 c.2.2.2.2.1 c.2.2.2.2.2 match c.1 with|some r=>pure (ForInStep.done (some r,c.2.1,c.2.2.1,c.2.2.2.1,g))|none=>do liftM (rule "list.sort.gallop")let d<-forIn [0:a.size+b.size] ((none,c.2.1,c.2.2.1,c.2.2.2.1,g+1,c.2.2.2.2.1,c.2.2.2.2.2):C2) λ_ d=>gal a b d.2.1 d.2.2.1 d.2.2.2.1 d.2.2.2.2.1 d.2.2.2.2.2.1 d.2.2.2.2.2.2 match d.1 with|some r=>pure (ForInStep.done (some r,d.2.1,d.2.2.1,d.2.2.2.1,d.2.2.2.2.1))|none=>do mq (d.2.2.2.2.1+1)pure (ForInStep.yield (none,d.2.1,d.2.2.1,d.2.2.2.1,d.2.2.2.2.1+1))
theorem fi{r:Std.Legacy.Range}{f f':Nat->β->Sm (ForInStep β)}(h:f=f'):(forIn r c f:Sm β)=forIn r c f':=by rw[h]
theorem ic{α:Type}[Decidable c]{x x' y y':α}(h:x=x')(h':y=y'):(if c then x else y)=if c then x' else y':=by rw[h,h']
theorem NZ(a b:Array Keyed):mj a b=(do liftM (rule "list.sort.merge-lo")let e<-elem' b 0 if(1==b.size)=true then pure (#[e]++a.extract 0 a.size++b.extract 1 b.size)else if(0+1==a.size)=true then pure (#[e]++b.extract 1 b.size++a.extract 0 a.size)else do let s<-get let c<-forIn [0:a.size+b.size] ((none,#[e],0,1,gallopOf s):C0) λ_ c=>round a b c.2.1 c.2.2.1 c.2.2.2.1 c.2.2.2.2 match c.1 with|some r=>pure r|none=>liftM (unsupported "internal:list.sort.merge-bound")):=by
 delta mj;refine bc rfl (funext λu=>bc rfl (funext λe=>ic rfl (ic rfl (bc rfl (funext λs=>bc (fi (funext λx=>funext λc=>?_)) (funext λc=>?_))))))
 .unfold round;refine bc (fi (funext λx=>funext λc1=>?_)) (funext λc1=>?_);.unfold one;refine bc rfl (funext λy=>bc rfl (funext λx=>bc rfl (funext λr=>?_)));cases r with|none=>rfl;|some w=>exact ic (bc rfl (funext λy=>ic rfl (ic rfl rfl))) (bc rfl (funext λy=>ic rfl (ic rfl rfl)))
  .obtain⟨r,c1⟩:=c1;cases r with|some r=>rfl;|none=>
    refine bc rfl (funext λu=>bc (fi (funext λx=>funext λd=>?_)) (funext λd=>?_));.unfold gal;refine ic ?_ ?_<;>(unfold Ϩ;exact bc rfl (funext λu=>bc rfl (funext λy=>bc rfl (funext λr=>by rfl))))
    .obtain⟨r,d⟩:=d;cases r<;>rfl
 .obtain⟨r,c⟩:=c;cases r<;>rfl
structure SG(st Ð:SortSt):Prop where
 kind:kindOf Ð=kindOf st
 arr:arrOf Ð=arrOf st
 pend:pendingOf Ð=pendingOf st
 fail:failedOf Ð=failedOf st
theorem SG.refl(st:SortSt):SG st st:=⟨rfl,rfl,rfl,rfl⟩
theorem SG.trans(g:SG a b)(h:SG b c):SG a c:=⟨h.kind.trans g.kind,h.arr.trans g.arr,h.pend.trans g.pend,h.fail.trans g.fail⟩
structure Two(Ok:Keyed->Prop)(a b:Array Keyed):Prop where
 ka:∀p∈a.toList,Ok p
 kb:∀p∈b.toList,Ok p
theorem item{Ok:Keyed->Prop}{a:Array Keyed}(ka:∀p∈a.toList,Ok p)(hi:i<a.size):∃p,a[i]?=some p/\Ok p/\a.toList.drop i=p::a.toList.drop (i+1):=by refine⟨a[i],Array.getElem?_eq_getElem hi,ka _ (Array.mem_toList_iff.mpr (Array.getElem_mem hi)),?_⟩;have:=Zar (l:=a.toList) (i:=i) (by simpa using hi);rw[this];simp
theorem my(a:Array Keyed)(i j:Nat):(a.extract i j).toList=(a.toList.drop i).take (j-i):=by rw[Array.toList_extract]
theorem oX(a:Array Keyed)(i:Nat):(a.extract i a.size).toList=a.toList.drop i:=by rw[my];refine Ϭ ?_;rw[Zav];exact ß _
def M(a b out:Array Keyed)(ia ib:Nat):Prop:=(out.toList++(a.toList.drop ia++b.toList.drop ib)).Perm (a.toList++b.toList)
abbrev Rs(a b r:Array Keyed):Prop:=r.toList.Perm (a.toList++b.toList)
theorem mid(o t A R:List Keyed):(o++t++(A++R)).Perm (o++(A++(t++R))):=by rw[Ń,<-Ń t,<-Ń A];exact(List.perm_append_comm.append_right R).append_left o
theorem M.pushA(m:M a b out ia ib)(e:a.toList.drop ia=x::a.toList.drop (ia+1)):M a b (out.push x) (ia+1) ib:=by unfold M at m⊢;rw[e]at m;rw[Array.toList_push,Ń];exact m
theorem M.pushB(m:M a b out ia ib)(e:b.toList.drop ib=x::b.toList.drop (ib+1)):M a b (out.push x) ia (ib+1):=by unfold M at m⊢;rw[e]at m;rw[Array.toList_push];exact(mid _ [x] _ _).trans m
theorem M.segA(k:Nat)(m:M a b out ia ib):M a b (out++a.extract ia (ia+k)) (ia+k) ib:=by unfold M at m⊢;rw[ϫ,my,show ia+k-ia=k by lia,Ń,<-Ń (List.take _ _),<-List.drop_drop,zBe];exact m
theorem M.segB(k:Nat)(m:M a b out ia ib):M a b (out++b.extract ib (ib+k)) ia (ib+k):=by unfold M at m⊢;rw[ϫ,my,show ib+k-ib=k by lia];refine(mid _ _ _ _).trans ?_;rw[<-List.drop_drop,zBe];exact m
theorem M.e1(m:M a b out ia ib):Rs a b (out++a.extract ia a.size++b.extract ib b.size):=by unfold M at m;unfold Rs;rw[ϫ,ϫ,oX,oX,Ń];exact m
theorem M.e2(m:M a b out ia ib):Rs a b (out++b.extract ib b.size++a.extract ia a.size):=by unfold M at m;unfold Rs;rw[ϫ,ϫ,oX,oX,Ń];exact(List.perm_append_comm.append_left _).trans m
section
theorem jQ{st:SortSt}(h:∀Ð,SG st Ð->Q () Ð):wpS (model prog w) A E s (mq g) Q st:=wpS_modify (h _ ⟨rfl,rfl,rfl,rfl⟩)
structure At(a b out:Array Keyed)(ia ib:Nat):Prop where
 mi:M a b out ia ib
 ha:ia+1<a.size
 hb:ib<b.size
def G2(a b:Array Keyed)(n:Nat)(st:SortSt)(r:ForInStep C2)(Ð:SortSt):Prop:=SG st Ð/\match r with|.done c=>(∃z,c.1=some z/\Rs a b z)\/(c.1=none/\At a b c.2.1 c.2.2.1 c.2.2.2.1/\n<=c.2.2.1+c.2.2.2.1)|.yield c=>c.1=none/\At a b c.2.1 c.2.2.1 c.2.2.2.1/\n<=c.2.2.1+c.2.2.2.1
variable(hL:LtAll prog w A E s Ok ks)(T:Two Ok a b)
include T
theorem qx{aT st:SortSt}(sg:SG aT st)(m:At a b out ia ib)(hn:n<=ia+ib+1):wpS (model prog w) A E s (gl4 a b out ia ib g k k1) (G2 a b n aT) st:=by
 obtain⟨x,x1,x2,x4⟩:=item T.ka (i:=ia) (by have:=m.ha;lia);refine â (bL x1 ?_);have m':=m.mi.pushA x4;by_cases ha:ia+1+1=a.size;.rw[Í (by simpa using ha)];exact è ⟨sg,.inl ⟨_,rfl,m'.e2⟩⟩
 .rw[Ë (by simpa using ha)];have at':At a b (out.push x) (ia+1) ib:=⟨m',by have:=m.ha;lia,m.hb⟩;split;.exact è ⟨sg,.inr ⟨rfl,at',by dsimp only;lia⟩⟩
  .exact è ⟨sg,rfl,at',by dsimp only;lia⟩
include hL
theorem yO{g ia ib ac bc:Nat}{st:SortSt}(hk:kindOf st=ks)(m:At a b out ia ib):wpS (model prog w) A E s (one a b g out ia ib ac bc) (λr Ð=>Ð=st/\match r with|.done c=>(∃z,c.1=some z/\Rs a b z)\/(c.1=none/\At a b c.2.1 c.2.2.1 c.2.2.2.1/\ia+ib+1=c.2.2.1+c.2.2.2.1)|.yield c=>c.1=none/\At a b c.2.1 c.2.2.1 c.2.2.2.1/\ia+ib+1=c.2.2.1+c.2.2.2.1) st:=by
 obtain⟨x,x1,x2,x4⟩:=item T.ka (i:=ia) (by have:=m.ha;lia);obtain⟨y,y1,y2,y4⟩:=item T.kb m.hb;unfold one;refine â (bL y1 (â (bL x1 (â (hL st hk _ _ _ y2 x2 λe=>?_)))))
 cases e with|true=>
  refine â (bL y1 ?_);have m':=m.mi.pushB y4;by_cases hb:ib+1=b.size;.rw[Í (by simpa using hb)];exact è ⟨rfl,.inl ⟨_,rfl,m'.e1⟩⟩
  .rw[Ë (by simpa using hb)];have at':At a b (out.push y) ia (ib+1):=⟨m',m.ha,by have:=m.hb;lia⟩;split;.exact è ⟨rfl,.inr ⟨rfl,at',by dsimp only;lia⟩⟩
   .exact è ⟨rfl,rfl,at',by dsimp only;lia⟩;|false=>
  refine â (bL x1 ?_);have m':=m.mi.pushA x4;by_cases ha:ia+1+1=a.size;.rw[Í (by simpa using ha)];exact è ⟨rfl,.inl ⟨_,rfl,m'.e2⟩⟩
  .rw[Ë (by simpa using ha)];have at':At a b (out.push x) (ia+1) ib:=⟨m',by have:=m.ha;lia,m.hb⟩;split;.exact è ⟨rfl,.inr ⟨rfl,at',by dsimp only;lia⟩⟩
   .exact è ⟨rfl,rfl,at',by dsimp only;lia⟩
theorem yP{g ia ib k bc n:Nat}{aT st:SortSt}(hk:kindOf st=ks)(sg:SG aT st)(m:At a b out ia ib)(hn:n<=ia+ib+1):wpS (model prog w) A E s (gl3 a b out ia ib g k bc) (G2 a b n aT) st:=by
 obtain⟨x,x1,x2,x4⟩:=item T.ka (i:=ia) (by have:=m.ha;lia);have hb:=m.hb;refine â (bL x1 ?_);refine â (gn (hL st hk) x2 Â (λi hi=>?_) λk1 kn=>?_);.obtain⟨p,p1,p2,_⟩:=item T.kb (i:=ib+i) Â;exact⟨p,p1,p2⟩
 .by_cases h0:k1>0
  .dsimp only;rw[Í h0];have m':=m.mi.segB k1;by_cases e:ib+k1=b.size;.rw[Í (by simpa using e)];exact è ⟨sg,.inl ⟨_,rfl,m'.e1⟩⟩
   .rw[Ë (by simpa using e)];exact qx T sg ⟨m',m.ha,Â⟩ Â
  .dsimp only;rw[Ë h0];exact qx T sg m hn
theorem qy{g ia ib k bc n:Nat}{aT st:SortSt}(hk:kindOf st=ks)(sg:SG aT st)(m:At a b out ia ib)(hn:n<=ia+ib+1):wpS (model prog w) A E s (gl2 a b out ia ib g k bc) (G2 a b n aT) st:=by
 obtain⟨y,y1,y2,y4⟩:=item T.kb m.hb;refine â (bL y1 ?_);have m':=m.mi.pushB y4;by_cases hb:ib+1=b.size;.rw[Í (by simpa using hb)];exact è ⟨sg,.inl ⟨_,rfl,m'.e1⟩⟩
 .rw[Ë (by simpa using hb)];exact yP hL T hk sg ⟨m',m.ha,by have:=m.hb;lia⟩ Â
theorem yQ{g ia ib ac bc n:Nat}{aT st:SortSt}(hk:kindOf st=ks)(sg:SG aT st)(m:At a b out ia ib)(hn:n<=ia+ib+1):wpS (model prog w) A E s (Ϩ a b out ia ib g ac bc) (G2 a b n aT) st:=by
 obtain⟨y,y1,y2,y4⟩:=item T.kb m.hb;have ha:=m.ha;unfold Ϩ;refine â (jQ λÐ DC=>?_);have eB:kindOf Ð=ks:=DC.kind.trans hk;have cm:SG aT Ð:=sg.trans DC;refine â (bL y1 ?_);refine â (gn (hL Ð eB) y2 Â (λi hi=>?_) λk kn=>?_);.obtain⟨p,p1,p2,_⟩:=item T.ka (i:=ia+i) Â;exact⟨p,p1,p2⟩
 .by_cases h0:k>0
  .dsimp only;rw[Í h0];have m':=m.mi.segA k;by_cases e:ia+k+1=a.size;.rw[Í (by simpa using e)];exact è ⟨cm,.inl ⟨_,rfl,m'.e2⟩⟩
   .rw[Ë (by simpa using e)];by_cases e2:ia+k=a.size;.rw[Í (by simpa using e2)];exact è ⟨cm,.inl ⟨_,rfl,m'.e1⟩⟩
    .rw[Ë (by simpa using e2)];exact qy hL T eB cm ⟨m',Â,m.hb⟩ Â
  .dsimp only;rw[Ë h0];exact qy hL T eB cm m hn
theorem qz{aT st:SortSt}(hk:kindOf st=ks)(sg:SG aT st)(m:At a b out ia ib):wpS (model prog w) A E s (round a b out ia ib g) (λr Ð=>SG aT Ð/\match r with|.done c=>∃z,c.1=some z/\Rs a b z|.yield c=>c.1=none/\At a b c.2.1 c.2.2.1 c.2.2.2.1/\ia+ib+1<=c.2.2.1+c.2.2.2.1) st:=by
 have Ur:0<a.size+b.size:=by have:=m.ha;lia
 refine â (wpS_mono (wpS_forRange (I:=λx c Ð=>Ð=st/\c.1=none/\At a b c.2.1 c.2.2.1 c.2.2.2.1/\ia+ib+x=c.2.2.1+c.2.2.2.1) (Q:=λc Ð=>Ð=st/\((∃z,c.1=some z/\Rs a b z)\/(c.1=none/\At a b c.2.1 c.2.2.1 c.2.2.2.1/\ia+ib+1<=c.2.2.1+c.2.2.2.1))) ?_ ?_ ⟨rfl,rfl,m,rfl⟩) ?_)
 .rintro x⟨c0,o,i,j,ac,bc⟩Ð _ hx⟨rfl,rfl,m',e⟩;dsimp only at m' e⊢;refine wpS_mono (yO hL T hk m') λr st2 h2=>?_;obtain⟨rfl,h2⟩:=h2
  cases r with|done c=>
   rcases h2 with h2|⟨h2,h3,h4⟩;.exact⟨rfl,.inl h2⟩
   .exact⟨rfl,.inr ⟨h2,h3,Â⟩⟩;|yield c=>obtain⟨h2,h3,h4⟩:=h2;exact⟨rfl,h2,h3,Â⟩
 .rintro c Ð⟨rfl,h1,h2,h3⟩;exact⟨rfl,.inr ⟨h1,h2,Â⟩⟩
 .rintro⟨c0,o,i,j,ac,bc⟩Ð⟨rfl,h⟩;dsimp only at h⊢;rcases h with⟨z,rfl,hz⟩|⟨rfl,m',wt⟩;.exact è ⟨sg,z,rfl,hz⟩
  .dsimp only;refine â (wpS_lift (wpAny_rule ⟨rfl,?_⟩));refine â (wpS_mono (wpS_forRange (I:=λx c st2=>SG aT st2/\c.1=none/\At a b c.2.1 c.2.2.1 c.2.2.2.1/\ia+ib+1<=c.2.2.1+c.2.2.2.1) (Q:=λc st2=>SG aT st2/\((∃z,c.1=some z/\Rs a b z)\/(c.1=none/\At a b c.2.1 c.2.2.1 c.2.2.2.1/\ia+ib+1<=c.2.2.1+c.2.2.2.1))) ?_ ?_ ⟨sg,rfl,m',wt⟩) ?_)
   .rintro x⟨c0,o,i,j,g2,ac,bc⟩st2 _ hx⟨cm,rfl,m2,e2⟩;dsimp only at m2 e2⊢;have KP:kindOf st2=ks:=cm.kind.trans (sg.kind.symm.trans hk);have go:∀g',wpS (model prog w) A E s (Ϩ a b o i j g' ac bc) (G2 a b (ia+ib+1) aT) st2:=λg'=>yQ hL T KP cm m2 Â;unfold gal;split;.refine wpS_mono (go _) λr iX h3=>?_;obtain⟨h3,h4⟩:=h3;cases r with|done c=>exact⟨h3,h4⟩;|yield c=>exact⟨h3,h4⟩
    .refine wpS_mono (go _) λr iX h3=>?_;obtain⟨h3,h4⟩:=h3;cases r with|done c=>exact⟨h3,h4⟩;|yield c=>exact⟨h3,h4⟩
   .rintro c st2⟨h0,h1,h2,h3⟩;exact⟨h0,.inr ⟨h1,h2,h3⟩⟩
   .rintro⟨c0,o,i,j,g2,ac,bc⟩st2⟨cm,h⟩;dsimp only at h⊢;rcases h with⟨z,rfl,hz⟩|⟨rfl,m2,yb⟩;.exact è ⟨cm,z,rfl,hz⟩
    .dsimp only;refine â (jQ λiX qE=>è ⟨⟨qE.kind.trans cm.kind,qE.arr.trans cm.arr,qE.pend.trans cm.pend,qE.fail.trans cm.fail⟩,rfl,m2,yb⟩)
theorem O1(ha:0<a.size)(hb:0<b.size){st:SortSt}(hk:kindOf st=ks)(h:∀r Ð,SG st Ð->Rs a b r->Q r Ð):wpS (model prog w) A E s (mj a b) Q st:=by
 rw[NZ];obtain⟨y,y1,y2,y4⟩:=item T.kb hb;refine â (wpS_lift (wpAny_rule ⟨rfl,?_⟩));refine â (bL y1 ?_);have m0:M a b #[] 0 0:=by unfold M;exact .refl _
 have m:M a b #[y] 0 1:=m0.pushB y4;by_cases e1:1=b.size;.rw[Í (by simpa using e1)];exact è (h _ st (SG.refl _) m.e1)
 .rw[Ë (by simpa using e1)];by_cases e2:0+1=a.size;.rw[Í (by simpa using e2)];exact è (h _ st (SG.refl _) m.e2)
  .rw[Ë (by simpa using e2)];refine â (wpS_get ?_);refine â (wpS_mono (wpS_forRange (I:=λx c Ð=>SG st Ð/\c.1=none/\At a b c.2.1 c.2.2.1 c.2.2.2.1/\1+x<=c.2.2.1+c.2.2.2.1) (Q:=λc Ð=>SG st Ð/\∃z,c.1=some z/\Rs a b z) ?_ ?_ ⟨SG.refl _,rfl,⟨m,by dsimp only;lia,by dsimp only;lia⟩,by dsimp only;lia⟩) ?_);.rintro x⟨c0,o,i,j,g⟩Ð _ hx⟨sg,rfl,m',e⟩;dsimp only at m' e⊢;refine wpS_mono (qz hL T (sg.kind.trans hk) sg m') λr st2 h2=>?_;obtain⟨cm,h2⟩:=h2;cases r with|done c=>exact⟨cm,h2⟩;|yield c=>obtain⟨h2,h3,h4⟩:=h2;exact⟨cm,h2,h3,Â⟩
   .rintro c Ð⟨sg,h1,m',e⟩;have:=m'.ha;have:=m'.hb;exact absurd e Â
   .rintro⟨c0,o,i,j,g⟩Ð⟨sg,z,e,hz⟩;rw[e];exact è (h z Ð sg hz)
end
def mz:Array Keyed->Array Keyed->Sm (Array Keyed):=sortPriv%PySem.Builtin.mergeHi
namespace Hi
abbrev dn(a b out:Array Keyed)(na nb:Nat):Array Keyed:=a.extract 0 na++b.extract 0 nb++out.reverse
abbrev fb(a b out:Array Keyed)(na nb:Nat):Array Keyed:=b.extract 0 nb++a.extract 0 na++out.reverse
abbrev H1:=Option (Array Keyed)×Nat×Nat×Array Keyed×Nat×Nat
abbrev H2:=Option (Array Keyed)×Nat×Nat×Array Keyed×Nat×Nat×Nat
abbrev H0:=Option (Array Keyed)×Nat×Nat×Array Keyed×Nat
def one(a b:Array Keyed)(g:Nat)(na nb:Nat)(out:Array Keyed)(ac bc:Nat):Sm (ForInStep H1):=do let y<-elem' b (nb-1)let x<-elem' a (na-1)let r<-lt' y x match r with|some w=>if w=true then do let x<-elem' a (na-1)if(na-1==0)=true then pure (ForInStep.done (some (dn a b (out.push x) (na-1) nb),na-1,nb,out.push x,ac+1,0))else if ac+1≥g then pure (ForInStep.done (none,na-1,nb,out.push x,ac+1,0))else pure (ForInStep.yield (none,na-1,nb,out.push x,ac+1,0))else do let y<-elem' b (nb-1)if(nb-1==1)=true then pure (ForInStep.done (some (fb a b (out.push y) na (nb-1)),na,nb-1,out.push y,0,bc+1))else if bc+1≥g then pure (ForInStep.done (none,na,nb-1,out.push y,0,bc+1))else pure (ForInStep.yield (none,na,nb-1,out.push y,0,bc+1))|_=>pure (ForInStep.done (some (dn a b out na nb),na,nb,out,ac,bc))
def gl4(a b:Array Keyed)(na nb:Nat)(out:Array Keyed)(g k k1:Nat):Sm (ForInStep H2):=do let x<-elem' a (na-1)if(na-1==0)=true then pure (ForInStep.done (some (dn a b (out.push x) (na-1) nb),na-1,nb,out.push x,g,k,k1))else if(decide (k<7)&&decide (k1<7))=true then pure (ForInStep.done (none,na-1,nb,out.push x,g,k,k1))else pure (ForInStep.yield (none,na-1,nb,out.push x,g,k,k1))
def gl3(a b:Array Keyed)(na nb:Nat)(out:Array Keyed)(g k bc:Nat):Sm (ForInStep H2):=do let x<-elem' a (na-1)let r<-iC true x b 0 nb (nb-1)match r with|some t=>if nb-t>0 then if(t==1)=true then pure (ForInStep.done (some (fb a b (out++(b.extract t nb).reverse) na t),na,t,out++(b.extract t nb).reverse,g,k,nb-t))else if(t==0)=true then pure (ForInStep.done (some (dn a b (out++(b.extract t nb).reverse) na t),na,t,out++(b.extract t nb).reverse,g,k,nb-t))else gl4 a b na t (out++(b.extract t nb).reverse) g k (nb-t)else gl4 a b na nb out g k (nb-t)|_=>pure (ForInStep.done (some (dn a b out na nb),na,nb,out,g,k,bc))
def gl2(a b:Array Keyed)(na nb:Nat)(out:Array Keyed)(g k bc:Nat):Sm (ForInStep H2):=do let y<-elem' b (nb-1)if(nb-1==1)=true then pure (ForInStep.done (some (fb a b (out.push y) na (nb-1)),na,nb-1,out.push y,g,k,bc))else gl3 a b na (nb-1) (out.push y) g k bc
def Ϩ(a b:Array Keyed)(na nb:Nat)(out:Array Keyed)(g ac bc:Nat):Sm (ForInStep H2):=do mq g let y<-elem' b (nb-1)let r<-iC false y a 0 na (na-1)match r with|some t=>if na-t>0 then if(t==0)=true then pure (ForInStep.done (some (dn a b (out++(a.extract t na).reverse) t nb),t,nb,out++(a.extract t na).reverse,g,na-t,bc))else gl2 a b t nb (out++(a.extract t na).reverse) g (na-t) bc else gl2 a b na nb out g (na-t) bc|_=>pure (ForInStep.done (some (dn a b out na nb),na,nb,out,g,ac,bc))
def gal(a b:Array Keyed)(na nb:Nat)(out:Array Keyed)(g ac bc:Nat):Sm (ForInStep H2):=if g>1 then Ϩ a b na nb out (g-1) ac bc else Ϩ a b na nb out g ac bc
def round(a b:Array Keyed)(na nb:Nat)(out:Array Keyed)(g:Nat):Sm (ForInStep H0):=do let c<-forIn [0:a.size+b.size] ((none,na,nb,out,0,0):H1) λ_ c=>one a b g c.2.1 c.2.2.1 c.2.2.2.1 c.2.2.2.2.1 c.2.2.2.2.2 match c.1 with|some r=>pure (ForInStep.done (some r,c.2.1,c.2.2.1,c.2.2.2.1,g))|none=>do liftM (rule "list.sort.gallop")let d<-forIn [0:a.size+b.size] ((none,c.2.1,c.2.2.1,c.2.2.2.1,g+1,c.2.2.2.2.1,c.2.2.2.2.2):H2) λ_ d=>gal a b d.2.1 d.2.2.1 d.2.2.2.1 d.2.2.2.2.1 d.2.2.2.2.2.1 d.2.2.2.2.2.2 match d.1 with|some r=>pure (ForInStep.done (some r,d.2.1,d.2.2.1,d.2.2.2.1,d.2.2.2.2.1))|none=>do mq (d.2.2.2.2.1+1)pure (ForInStep.yield (none,d.2.1,d.2.2.1,d.2.2.2.1,d.2.2.2.2.1+1))
theorem O2(a b:Array Keyed):mz a b=(do liftM (rule "list.sort.merge-hi")let e<-elem' a (a.size-1)if(a.size-1==0)=true then pure (dn a b #[e] (a.size-1) b.size)else if(b.size==1)=true then pure (fb a b #[e] (a.size-1) b.size)else do let s<-get let c<-forIn [0:a.size+b.size] ((none,a.size-1,b.size,#[e],gallopOf s):H0) λ_ c=>round a b c.2.1 c.2.2.1 c.2.2.2.1 c.2.2.2.2 match c.1 with|some r=>pure r|none=>liftM (unsupported "internal:list.sort.merge-bound")):=by
 delta mz;refine bc rfl (funext λu=>bc rfl (funext λe=>ic rfl (ic rfl (bc rfl (funext λs=>bc (fi (funext λx=>funext λc=>?_)) (funext λc=>?_))))))
 .unfold round;refine bc (fi (funext λx=>funext λc1=>?_)) (funext λc1=>?_);.unfold one;refine bc rfl (funext λy=>bc rfl (funext λx=>bc rfl (funext λr=>?_)));cases r with|none=>rfl;|some w=>exact ic (bc rfl (funext λy=>ic rfl (ic rfl rfl))) (bc rfl (funext λy=>ic rfl (ic rfl rfl)))
  .obtain⟨r,c1⟩:=c1;cases r with|some r=>rfl;|none=>
    refine bc rfl (funext λu=>bc (fi (funext λx=>funext λd=>?_)) (funext λd=>?_));.unfold gal;refine ic ?_ ?_<;>(unfold Ϩ;exact bc rfl (funext λu=>bc rfl (funext λy=>bc rfl (funext λr=>by rfl))))
    .obtain⟨r,d⟩:=d;cases r<;>rfl
 .obtain⟨r,c⟩:=c;cases r<;>rfl
theorem J9(a:Array Keyed)(n:Nat):(a.extract 0 n).toList=a.toList.take n:=by simp
theorem ext_cut(a:Array Keyed)(t n:Nat):(a.extract t n).toList=(a.toList.take n).drop t:=by rw[my,List.drop_take]
theorem wH(out:Array Keyed)(x:Keyed):(out.push x).reverse.toList=x::out.reverse.toList:=by simp
theorem Ak(out seg:Array Keyed):(out++seg.reverse).reverse.toList=seg.toList++out.reverse.toList:=by simp
def Mh(a b out:Array Keyed)(na nb:Nat):Prop:=(a.toList.take na++(b.toList.take nb++out.reverse.toList)).Perm (a.toList++b.toList)
theorem il{l:List Keyed}(h:t<=n):l.take n=l.take t++(l.take n).drop t:=by have e:=zBe t (l.take n);rw[List.take_take,show min t n=t by lia]at e;exact e.symm
theorem O4{a b:Array Keyed}(m:(a.toList.take na++(b.toList.take nb++o)).Perm out)(h:t<=na)(e:(a.toList.take na).drop t=seg):(a.toList.take t++(b.toList.take nb++(seg++o))).Perm out:=by rw[il h,e,Ń]at m;exact((List.perm_append_comm_assoc _ _ _).append_left _).trans m
theorem O5{a b:Array Keyed}(m:(a.toList.take na++(b.toList.take nb++o)).Perm out)(h:t<=nb)(e:(b.toList.take nb).drop t=seg):(a.toList.take na++(b.toList.take t++(seg++o))).Perm out:=by rw[il (l:=b.toList) h,e,Ń]at m;exact m
structure At(a b out:Array Keyed)(na nb:Nat):Prop where
 mi:Mh a b out na nb
 a1:1<=na
 a2:na<=a.size
 b1:2<=nb
 b2:nb<=b.size
theorem ji{Ok:Keyed->Prop}{a:Array Keyed}(ka:∀p∈a.toList,Ok p)(h1:1<=n)(h2:n<=a.size):∃p,a[n-1]?=some p/\Ok p/\(a.toList.take n).drop (n-1)=[p]:=by obtain⟨p,p1,p2,p4⟩:=item ka (i:=n-1) Â;refine⟨p,p1,p2,?_⟩;rw[List.drop_take,p4,show n-(n-1)=1 by lia];rfl
theorem pushA(m:Mh a b out na nb)(e:(a.toList.take na).drop (na-1)=[x]):Mh a b (out.push x) (na-1) nb:=by unfold Mh;rw[wH];exact O4 m Â e
theorem pushB(m:Mh a b out na nb)(e:(b.toList.take nb).drop (nb-1)=[x]):Mh a b (out.push x) na (nb-1):=by unfold Mh;rw[wH];exact O5 m Â e
theorem segA(m:Mh a b out na nb)(ht:t<=na):Mh a b (out++(a.extract t na).reverse) t nb:=by unfold Mh;rw[Ak,ext_cut];exact O4 m ht rfl
theorem segB(m:Mh a b out na nb)(ht:t<=nb):Mh a b (out++(b.extract t nb).reverse) na t:=by unfold Mh;rw[Ak,ext_cut];exact O5 m ht rfl
theorem e_d(m:Mh a b out na nb):Rs a b (dn a b out na nb):=by unfold Mh at m;unfold Rs dn;rw[ϫ,ϫ,J9,J9,Ń];exact m
theorem e_f(m:Mh a b out na nb):Rs a b (fb a b out na nb):=by unfold Mh at m;unfold Rs fb;rw[ϫ,ϫ,J9,J9,Ń];exact(List.perm_append_comm_assoc _ _ _).trans m
section
theorem yO(hL:LtAll prog w A E s Ok ks)(T:Two Ok a b){g na nb ac bc:Nat}{st:SortSt}(hk:kindOf st=ks)(m:At a b out na nb):wpS (model prog w) A E s (one a b g na nb out ac bc) (λr Ð=>Ð=st/\match r with|.done c=>(∃z,c.1=some z/\Rs a b z)\/(c.1=none/\At a b c.2.2.2.1 c.2.1 c.2.2.1/\c.2.1+c.2.2.1+1=na+nb)|.yield c=>c.1=none/\At a b c.2.2.2.1 c.2.1 c.2.2.1/\c.2.1+c.2.2.1+1=na+nb) st:=by
 obtain⟨mi,a1,a2,b1,b2⟩:=m;obtain⟨x,x1,x2,x4⟩:=ji T.ka a1 a2;obtain⟨y,y1,y2,y4⟩:=ji T.kb (show 1<=nb by lia) b2;unfold one;refine â (bL y1 (â (bL x1 (â (hL st hk _ _ _ y2 x2 λe=>?_)))))
 cases e with|true=>
  dsimp only;refine â (bL x1 ?_);have m':=pushA mi x4;by_cases h0:na-1=0;.rw[Í (by simpa using h0)];exact è ⟨rfl,.inl ⟨_,rfl,e_d m'⟩⟩
  .rw[Ë (by simpa using h0)];have at':At a b (out.push x) (na-1) nb:=⟨m',Â,Â,b1,b2⟩;split;.exact è ⟨rfl,.inr ⟨rfl,at',by dsimp only;lia⟩⟩
   .exact è ⟨rfl,rfl,at',by dsimp only;lia⟩;|false=>
  dsimp only;refine â (bL y1 ?_);have m':=pushB mi y4;by_cases h0:nb-1=1;.rw[Í (by simpa using h0)];exact è ⟨rfl,.inl ⟨_,rfl,e_f m'⟩⟩
  .rw[Ë (by simpa using h0)];have at':At a b (out.push y) na (nb-1):=⟨m',a1,a2,Â,Â⟩;split;.exact è ⟨rfl,.inr ⟨rfl,at',by dsimp only;lia⟩⟩
   .exact è ⟨rfl,rfl,at',by dsimp only;lia⟩
def G2(a b:Array Keyed)(n:Nat)(st:SortSt)(r:ForInStep H2)(Ð:SortSt):Prop:=SG st Ð/\match r with|.done c=>(∃z,c.1=some z/\Rs a b z)\/(c.1=none/\At a b c.2.2.2.1 c.2.1 c.2.2.1/\c.2.1+c.2.2.1<n)|.yield c=>c.1=none/\At a b c.2.2.2.1 c.2.1 c.2.2.1/\c.2.1+c.2.2.1<n
theorem qx(T:Two Ok a b){aT st:SortSt}(sg:SG aT st)(m:At a b out na nb)(hn:na+nb<=n):wpS (model prog w) A E s (gl4 a b na nb out g k k1) (G2 a b n aT) st:=by
 obtain⟨mi,a1,a2,b1,b2⟩:=m;obtain⟨x,x1,x2,x4⟩:=ji T.ka a1 a2;refine â (bL x1 ?_);have m':=pushA mi x4;by_cases h0:na-1=0;.rw[Í (by simpa using h0)];exact è ⟨sg,.inl ⟨_,rfl,e_d m'⟩⟩
 .rw[Ë (by simpa using h0)];have at':At a b (out.push x) (na-1) nb:=⟨m',Â,Â,b1,b2⟩;split;.exact è ⟨sg,.inr ⟨rfl,at',by dsimp only;lia⟩⟩
  .exact è ⟨sg,rfl,at',by dsimp only;lia⟩
theorem yP(hL:LtAll prog w A E s Ok ks)(T:Two Ok a b){g na nb k bc n:Nat}{aT st:SortSt}(hk:kindOf st=ks)(sg:SG aT st)(m:At a b out na nb)(hn:na+nb<=n):wpS (model prog w) A E s (gl3 a b na nb out g k bc) (G2 a b n aT) st:=by
 obtain⟨mi,a1,a2,b1,b2⟩:=id m;obtain⟨x,x1,x2,x4⟩:=ji T.ka a1 a2;unfold gl3;refine â (bL x1 ?_);refine â (gn (hL st hk) x2 Â (λi hi=>?_) λt kn=>?_);.obtain⟨p,p1,p2,_⟩:=item T.kb (i:=0+i) Â;exact⟨p,p1,p2⟩
 .by_cases h0:nb-t>0
  .dsimp only;rw[Í h0];have m':=segB mi (show t<=nb by lia);by_cases e:t=1;.rw[Í (by simpa using e)];exact è ⟨sg,.inl ⟨_,rfl,e_f m'⟩⟩
   .rw[Ë (by simpa using e)];by_cases e2:t=0;.rw[Í (by simpa using e2)];exact è ⟨sg,.inl ⟨_,rfl,e_d m'⟩⟩
    .rw[Ë (by simpa using e2)];exact qx T sg ⟨m',a1,a2,Â,Â⟩ Â
  .dsimp only;rw[Ë h0];exact qx T sg m hn
theorem qy(hL:LtAll prog w A E s Ok ks)(T:Two Ok a b){g na nb k bc n:Nat}{aT st:SortSt}(hk:kindOf st=ks)(sg:SG aT st)(m:At a b out na nb)(hn:na+nb<=n):wpS (model prog w) A E s (gl2 a b na nb out g k bc) (G2 a b n aT) st:=by
 obtain⟨mi,a1,a2,b1,b2⟩:=m;obtain⟨y,y1,y2,y4⟩:=ji T.kb (show 1<=nb by lia) b2;refine â (bL y1 ?_);have m':=pushB mi y4;by_cases h0:nb-1=1;.rw[Í (by simpa using h0)];exact è ⟨sg,.inl ⟨_,rfl,e_f m'⟩⟩
 .rw[Ë (by simpa using h0)];exact yP hL T hk sg ⟨m',a1,a2,Â,Â⟩ Â
theorem yQ(hL:LtAll prog w A E s Ok ks)(T:Two Ok a b){g na nb ac bc n:Nat}{aT st:SortSt}(hk:kindOf st=ks)(sg:SG aT st)(m:At a b out na nb)(hn:na+nb<=n):wpS (model prog w) A E s (Ϩ a b na nb out g ac bc) (G2 a b n aT) st:=by
 obtain⟨mi,a1,a2,b1,b2⟩:=id m;obtain⟨y,y1,y2,y4⟩:=ji T.kb (show 1<=nb by lia) b2;refine â (jQ λÐ DC=>?_);have eB:kindOf Ð=ks:=DC.kind.trans hk;have cm:SG aT Ð:=sg.trans DC;refine â (bL y1 ?_);refine â (gn (hL Ð eB) y2 Â (λi hi=>?_) λt kn=>?_);.obtain⟨p,p1,p2,_⟩:=item T.ka (i:=0+i) Â;exact⟨p,p1,p2⟩
 .by_cases h0:na-t>0
  .dsimp only;rw[Í h0];have m':=segA mi (show t<=na by lia);by_cases e:t=0;.rw[Í (by simpa using e)];exact è ⟨cm,.inl ⟨_,rfl,e_d m'⟩⟩
   .rw[Ë (by simpa using e)];exact qy hL T eB cm ⟨m',Â,Â,b1,b2⟩ Â
  .dsimp only;rw[Ë h0];exact qy hL T eB cm m hn
theorem qz(hL:LtAll prog w A E s Ok ks)(T:Two Ok a b){aT st:SortSt}(hk:kindOf st=ks)(sg:SG aT st)(m:At a b out na nb):wpS (model prog w) A E s (round a b na nb out g) (λr Ð=>SG aT Ð/\match r with|.done c=>∃z,c.1=some z/\Rs a b z|.yield c=>c.1=none/\At a b c.2.2.2.1 c.2.1 c.2.2.1/\c.2.1+c.2.2.1<na+nb) st:=by
 have Ur:0<a.size+b.size:=by have:=m.a1;have:=m.a2;lia
 refine â (wpS_mono (wpS_forRange (I:=λx c Ð=>Ð=st/\c.1=none/\At a b c.2.2.2.1 c.2.1 c.2.2.1/\c.2.1+c.2.2.1+x=na+nb) (Q:=λc Ð=>Ð=st/\((∃z,c.1=some z/\Rs a b z)\/(c.1=none/\At a b c.2.2.2.1 c.2.1 c.2.2.1/\c.2.1+c.2.2.1<na+nb))) ?_ ?_ ⟨rfl,rfl,m,rfl⟩) ?_)
 .rintro x⟨c0,i,j,o,ac,bc⟩Ð _ hx⟨rfl,rfl,m',e⟩;dsimp only at m' e⊢;refine wpS_mono (yO hL T hk m') λr st2 h2=>?_;obtain⟨rfl,h2⟩:=h2
  cases r with|done c=>
   rcases h2 with h2|⟨h2,h3,h4⟩;.exact⟨rfl,.inl h2⟩
   .exact⟨rfl,.inr ⟨h2,h3,Â⟩⟩;|yield c=>obtain⟨h2,h3,h4⟩:=h2;exact⟨rfl,h2,h3,Â⟩
 .rintro c Ð⟨rfl,h1,h2,h3⟩;exact⟨rfl,.inr ⟨h1,h2,Â⟩⟩
 .rintro⟨c0,i,j,o,ac,bc⟩Ð⟨rfl,h⟩;dsimp only at h⊢;rcases h with⟨z,rfl,hz⟩|⟨rfl,m',wt⟩;.exact è ⟨sg,z,rfl,hz⟩
  .dsimp only;refine â (wpS_lift (wpAny_rule ⟨rfl,?_⟩));refine â (wpS_mono (wpS_forRange (I:=λx c st2=>SG aT st2/\c.1=none/\At a b c.2.2.2.1 c.2.1 c.2.2.1/\c.2.1+c.2.2.1<na+nb) (Q:=λc st2=>SG aT st2/\((∃z,c.1=some z/\Rs a b z)\/(c.1=none/\At a b c.2.2.2.1 c.2.1 c.2.2.1/\c.2.1+c.2.2.1<na+nb))) ?_ ?_ ⟨sg,rfl,m',wt⟩) ?_)
   .rintro x⟨c0,i,j,o,g2,ac,bc⟩st2 _ hx⟨cm,rfl,m2,e2⟩;dsimp only at m2 e2⊢;have KP:kindOf st2=ks:=cm.kind.trans (sg.kind.symm.trans hk);have go:∀g',wpS (model prog w) A E s (Ϩ a b i j o g' ac bc) (G2 a b (na+nb) aT) st2:=λg'=>yQ hL T KP cm m2 Â;unfold gal;split;.refine wpS_mono (go _) λr iX h3=>?_;obtain⟨h3,h4⟩:=h3;cases r with|done c=>exact⟨h3,h4⟩;|yield c=>exact⟨h3,h4⟩
    .refine wpS_mono (go _) λr iX h3=>?_;obtain⟨h3,h4⟩:=h3;cases r with|done c=>exact⟨h3,h4⟩;|yield c=>exact⟨h3,h4⟩
   .rintro c st2⟨h0,h1,h2,h3⟩;exact⟨h0,.inr ⟨h1,h2,h3⟩⟩
   .rintro⟨c0,i,j,o,g2,ac,bc⟩st2⟨cm,h⟩;dsimp only at h⊢;rcases h with⟨z,rfl,hz⟩|⟨rfl,m2,yb⟩;.exact è ⟨cm,z,rfl,hz⟩
    .dsimp only;refine â (jQ λiX qE=>è ⟨⟨qE.kind.trans cm.kind,qE.arr.trans cm.arr,qE.pend.trans cm.pend,qE.fail.trans cm.fail⟩,rfl,m2,yb⟩)
theorem hi_wp(hL:LtAll prog w A E s Ok ks)(T:Two Ok a b)(ha:0<a.size)(hb:0<b.size){st:SortSt}(hk:kindOf st=ks)(h:∀r Ð,SG st Ð->Rs a b r->Q r Ð):wpS (model prog w) A E s (mz a b) Q st:=by
 rw[O2];obtain⟨x,x1,x2,x4⟩:=ji T.ka (n:=a.size) ha (ß _);refine â (wpS_lift (wpAny_rule ⟨rfl,?_⟩));refine â (bL x1 ?_);have m0:Mh a b #[] a.size b.size:=by unfold Mh;rw[Ϭ (by rw[Ş];exact ß _),Ϭ (by rw[Ş];exact ß _)];simp
 have m:Mh a b #[x] (a.size-1) b.size:=pushA m0 x4;by_cases e1:a.size-1=0;.rw[Í (by simpa using e1)];exact è (h _ st (SG.refl _) (e_d m))
 .rw[Ë (by simpa using e1)];by_cases e2:b.size=1;.rw[Í (by simpa using e2)];exact è (h _ st (SG.refl _) (e_f m))
  .rw[Ë (by simpa using e2)];refine â (wpS_get ?_);refine â (wpS_mono (wpS_forRange (I:=λx c Ð=>SG st Ð/\c.1=none/\At a b c.2.2.2.1 c.2.1 c.2.2.1/\c.2.1+c.2.2.1+x<a.size+b.size) (Q:=λc Ð=>SG st Ð/\∃z,c.1=some z/\Rs a b z) ?_ ?_ ⟨SG.refl _,rfl,⟨m,by dsimp only;lia,by dsimp only;lia,by dsimp only;lia,ß _⟩,by dsimp only;lia⟩) ?_);.rintro x⟨c0,i,j,o,g⟩Ð _ hx⟨sg,rfl,m',e⟩;dsimp only at m' e⊢;refine wpS_mono (qz hL T (sg.kind.trans hk) sg m') λr st2 h2=>?_;obtain⟨cm,h2⟩:=h2;cases r with|done c=>exact⟨cm,h2⟩;|yield c=>obtain⟨h2,h3,h4⟩:=h2;exact⟨cm,h2,h3,Â⟩
   .rintro c Ð⟨sg,h1,m',e⟩;exact absurd e Â
   .rintro⟨c0,i,j,o,g⟩Ð⟨sg,z,e,hz⟩;rw[e];exact è (h z Ð sg hz)
end
end Hi
open PySem PyProof.Rows
def over(arr:Array Keyed)(n:Nat)(l:List Keyed):Array Keyed:=l.zipIdx.foldl (λa p=>a.setIfInBounds (n+p.2) p.1) arr
theorem Al:∀(l:List Keyed)j n(arr:Array Keyed),n+j+l.length<=arr.size->(((l.zipIdx j).foldl (λa p=>a.setIfInBounds (n+p.2) p.1) arr).size=arr.size/\∀i,((l.zipIdx j).foldl (λa p=>a.setIfInBounds (n+p.2) p.1) arr)[i]?=if n+j<=i/\i<n+j+l.length then l[i-(n+j)]? else arr[i]?)
 |[],j,n,arr,_=>by refine⟨rfl,λi=>?_⟩;rw[Ë (by rw[List.length_nil];lia)];rfl;|p::l,j,n,arr,h=>by
  rw[ĳ]at h;rw[List.zipIdx_cons,List.foldl_cons];obtain⟨h1,h2⟩:=Al l (j+1) n (arr.setIfInBounds (n+j) p) (by rw[Array.size_setIfInBounds];lia);refine⟨by rw[h1,Array.size_setIfInBounds],λi=>?_⟩;rw[h2 i,ĳ,Array.getElem?_setIfInBounds];by_cases e:n+j=i;.subst e;rw[Ë Â,Í rfl,Í Â];simp
  .rw[Ë e];by_cases e2:n+(j+1)<=i/\i<n+(j+1)+l.length;.rw[Í e2,Í Â,show i-(n+j)=(i-(n+(j+1)))+1 by lia];rfl
   .rw[Ë e2,Ë Â]
theorem CN(h:n+l.length<=arr.size):(over arr n l).toList=arr.toList.take n++l++arr.toList.drop (n+l.length):=by
 obtain⟨h1,h2⟩:=Al l 0 n arr Â;refine List.ext_getElem? λi=>?_;rw[Zat];show((l.zipIdx 0).foldl (λa p=>a.setIfInBounds (n+p.2) p.1) arr)[i]?=_;have hl:arr.toList.length=arr.size:=Ş;rw[h2 i,Ń,List.getElem?_append,Ĵ,hl,show min n arr.size=n by lia,List.getElem?_append];by_cases e1:i<n;.rw[Ë Â,Í e1,List.getElem?_take,Í e1,Zat]
 .rw[Ë e1];by_cases e2:i<n+l.length;.rw[Í Â,Í Â];rfl
  .rw[Ë Â,Ë Â,List.getElem?_drop,Zat];congr 1;lia
theorem O6(i:Nat):mergeAt' i=(do let s<-get match(pendingOf s)[i]?,(pendingOf s)[i+1]? with
 |some p,some q=>do set (setPending s (((pendingOf s).setIfInBounds i (p.1,p.2.1+q.2.1,p.2.2)).eraseIdxIfInBounds (i+1)))let y<-elem' (arrOf s) q.1 let r<-iC false y (arrOf s) p.1 p.2.1 0 match r with
   |some k=>if(p.2.1-k==0)=true then pure true else do
 let x<-elem' (arrOf s) (p.1+k+(p.2.1-k)-1)let r<-iC true x (arrOf s) q.1 q.2.1 (q.2.1-1)
     match r with|some n=>if(n==0)=true then pure true else do
 let m<-if p.2.1-k<=n then mj ((arrOf s).extract (p.1+k) q.1) ((arrOf s).extract q.1 (q.1+n))else mz ((arrOf s).extract (p.1+k) q.1) ((arrOf s).extract q.1 (q.1+n))
       modify λs'=>setArr s' (over (arrOf s') (p.1+k) m.toList)let s'<-get
       pure (failedOf s').isNone|_=>pure false
   |_=>pure false
  |_,_=>liftM (unsupported "internal:list.sort.pending")):=by delta mergeAt';refine bc rfl (funext λs=>?_);generalize e1:(pendingOf s)[i]?=o1;generalize e2:(pendingOf s)[i+1]?=o2;cases o1 with|none=>cases o2<;>rfl;|some p=>cases o2 with|none=>rfl;|some q=>refine bc rfl (funext λu=>bc rfl (funext λy=>bc rfl (funext λr=>?_)));cases r with|none=>rfl;|some k=>refine ic rfl (bc rfl (funext λx=>bc rfl (funext λr=>?_)));cases r with|none=>rfl;|some n=>exact ic rfl (ic (bc rfl (funext λm=>rfl)) (bc rfl (funext λm=>rfl)))
theorem wI{l:List Keyed}(h:t<=n)(hn:n<=l.length):(l.take n).drop t++l.drop n=l.drop t:=by have e:=zBe n l;have:(l.take n++l.drop n).drop t=(l.take n).drop t++l.drop n:=List.drop_append_of_le_length (by rw[Ĵ];lia);rw[e]at this;exact this.symm
section
theorem O7(hL:LtAll prog w A E s Ok ks)(h0:∀p∈af.toList,Ok p){st:SortSt}(B:SB ks af st)(e1:(pendingOf st)[i]?=some (sa,na,pw))(e2:(pendingOf st)[i+1]?=some (sa+na,nb,OS))(n1:1<=na)(n2:1<=nb)(hz:sa+na+nb<=af.size)(h:∀Ð,SB ks af Ð->pendingOf Ð=((pendingOf st).setIfInBounds i (sa,na+nb,pw)).eraseIdxIfInBounds (i+1)->Q true Ð):wpS (model prog w) A E s (mergeAt' i) Q st:=by
 rw[O6];refine â (wpS_get ?_);rw[e1,e2];dsimp only;have kA:∀p∈(arrOf st).toList,Ok p:=λp hp=>h0 p ((Zbc.mp B.pm).mem_iff.mp hp);have hsz:(arrOf st).size=af.size:=B.size;have gz:(arrOf st).toList.length=af.size:=by rw[Ş,hsz]
 obtain⟨P,eP⟩:∃P,P=((pendingOf st).setIfInBounds i (sa,na+nb,pw)).eraseIdxIfInBounds (i+1):=⟨_,rfl⟩;rw[<-eP]at h⊢;have KS:∀{R:PUnit->SortSt->Prop},R ⟨⟩ (setPending st P)->wpS (model prog w) A E s (set (setPending st P):Sm PUnit) R st:=λhR=>by unfold wpS;rw[StateT.run_set];exact Ý ⟨rfl,hR⟩
 refine â (KS ?_);obtain⟨st1,qS⟩:∃st1,st1=setPending st P:=⟨_,rfl⟩;have k1:kindOf st1=ks:=by rw[qS];exact B.kind
 have a1:arrOf st1=arrOf st:=by rw[qS]
 have p1:pendingOf st1=P:=by rw[qS]
 have f1:failedOf st1=none:=by rw[qS];exact B.ok
 rw[<-qS];have all:SB ks af st1:=⟨k1,f1,by rw[a1];exact B.pm⟩;obtain⟨y,y1,y2,y4⟩:=item kA (i:=sa+na) Â;refine â (bL y1 ?_);refine â (gn (hL st1 k1) y2 Â (λj hj=>?_) λk kn=>?_);.obtain⟨p,q1,q2,_⟩:=item kA (i:=sa+j) Â;exact⟨p,q1,q2⟩
 .dsimp only;by_cases KL:na-k=0;.rw[Í (by simpa using KL)];exact è (h st1 all p1)
  .rw[Ë (by simpa using KL)];rw[show sa+k+(na-k)-1=sa+na-1 by lia];obtain⟨x,x1,x2,x4⟩:=item kA (i:=sa+na-1) Â;refine â (bL x1 ?_);refine â (gn (hL st1 k1) x2 Â (λj hj=>?_) λn nn=>?_);.obtain⟨p,q1,q2,_⟩:=item kA (i:=sa+na+j) Â;exact⟨p,q1,q2⟩
   .dsimp only;by_cases OT:n=0;.rw[Í (by simpa using OT)];exact è (h st1 all p1)
    .rw[Ë (by simpa using OT)];obtain⟨X,eX⟩:∃X,X=(arrOf st).extract (sa+k) (sa+na):=⟨_,rfl⟩;obtain⟨Y,eY⟩:∃Y,Y=(arrOf st).extract (sa+na) (sa+na+n):=⟨_,rfl⟩;rw[<-eX,<-eY];have lX:X.toList=((arrOf st).toList.take (sa+na)).drop (sa+k):=by rw[eX,Hi.ext_cut]
     have lY:Y.toList=((arrOf st).toList.take (sa+na+n)).drop (sa+na):=by rw[eY,Hi.ext_cut]
     have zX:X.size=na-k:=by rw[<-Ş,lX,Zav,Ĵ,gz];lia
     have zY:Y.size=n:=by rw[<-Ş,lY,Zav,Ĵ,gz];lia
     have TT:Two Ok X Y:=⟨λp hp=>kA p (by rw[lX]at hp;exact Zaq (List.mem_of_mem_drop hp)),λp hp=>kA p (by rw[lY]at hp;exact Zaq (List.mem_of_mem_drop hp))⟩;have fin:∀m st2,SG st1 st2->Rs X Y m->wpS (model prog w) A E s (do
 modify λs'=>setArr s' (over (arrOf s') (sa+k) m.toList)let s'<-get
       pure (failedOf s').isNone) Q st2:=λm st2 sg D=>by
      refine â (wpS_modify (â (wpS_get (è ?_))));have ft:(failedOf (setArr st2 (over (arrOf st2) (sa+k) m.toList))).isNone=true:=by show(failedOf st2).isNone=true;rw[sg.fail,f1];rfl
      rw[ft];have am:arrOf st2=arrOf st:=sg.arr.trans a1;have lm:m.toList.length=na-k+n:=by rw[D.length_eq,õ,Ş,Ş,zX,zY]
      have ol:(over (arrOf st) (sa+k) m.toList).toList=(arrOf st).toList.take (sa+k)++m.toList++(arrOf st).toList.drop (sa+na+n):=by rw[CN (by rw[lm,hsz];lia),lm,show sa+k+(na-k+n)=sa+na+n by lia]
      have DD:(over (arrOf st) (sa+k) m.toList).toList.Perm (arrOf st).toList:=by
       rw[ol];have e:(arrOf st).toList=(arrOf st).toList.take (sa+k)++(X.toList++Y.toList)++(arrOf st).toList.drop (sa+na+n):=by rw[lX,lY];have c1:=wI (l:=(arrOf st).toList) (t:=sa+na) (n:=sa+na+n) Â (by rw[gz];lia);have c2:=wI (l:=(arrOf st).toList) (t:=sa+k) (n:=sa+na) Â (by rw[gz];lia);rw[Ń,Ń,c1,c2,zBe]
       conv=>rhs;rw[e]
       exact List.Perm.append_right _ (List.Perm.append_left _ D)
      refine h _ ⟨sg.kind.trans k1,by show failedOf st2=none;rw[sg.fail,f1],?_⟩ (sg.pend.trans p1);show(over (arrOf st2) (sa+k) m.toList).Perm af;rw[am];exact(Zbc.mpr DD).trans B.pm
     by_cases hc:na-k<=n;.rw[Í hc];exact â (O1 hL TT Â Â k1 λm st2 sg D=>fin m st2 sg D)
     .rw[Ë hc];exact â (Hi.hi_wp hL TT Â Â k1 λm st2 sg D=>fin m st2 sg D)
end
abbrev Run:=Nat×Nat×Nat
def Ch:List Run->Nat->Nat->Prop|[],a,b=>a=b|r::l,a,b=>r.1=a/\1<=r.2.1/\Ch l (a+r.2.1) b
theorem Ch.le:∀{l:List Run}{a b:Nat},Ch l a b->a+l.length<=b|[],a,b,h=>by have h:a=b:=h;simp[h];|r::l,a,b,h=>by have:=Ch.le h.2.2;have:=h.2.1;rw[ĳ];lia
theorem Ch.split:∀{l1 l2:List Run}{a b:Nat},Ch (l1++l2) a b↔∃m,Ch l1 a m/\Ch l2 m b
 |[],l2,a,b=>⟨λh=>⟨a,rfl,h⟩,λhZ=>by obtain⟨m,h1,h2⟩:=hZ;rw[h1];exact h2⟩|r::l1,l2,a,b=>by
  constructor;.intro h;obtain⟨m,h1,h2⟩:=Ch.split.mp h.2.2;exact⟨m,⟨h.1,h.2.1,h1⟩,h2⟩
  .rintro⟨m,h1,h2⟩;exact⟨h1.1,h1.2.1,Ch.split.mpr ⟨m,h1.2.2,h2⟩⟩
theorem CP{p:Array Run}(h:i+1<p.size):((p.setIfInBounds i v).eraseIdxIfInBounds (i+1)).toList=p.toList.take i++v::p.toList.drop (i+2):=by
 have hl:p.toList.length=p.size:=Ş;have e1:(p.setIfInBounds i v).eraseIdxIfInBounds (i+1)=(p.setIfInBounds i v).eraseIdx (i+1) (by rw[Array.size_setIfInBounds];exact h):=by grind
 rw[e1,Array.toList_eraseIdx,Array.toList_setIfInBounds,List.eraseIdx_eq_take_drop_succ,List.take_set,List.drop_set,Í Â];have e2:p.toList.take (i+1)=p.toList.take i++[p.toList[i]'Â]:=by rw[ī,à Â];rfl
 rw[e2,List.set_append_right _ _ (by rw[Ĵ];lia)];rw[Ĵ,show i-min i p.toList.length=0 by lia];simp
section
structure St(ks:SortKind)(af:Array Keyed)(st:SortSt)(lo:Nat):Prop where
 base:SB ks af st
 ch:Ch (pendingOf st).toList 0 lo
 le:lo<=af.size
theorem wJ(hL:LtAll prog w A E s Ok ks)(h0:∀p∈af.toList,Ok p){st:SortSt}{lo i:Nat}(S:St ks af st lo)(hi:i+1<(pendingOf st).size)(h:∀Ð,St ks af Ð lo->(pendingOf Ð).size+1=(pendingOf st).size->Q true Ð):wpS (model prog w) A E s (mergeAt' i) Q st:=by
 have hl:(pendingOf st).toList.length=(pendingOf st).size:=Ş;have d1:(pendingOf st).toList.drop i=(pendingOf st).toList[i]'Â::(pendingOf st).toList.drop (i+1):=Zar Â;have d2:(pendingOf st).toList.drop (i+1)=(pendingOf st).toList[i+1]'Â::(pendingOf st).toList.drop (i+2):=Zar Â;have g1:(pendingOf st)[i]?=some ((pendingOf st).toList[i]'Â):=by rw[<-Zat,à Â]
 have g2:(pendingOf st)[i+1]?=some ((pendingOf st).toList[i+1]'Â):=by rw[<-Zat,à Â]
 obtain⟨⟨sa,na,pw⟩,ep⟩:∃r,r=(pendingOf st).toList[i]'Â:=⟨_,rfl⟩;obtain⟨⟨sb,nb,OS⟩,eq⟩:∃r,r=(pendingOf st).toList[i+1]'Â:=⟨_,rfl⟩;rw[<-ep]at d1 g1;rw[<-eq]at d2 g2;have c:=S.ch;rw[<-zBe i (pendingOf st).toList,d1,d2]at c;obtain⟨m,c1,c2⟩:=Ch.split.mp c;obtain⟨q1,q2,q4,q5,q7⟩:=c2;dsimp only at q1 q2 q4 q5 q7;subst q1;subst q4;have lb:=Ch.le q7;refine O7 hL h0 S.base g1 g2 q2 q5 (by have:=S.le;lia) λÐ B' P'=>?_;have pl:(pendingOf Ð).toList=(pendingOf st).toList.take i++(sa,na+nb,pw)::(pendingOf st).toList.drop (i+2):=by rw[P',CP hi]
 refine h Ð ⟨B',?_,S.le⟩ ?_;.rw[pl];refine Ch.split.mpr ⟨sa,c1,rfl,by dsimp only;lia,?_⟩;dsimp only;rw[<-Nat.add_assoc];exact q7
 .rw[<-Ş,pl,õ,ĳ,Ĵ,Zav];lia
def rest(z lo n:Nat):Sm (ForInStep (Option Unit×Nat)):=do let s<-get match(pendingOf s).back? with
 |some (s1,n1,_)=>do
 let c<-forIn [0:z] ((none,()):Option Unit×Unit) λ_ _=>do let s<-get match(if(pendingOf s).size>1 then(pendingOf s)[(pendingOf s).size-2]? else none)with|some (_,_,older)=>if older<=power' z (2*s1+n1) (2*s1+n1+n1+n) z then pure (ForInStep.done (none,()))else do let b<-mergeAt' ((pendingOf s).size-2)if(!b)=true then pure (ForInStep.done (some (),()))else pure (ForInStep.yield (none,()))|_=>pure (ForInStep.done (none,()))
  match c.1 with|some r=>pure (ForInStep.done (some r,lo))|none=>do modify λs=>setPending s ((pendingOf s).modify ((pendingOf s).size-1) λx=>(x.1,x.2.1,power' z (2*s1+n1) (2*s1+n1+n1+n) z))modify λs=>setPending s ((pendingOf s).push (lo,n,0))pure (ForInStep.yield (none,lo+n))
 |_=>do modify λs=>setPending s ((pendingOf s).push (lo,n,0))pure (ForInStep.yield (none,lo+n))
theorem Ch.pw(f:Run->Run)(hf:∀r,(f r).1=r.1/\(f r).2.1=r.2.1):∀{l:List Run}{a b i:Nat},Ch l a b->Ch (l.modify i f) a b|[],a,b,i,h=>by cases i<;>exact h;|r::l,a,b,0,h=>by obtain⟨e1,e2⟩:=hf r;refine⟨e1.trans h.1,by rw[e2];exact h.2.1,?_⟩;rw[e2];exact h.2.2;|r::l,a,b,i+1,h=>⟨h.1,h.2.1,Ch.pw f hf h.2.2⟩
theorem St.push{st:SortSt}{lo n:Nat}(S:St ks af st lo)(n1:1<=n)(hn:lo+n<=af.size):St ks af (setPending st ((pendingOf st).push (lo,n,0))) (lo+n):=by refine⟨⟨S.base.kind,S.base.ok,S.base.pm⟩,?_,hn⟩;rw[Array.toList_push];exact Ch.split.mpr ⟨lo,S.ch,rfl,n1,rfl⟩
theorem St.pw{st:SortSt}{lo i:Nat}(S:St ks af st lo)(f:Run->Run)(hf:∀r,(f r).1=r.1/\(f r).2.1=r.2.1):St ks af (setPending st ((pendingOf st).modify i f)) lo:=by refine⟨⟨S.base.kind,S.base.ok,S.base.pm⟩,?_,S.le⟩;rw[Array.toList_modify];exact S.ch.pw f hf
theorem Am(hL:LtAll prog w A E s Ok ks)(h0:∀p∈af.toList,Ok p){st:SortSt}{lo n x:Nat}(S:St ks af st lo)(n1:1<=n)(hn:lo+n<=af.size)(hx:x<=lo)(h:∀Ð,St ks af Ð (lo+n)->Q (.yield (none,lo+n)) Ð):wpS (model prog w) A E s (rest af.size lo n) Q st:=by unfold rest;refine â (wpS_get ?_);cases(pendingOf st).back? with|none=>exact â (wpS_modify (è (h _ (S.push n1 hn))));|some q=>
  obtain⟨s1,KU,p1⟩:=q;refine â (wpS_mono (wpS_forRange (I:=λ_ c Ð=>c=(none,())/\St ks af Ð lo) (Q:=λc Ð=>c=(none,())/\St ks af Ð lo) ?_ (λ_ _ z=>z) ⟨rfl,S⟩) ?_)
  .rintro y c Ð _ _⟨rfl,S'⟩;refine â (wpS_get ?_);by_cases h1:(pendingOf Ð).size>1
   .rw[Í h1];have hl:(pendingOf Ð).size-2<(pendingOf Ð).size:=Â;rw[Array.getElem?_eq_getElem hl];dsimp only;split;.exact è ⟨rfl,S'⟩
    .refine â (wJ hL h0 S' Â λst2 S2 _=>?_);exact è ⟨rfl,S2⟩
   .rw[Ë h1];exact è ⟨rfl,S'⟩
  .rintro c Ð⟨rfl,S'⟩;refine â (wpS_modify (â (wpS_modify (è (h _ ?_)))));exact(S'.pw (λx=>(x.1,x.2.1,power' af.size (2*s1+KU) (2*s1+KU+KU+n) af.size)) λ_=>⟨rfl,rfl⟩).push n1 hn
theorem ifl(c:Prop)[Decidable c](n:Nat):(if c then n-1 else n)<=n:=by split<;>lia
theorem runs_wp(hL:LtAll prog w A E s Ok ks)(h0:∀p∈af.toList,Ok p){st:SortSt}(B:SB ks af st)(hp:pendingOf st=#[])(h:∀Ð,SB ks af Ð->Q () Ð):wpS (model prog w) A E s sortRuns' Q st:=by
 rw[sortRuns'_eq];refine â (wpS_get ?_);dsimp only;rw[B.size];generalize minRun' af.size af.size 0=mr;refine â (wpS_mono (wpS_forRange (I:=λx c Ð=>c.1=none/\St ks af Ð c.2/\x<=c.2) (Q:=λc Ð=>c.1=none/\St ks af Ð af.size) ?_ ?_ ⟨rfl,⟨B,by rw[hp];rfl,ĥ _⟩,ß _⟩) ?_)
 .rintro x⟨c0,lo⟩Ð _ hx⟨rfl,S,tq⟩;dsimp only at S tq⊢;by_cases kH:lo≥af.size
  .rw[Í kH];have e:lo=af.size:=by have:=S.le;lia
   refine è ⟨rfl,?_⟩;rw[<-e];exact S
  .rw[Ë kH];refine â (FP hL h0 Â Â S.base λn st1 G1 n1 n2=>?_);dsimp only;have S1:St ks af st1 lo:=⟨G1.b,by rw[G1.p];exact S.ch,S.le⟩;have tr:∀{m m':Sm (ForInStep (Option Unit×Nat))}{R:ForInStep (Option Unit×Nat)->SortSt->Prop}{st2:SortSt},m=m'->wpS (model prog w) A E s m' R st2->wpS (model prog w) A E s m R st2:=λe h=>e▸h;by_cases hm:n<mr;.rw[Í hm];refine â (wpS_lift (wpAny_rule ⟨rfl,?_⟩));refine â (Ly hL h0 Â (Go.refl G1.b) λst2 G2=>?_);rw[Ë Û];refine tr ?_ (Am (n:=min (af.size-lo) mr) hL h0 ⟨G2.b,by rw[G2.p];exact S1.ch,S.le⟩ Â Â tq λiX S3=>⟨rfl,S3,by dsimp only;lia⟩);.skip;unfold rest;refine bc rfl (funext λs=>?_);cases(pendingOf s).back? with|none=>rfl;|some q=>
      obtain⟨s1,n1,p⟩:=q;refine bc (fi (funext λx=>funext λc=>bc rfl (funext λs=>?_))) (funext λc=>?_);.generalize(if(pendingOf s).size>1 then(pendingOf s)[(pendingOf s).size-2]? else none)=o;cases o with|none=>rfl;|some r=>obtain⟨r1,r2,r3⟩:=r;exact ic rfl (bc rfl (funext λb=>rfl))
      .obtain⟨r,u⟩:=c;cases r<;>rfl
   .rw[Ë hm];refine tr ?_ (Am (n:=n) hL h0 S1 n1 Â tq λiX S3=>⟨rfl,S3,by dsimp only;lia⟩);.skip;unfold rest;refine bc rfl (funext λs=>?_);cases(pendingOf s).back? with|none=>rfl;|some q=>
      obtain⟨s1,n1,p⟩:=q;refine bc (fi (funext λx=>funext λc=>bc rfl (funext λs=>?_))) (funext λc=>?_);.generalize(if(pendingOf s).size>1 then(pendingOf s)[(pendingOf s).size-2]? else none)=o;cases o with|none=>rfl;|some r=>obtain⟨r1,r2,r3⟩:=r;exact ic rfl (bc rfl (funext λb=>rfl))
      .obtain⟨r,u⟩:=c;cases r<;>rfl
 .rintro⟨c0,lo⟩Ð⟨h1,S,h2⟩;dsimp only at h1 S h2⊢;have e:lo=af.size:=by have:=S.le;lia
  rw[<-e];exact⟨h1,S⟩
 .rintro⟨c0,lo⟩Ð⟨h1,S⟩;dsimp only at h1;subst h1;dsimp only;have p0:(pendingOf Ð).size<=af.size:=by have:=Ch.le S.ch;rw[Ş]at this;lia
  refine â (wpS_mono (wpS_forRange (I:=λx c st2=>c=(none,())/\St ks af st2 af.size/\(pendingOf st2).size+x<=af.size) (Q:=λc st2=>c=(none,())/\St ks af st2 af.size/\(pendingOf st2).size<=1) ?_ ?_ ⟨rfl,S,Â⟩) ?_)
  .rintro x c st2 _ hx⟨rfl,S2,hJ⟩;refine â (wpS_get ?_);by_cases h1:(pendingOf st2).size<=1;.rw[Í h1];exact è ⟨rfl,S2,h1⟩
   .rw[Ë h1];refine â (wJ hL h0 S2 (Nat.lt_of_le_of_lt (Nat.succ_le_succ (ifl _ _)) (show(pendingOf st2).size-2+1<(pendingOf st2).size by lia)) λiX S3 z3=>?_);rw[Ë Û];exact è ⟨rfl,S3,Â⟩
  .rintro c st2⟨rfl,S2,hJ⟩;exact⟨rfl,S2,Â⟩
  .rintro c st2⟨rfl,S2,hJ⟩;exact è (h st2 S2.base)
end
end So
namespace L2
open PySem PySem.Spec PyProof.Rows PySem.Calls
section
open PySem.W
theorem FQ:∀{ns ms:WF}{us vs:ā}{i:Nat},Ï (ns.map V.int) us->Ï (ms.map V.int) vs->(∀r,Q r s)->KatLex prog w A true (decide (ns.length<ms.length)) Q (us.zip vs) i s
 |[],[],_,_,_,.nil,.nil,h=>h _|[],_::_,_,_,_,.nil,.cons _ _,h=>by refine kat_nil ?_;exact h _;|_::_,[],_,_,_,.cons _ _,.nil,h=>by refine kat_nil ?_;exact h _;|x::ns,y::ms,_,_,i,.cons r1 t1,.cons r2 t2,h=>by
  obtain⟨k1,rfl⟩:=r1;obtain⟨k2,rfl⟩:=r2;refine kat_cons (wpAny_eqBool_int ?_);by_cases e:x=y;.subst e;rw[show(x==x)=true from beq_self_eq_true x];refine kat_yes ?_;have:=FQ (prog:=prog) (w:=w) (A:=A) (i:=i+1) t1 t2 h;rw[show decide ((x::ns).length<(x::ms).length)=decide (ns.length<ms.length)by rw[ĳ,ĳ];exact decide_eq_decide.mpr Â];exact this
  .rw[show(x==y)=false from beq_false_of_ne e];refine kat_no ?_;cases hi:(true&&i==0)with|true=>exact oneLt_int (h _);|false=>exact kat_one _ _ (lt_int (h _))
theorem Ja{ns ms:WF}(hx:s.heap.get? x=some ox)(dx:ox.data=.seq us.toArray nx)(hy:s.heap.get? y=some oy)(dy:oy.data=.seq vs.toArray ny)(r1:Ï (ns.map V.int) us)(r2:Ï (ms.map V.int) vs)(h:∀r,Q r s):wpAny (model prog w) A (keyLt' (tuples' true) (.ref x) (.ref y)) Q E s:=by refine kat_lt hx dx hy dy ?_;have l1:=r1.length;have l2:=r2.length;rw[Ø]at l1 l2;have:=FQ (prog:=prog) (w:=w) (A:=A) (s:=s) (Q:=Q) (i:=0) r1 r2 h;rw[ē,ē,<-l1,<-l2];exact this
theorem Jb{R:ā->Prop}(lst:s.heap.IsList l vs.toArray)(fits:vs.length<=sizeLine)(small:vs.length<2->R vs)(big:2<=vs.length->∀g,(∀b o,s.heap.get? b=some o->g.get? b=some o)->wpAny (model prog w) A.in1.in1 (keyKind' vs.toArray) (λκ s1=>s1={s with heap:=g}/\wpS (model prog w) A.in1.in1 (λ_ _=>False) {s with heap:=g} sortRuns' (λ_ st=>failedOf st=none/\∃out,(arrOf st).map (·.2)=List.toArray out/\R out) (SortSt.mk' κ (vs.toArray.zip vs.toArray) #[] 7 none)) (λ_ _=>False) {s with heap:=g})(len:∀out,R out->out.length=vs.length)(fin:∀out,R out->∀h2 c,(∀b o,s.heap.get? b=some o->h2.get? b=some o)->h2.get? (s.heap.objs.size+1)=some (seqObj "list" out.toArray c)->Q (.ref (s.heap.objs.size+1)) {s with heap:=h2}):wpAny (model prog w) A (call (.builtin "sorted") [.ref l]) Q E s:=by
 refine call_function_entry kind_sorted plain_sorted entry_sorted (args_sorted1 _) ?_;unfold Builtin.«sorted»;refine Å (m:=checkCount "sorted" 1 1 _) (Ý (Å (collect_list lst ?_ fits)));refine Å (wpAny_newList ?_ fits);have mw:((s.heap.push (seqObj "list" #[] 0)).update s.heap.objs.size (Obj.mapSeq (·++vs.toArray))).objs.size=s.heap.objs.size+1:=by rw[Heap.size_update,Heap.size_push]
 obtain⟨g1,DE⟩:∃g1,g1=((s.heap.push (seqObj "list" #[] 0)).update s.heap.objs.size (Obj.mapSeq (·++vs.toArray))).push (seqObj "list" vs.toArray 0):=⟨_,rfl⟩;have kK:g1.get? (s.heap.objs.size+1)=some (seqObj "list" vs.toArray 0):=by rw[DE,<-mw];exact ı _ rfl
 have Us:∀b o,s.heap.get? b=some o->g1.get? b=some o:=λb o q=>by have lt:b<s.heap.objs.size:=ÿ q;rw[DE,Heap.get?_push_ne _ _ _ (by rw[mw];exact Ĩ (Nat.lt_succ_of_lt lt)),Heap.get?_update_ne _ _ _ _ (Ĩ lt),Heap.get?_push_ne _ _ _ (Ĩ lt)];exact q
 show wpAny _ _ _ _ _ {s with heap:=_};rw[mw,show((s.heap.push (seqObj "list" #[] 0)).update s.heap.objs.size (Obj.mapSeq (·++vs.toArray))).push (seqObj "list" vs.toArray 0)=g1 from DE.symm];refine Å (wpAny_holding (wpAny_call_entry slot_list_sort ⟨_,kK,rfl⟩ entry_list_sort ?body (args_list_sort _)));obtain⟨D,eD⟩:∃D,D=s.heap.objs.size+1:=⟨_,rfl⟩;rw[<-eD]at kK fin⊢;have apart:∀b o,s.heap.get? b=some o->b≠D:=λb o q e=>by have lt:b<s.heap.objs.size:=ÿ q;rw[e,eD]at lt;exact absurd lt (Nat.not_lt_of_le (Zbf _))
 obtain⟨g2,KW⟩:∃g2,g2=g1.update D (Obj.mapSeq λ_=>(#[]:Qa2)):=⟨_,rfl⟩;have DF:Heap.SameBut D g1 g2:=KW▸Heap.SameBut.update g1 D _;obtain⟨e1,at2⟩:∃e1,g2.get? D=some (seqObj "list" #[] e1):=⟨_,KW▸get?_update_seq kK λ_=>#[]⟩;obtain⟨g3,K0⟩:∃g3,g3=(g2.push (seqObj "tuple" vs.toArray 0)).push (seqObj "list" #[] 0):=⟨_,rfl⟩;have AR:g3.get? D=some (seqObj "list" #[] e1):=K0▸č _ (č _ at2);have Lc:∀b o,s.heap.get? b=some o->g3.get? b=some o:=λb o q=>K0▸č _ (č _ ((DF.2 b (apart b o q)).trans (Us b o q)));rw[list_sort_plain];refine Å (listItems_at kK rfl (Å (listUpdate_at kK rfl ?_ (by rw[ē];exact fits) (ĥ _))));rw[<-KW];refine Å (seqEpoch_at at2 rfl (Å (wpAny_newTuple (Å (wpAny_newList (wpAny_holding ?_) (ĥ _))) fits)));rw[<-K0];dsimp only;by_cases two:vs.toArray.size<2
 .have yk:vs.length<2:=by rw[ē]at two;exact two
  rw[Í two,Í two];refine Å (Ý ?_);refine Å (Ý ?_);dsimp only;have em:(vs.toArray.zip vs.toArray).map (·.2)=vs.toArray:=by apply Array.toList_inj.mp;simp only[Array.toList_map,Array.toList_zip];exact List.map_snd_zip (ß _)
  rw[em];refine Å (seqEpoch_at AR rfl (Å (listUpdate_at AR rfl ?_ (ĥ _) (by rw[ē];lia))));simp only[bne_self_eq_false,Bool.false_eq_true,if_false];have Ll:=Heap.SameBut.update g3 D (Obj.mapSeq λ_=>vs.toArray);exact Ý ⟨_,rfl,Ý ⟨_,rfl,fin vs (small yk) _ _ (λb o z=>(Ll.2 b (apart b o z)).trans (Lc b o z)) (get?_update_seq AR _)⟩⟩
 .have yk:2<=vs.length:=by rw[ē]at two;lia
  rw[Ë two,Ë two];refine Å (wpAny_mono (big yk g3 Lc) (λκ s1=>?_) λ_ _ x=>x.elim);rintro⟨qS,run⟩;subst qS;refine Å (wpAny_mono run ?_ λ_ _ x=>x.elim);rintro⟨⟨⟩,st⟩s2⟨Lm,OU,out,DH,hR⟩;subst Lm;dsimp only at OU DH⊢;rw[DH];refine Å (seqEpoch_at AR rfl (Å (listUpdate_at AR rfl ?_ (ĥ _) (by rw[ē,len out hR];lia))));rw[OU];simp only[bne_self_eq_false,Bool.false_eq_true,if_false];have Ll:=Heap.SameBut.update g3 D (Obj.mapSeq λ_=>out.toArray);exact Ý ⟨_,rfl,Ý ⟨_,rfl,fin out hR _ _ (λb o z=>(Ll.2 b (apart b o z)).trans (Lc b o z)) (get?_update_seq AR _)⟩⟩
theorem qC{ads:Č}{row:Addr->WF}:∀{l:Č},(∀a∈l,∃us o n,g.get? a=some o/\o.cls=.type "tuple"/\o.data=.seq us.toArray n/\Ï ((row a).map V.int) us/\row a≠[])->∃fs,KatTups g (l.map Value.ref) fs/\fs.length=l.length/\∀v∈fs,∃i t,v=.int i t|[],_=>⟨[],.nil,rfl,λ_ h=>absurd h Ù⟩|a::l,h=>by obtain⟨us,o,n,h1,h2,h3,h4,h5⟩:=h a (.head _);obtain⟨fs,k,hl,hi⟩:=qC (ads:=ads) (row:=row) (l:=l) λb hb=>h b (.tail _ hb);cases er:row a with|nil=>exact absurd er h5;|cons i r=>rw[er]at h4;cases h4 with|cons r1 t1=>
    obtain⟨t,rfl⟩:=r1;refine⟨_,.cons h1 h2 h3 (f:=.int i t) Ù k,by rw[ĳ,ĳ,hl],λv hv=>?_⟩;rcases ĩ.mp hv with z|z;.exact⟨i,t,z⟩
    .exact hi v z
theorem Jc{l:Č}{row:Addr->WF}(obj:∀a∈l,∃us o n,s.heap.get? a=some o/\o.cls=.type "tuple"/\o.data=.seq us.toArray n/\Ï ((row a).map V.int) us/\row a≠[])(hl:0<l.length)(h:Q (tuples' true) s):wpAny (model prog w) A (keyKind' (l.map Value.ref).toArray) Q E s:=by obtain⟨fs,kt,fl,fi⟩:=qC (ads:=l) (row:=row) obj;refine PySem.W.kat_kind (T:=.type "int") kt (by rw[fl];exact hl) (λv hv=>?_) Û h;obtain⟨i,t,rfl⟩:=fi v hv;exact .now
def O9(l:Č)(p:Keyed):Prop:=∃a∈l,p.1=.ref a
theorem yR{row:Addr->WF}(obj:∀a∈l,∃us o n,s.heap.get? a=some o/\o.cls=.type "tuple"/\o.data=.seq us.toArray n/\Ï ((row a).map V.int) us/\row a≠[]):So.LtAll prog w A E s (O9 l) (tuples' true):=λst hk x y Q' kx ky hQ=>by obtain⟨xa,c1,ex⟩:=kx;obtain⟨ya,c2,ey⟩:=ky;obtain⟨us1,o1,n1,g1,_,d1,r1,_⟩:=obj xa c1;obtain⟨us2,o2,n2,g2,_,d2,r2,_⟩:=obj ya c2;rw[lt'_eq];refine â (wpS_get ?_);rw[hk,ex,ey];refine â (wpS_lift (wpAny_attempt (Ja g1 d1 g2 d2 r1 r2 λr=>⟨rfl,?_⟩)));exact è (hQ r)
theorem wK(l:Č):((l.map Value.ref).toArray.zip (l.map Value.ref).toArray).toList=l.map λa=>(Value.ref a,Value.ref a):=by grind
theorem CQ(l:Č):∀p∈((l.map Value.ref).toArray.zip (l.map Value.ref).toArray).toList,O9 l p:=λz DJ=>by rw[wK]at DJ;obtain⟨a,ha,rfl⟩:=ñ.mp DJ;exact⟨a,ha,rfl⟩
def FT(p:Keyed):Addr:=match p.1 with|.ref a=>a|_=>0
theorem CT{row:Addr->WF}(obj:∀a∈l,∃(us:ā)(o:Obj)(n:Nat),s.heap.get? a=some o/\o.cls=.type "tuple"/\o.data=.seq us.toArray n/\Ï ((row a).map V.int) us/\row a≠[])(h:∀st(l':Č),failedOf st=none->(arrOf st).map (·.2)=List.toArray (l'.map Value.ref)->l'.Perm l->Q () st):wpS (model prog w) A E s sortRuns' Q (SortSt.mk' (tuples' true) ((l.map Value.ref).toArray.zip (l.map Value.ref).toArray) #[] 7 none):=by
 refine So.runs_wp (ks:=tuples' true) (yR obj) (CQ l) ⟨rfl,rfl,.refl _⟩ rfl λÐ B=>?_;have AS:=Zbc.mp B.pm;rw[wK]at AS;have e:(arrOf Ð).toList=((arrOf Ð).toList.map FT).map (λa=>(Value.ref a,Value.ref a)):=by
  rw[Ĳ];conv=>lhs;rw[<-List.map_id (arrOf Ð).toList]
  refine Zbg λz DJ=>?_;obtain⟨a,ha,rfl⟩:=ñ.mp (AS.mem_iff.mp DJ);rfl
 have pm:((arrOf Ð).toList.map FT).Perm l:=by have:=AS.map FT;rw[Ĳ]at this;rw[show(FT∘λa=>(Value.ref a,Value.ref a))=id from rfl,List.map_id]at this;exact this
 generalize(arrOf Ð).toList.map FT=l' at e pm;refine h Ð l' B.ok ?_ pm;apply Array.toList_inj.mp;rw[Array.toList_map,e,Ĳ];rfl
end
section
theorem nP:∀{l:Č}{us:ā},Ï (l.map V.ref) us->us=l.map Value.ref|[],_,.nil=>rfl|a::l,_,.cons r t=>by rw[nP t,show _=Value.ref a from r];rfl
theorem An:∀(l:Č),Ï (l.map V.ref) (l.map Value.ref)|[]=>.nil|_::l=>.cons rfl (An l)
theorem gA:eO X (.builtin "sorted") (λxs H Q=>∃(p:Addr)(l:Č)(row:Addr->WF),xs=[.ref p]/\Ê X.K H p (l.map V.ref)/\(∀a∈l,Î X.K H a ((row a).map V.int)/\row a≠[])/\∀q(l':Č),H q=none->q≠sysModules->l'.Perm l->Q (.ref q) (upd H q (.lst (l'.map V.ref)))):=by
 intro Á s σ H xs us Q I r h;obtain⟨p,l,row,rfl,hp,yn,q⟩:=h;obtain⟨u,rfl,ru⟩:=ü r;cases ru;obtain⟨Æ,rv,pl,hz⟩:=I.list hp;have ei:=nP rv;subst ei;have hlen:(l.map Value.ref).length<=sizeLine:=by rw[Ø]at hz⊢;exact hz
 have obj:∀a∈l,∃(us:ā)(o:Obj)(n:Nat),s.heap.get? a=some o/\o.cls=.type "tuple"/\o.data=.seq us.toArray n/\Ï ((row a).map V.int) us/\row a≠[]:=λa ha=>by obtain⟨ht,fy⟩:=yn a ha;obtain⟨as,ra,pa,_⟩:=I.tuple ht;obtain⟨oa,ga,ca,na,da⟩:=pa;exact⟨as,oa,na,ga,ca,da,ra,fy⟩
 refine Jb (R:=λout=>∃l':Č,out=l'.map Value.ref/\l'.Perm l) pl.isList hlen (λhs=>⟨l,rfl,.refl _⟩) (λhb g kp=>?_) (λout⟨l',e,pm⟩=>by rw[e,Ø,Ø,pm.length_eq]) λout⟨l',e,pm⟩h2 c DL at2=>?_
 .have DM:∀a∈l,∃(us:ā)(o:Obj)(n:Nat),g.get? a=some o/\o.cls=.type "tuple"/\o.data=.seq us.toArray n/\Ï ((row a).map V.int) us/\row a≠[]:=λa ha=>by obtain⟨us,o,n,h1,h2⟩:=obj a ha;exact⟨us,o,n,kp _ _ h1,h2⟩
  refine Jc (s:={s with heap:=g}) DM (by rw[Ø]at hb;lia) ?_;refine⟨rfl,CT (s:={s with heap:=g}) DM λst l' e1 e2 e3=>⟨e1,l'.map Value.ref,e2,l',rfl,e3⟩⟩
 .subst e;exact⟨.ref (s.heap.objs.size+1),_,I.laid (t':=s.toks) DL (Zbf _) (show Ú X.prog X.w _ h2 _ (.lst (l'.map V.ref))from⟨by rw[Ø,pm.length_eq];rw[Ø]at hz;exact hz,_,c,An l',at2⟩),rfl,q _ l' (I.hok.fresh (Zbf _)) (ϩ (Ł I.big (Zbf _))) pm⟩
theorem jj:eO X (.builtin "sorted") (λxs H Q=>∃(p:Addr)(l:Č)(row:Addr->WF),xs=[.ref p]/\Ê X.K H p (l.map V.ref)/\(∀a∈l,Î X.K H a ((row a).map V.int)/\row a≠[])/\∀q(l':Č),H q=none->l'.Perm l->Q (.ref q) (upd H q (.lst (l'.map V.ref)))):=by intro Á s σ H xs us Q I r h;obtain⟨p,l,row,e,hp,yn,q⟩:=h;exact gA Á s σ H xs us Q I r ⟨p,l,row,e,hp,yn,λq' l' a _ b=>q q' l' a b⟩
end
section
theorem kE(hc:X.calm=true):eO X (.builtin "max") (λxs H Q=>∃(p:Addr)(ns:WF),xs=[.ref p]/\Ê X.K H p (ns.map V.int)/\ns≠[]/\∀M,M∈ns->(∀a∈ns,a<=M)->Q (.int M) H):=by
 intro Á s σ H xs us Q I r h;obtain⟨p,ns,rfl,hq,fy,q⟩:=h;obtain⟨u,rfl,ru⟩:=ü r;cases ru;obtain⟨Æ,rv,pl,hz⟩:=I.list hq;have hi:IntsAre Æ ns:=ĭ rv;obtain⟨zs,ez⟩:=(hi.allInts:AllInts Æ.toArray).items;have en:numsOf Æ=ns:=hi.numsOf;have hl:s.heap.IsList p (intItems zs):=ez▸pl.isList;have aS:0<zs.size:=by
  have e1:(intItems zs).size=Æ.length:=by rw[<-ez,ē]
  have e2:=rv.length;rw[Ø]at e2;have e3:0<ns.length:=List.length_pos_iff.mpr fy;simp only[intItems,Array.size_map]at e1;lia
 have hn:numsOf (intItems zs).toList=ns:=by rw[<-ez];exact en
 refine max_intList (I.ok.hd hc) hl aS λv h' tk hv hk=>?_;obtain⟨t,rfl⟩:=intItems_at hv;obtain⟨h1,h2⟩:=argBest_gt (numAt zs) (zs.size-1);rw[nums_intItems]at hn;refine⟨.int _,H,I.kept (t':=tk) hk,⟨t,rfl⟩,q _ ?_ λa ha=>?_⟩;.rw[<-hn,numAt_eq];exact getD_mem (by rw[Ø,Ş];lia)
 .rw[<-hn]at ha;obtain⟨j,hj,rfl⟩:=mem_getD ha;rw[Ø,Ş]at hj;rw[<-numAt_eq];exact h2 j Â
end
theorem CV(ha:s.TypeIs a "list")(hb:s.TypeIs b "list")(hc:wpAny M A (call (.builtin "list.__iadd__") [a,b]) Q E s):wpAny M A (inplaceOp .Add a b) Q E s:=by
 unfold inplaceOp;refine wpAny_holding ?_;have hl:typeLookup (.type "list") (dunderI "add")=pure (some (.builtin "list.__iadd__")):=F.slot_list_iadd.lookup;have Ut:fillsInplaceSlot (.type "list") "add" (Operator.Add==.Add)=pure false:=by
  unfold fillsInplaceSlot;show(typeLookup (.type "list") (dunderI "add")>>=λfi=>pure (fi.isSome&&!isSeqSlot fi))=pure false;rw[hl];have:isSeqSlot (some (.builtin "list.__iadd__"))=true:=by decide+kernel
  show(pure (true&&!isSeqSlot (some (.builtin "list.__iadd__"))):Sem Bool)=_;rw[this];rfl
 have Uu:seqSlot? (.type "list") (dunderI "add")=pure (some (.builtin "list.__iadd__")):=PySem.seqSlot_of F.slot_list_iadd.lookup z04;refine Å (wpAny_typeOf ha (Å (wpAny_of_eq Ut ?_)));show wpAny M A (if false=true then _ else _) Q E s;rw[Ë Ř];refine Å (wpAny_binaryOp1_none (nm:="add") ha hb noFill_list_add ?_);refine Å (wpAny_of_eq Uu ?_);exact Å (wpAny_rule hc)
inductive Z01(x:V)(y:V)(H:Hp)(Q:VK):Prop|mk:∀l b xs zs,(x=.ref l)->(y=.ref b)->(H l=some (.lst xs))->(H b=some (.lst zs))->(xs.length+zs.length<=sizeLine)->(Q (.ref l) (upd H l (.lst (xs++zs))))->Z01  x y H Q
def Oa:TIp:=λx y H Q=>Z01  x y H Q
theorem uQ:PIp X .Add Oa:=by
 intro Á s σ H x y v u Q I rx ru h;obtain⟨l,b,xs,zs,rfl,rfl,hH,hB,hz,q⟩:=h;cases rx;cases ru;obtain⟨z,Æ,n,r,hl,e⟩:=I.lstM hH;obtain⟨z2,bS,n2,r2,eR,e2⟩:=I.lstM hB;have hsz:Æ.toArray.size+bS.toArray.size<=sizeLine:=by rw[ē,ē];lia
 have gX:¬(!Æ.toArray.isEmpty&&Builtin.List.listTooLong (Æ.toArray.size+bS.toArray.size))=true:=by rw[pR hsz,Bool.and_false];exact Ř
 refine CV ⟨_,e,rfl⟩ ⟨_,e2,rfl⟩ (call_meets F.slot_list_iadd ⟨_,e,rfl⟩ F.entry_list_iadd (F.args_list_iadd_2 _ _) (AutoSeq1.list___iadd___list_list_0 l Æ.toArray n b bS.toArray n2 gX (by rw[ē];lia) Â) ⟨e,e2,?_⟩);refine⟨.ref l,_,I.lset (its':=Æ++bS) hH e Ù (r.append r2) ?_,rfl,q⟩;rw[õ];lia
section
theorem Jd(n1:(d==sysModules)=false)(g1:s.heap.get? d=some o)(g2:o.ExactDict)(g3:o.data=.dict es ep)(q:R (.ref s.heap.objs.size) {s with heap:=s.heap.push {cls:=.type "dict_keyiterator",data:=.fields #[.ref d,.int 0 0,.int es.size 0,.int ep 0]}}):wpAny (model prog w) A (pyIter (.ref d)) R E s:=by have ty:s.TypeIs (.ref d) "dict":=⟨o,g1,g2.1⟩;refine wpAny_pyIter_slot ty F.slot_dict_iter (wpAny_call_entry F.slot_dict_iter ty F.entry_dict_iter ?_ (F.args_dict_iter_1 _));refine Å ?_;refine Å (wpAny_notOrdered_dict ty (Ý ?_));show wpAny (model prog w) _ (Builtin.Dict.showsAll d>>=_) _ E s;unfold Builtin.Dict.showsAll;rw[n1];refine Å (Ý (Å (wpAny_dictEntries g1 g3 (Å (wpAny_dictEpoch g1 g3 ?_)))));refine Å (ϣ (Ý ⟨_,rfl,"dict_keyiterator",_,⟨_,ı _ rfl,rfl⟩,F.slot_dict_keyiterator_next.lookup,?_⟩));exact q
theorem Je(st:s.heap.IsKeyIter it d i es.size ep)(g1:s.heap.get? d=some o)(g3:o.data=.dict es ep)(hx:es[i]?=some e)(q:∀h',h'.IsKeyIter it d (i+1) es.size ep->Heap.SameBut it s.heap h'->R (some e.key) {s with heap:=h'}):wpAny (model prog w) A (pyNext (.ref it)) R E s:=by obtain⟨oi,i1,i2,i3⟩:=id st;unfold pyNext;refine Å (wpAny_attempt (wpAny_callSpecial?_slot (name:=Str.ofString "__next__") st.typeIs F.slot_dict_keyiterator_next (wpAny_call_entry F.slot_dict_keyiterator_next st.typeIs F.entry_dict_keyiterator_next ?_ (F.args_dict_keyiterator_next_1 _))));refine Å (Ý (Å (Å ?_)));refine Å (wpAny_typeNameOfWhole_keyiter st.typeIs (Ý (Å (wpAny_fieldsOf i1 i3 ?_))));refine Å (Ý (Å (wpAny_dictEntries g1 g3 ?_)));rw[Ë Ù];refine Å (Ý (Å (wpAny_dictEpoch g1 g3 ?_)));rw[Ë Ù];refine Ý ?_;simp only[show¬((i:Int)<0)from by lia,if_false,Int.toNat_natCast,hx];refine Å (Å (wpAny_typeNameOfWhole_keyiter st.typeIs (Ý ?_)));refine Å (wpAny_isOneOf_keyiter st.typeIs ?_);show wpAny (model prog w) _ (setField (.ref it) 1 (rawInt ((i:Int)+1))>>=_) _ _ s;refine Å (wpAny_setField i1 i3 Ù ?_);have Ð:(s.heap.update it (Obj.mapFields (·.setIfInBounds 1 (rawInt ((i:Int)+1))))).IsKeyIter it d (i+1) es.size ep:=⟨_,Heap.get?_update_self _ i1 (Obj.isFreed_of_fields (Obj.data_mapFields i3 _)),(Obj.cls_mapFields ..).trans i2,by rw[Obj.data_mapFields i3];simp[rawInt]⟩;refine Å (wpAny_holding (Å (wpAny_isOneOf_keyiter (s:={s with heap:=s.heap.update it (Obj.mapFields (·.setIfInBounds 1 (rawInt ((i:Int)+1))))}) Ð.typeIs ?_)));exact Ý (Ý ⟨_,rfl,Ý (q _ Ð (Heap.SameBut.update ..))⟩)
theorem Lz(hh:A.handled=none)(st:s.heap.IsKeyIter it d i es.size ep)(g1:s.heap.get? d=some o)(g3:o.data=.dict es ep)(hx:es.size<=i)(q:∀h',Heap.ExtBut it s.heap h'->R none {s with heap:=h'}):wpAny (model prog w) A (pyNext (.ref it)) R E s:=by obtain⟨oi,i1,i2,i3⟩:=id st;unfold pyNext;refine Å (wpAny_attempt (wpAny_callSpecial?_slot (name:=Str.ofString "__next__") st.typeIs F.slot_dict_keyiterator_next (wpAny_call_entry F.slot_dict_keyiterator_next st.typeIs F.entry_dict_keyiterator_next ?_ (F.args_dict_keyiterator_next_1 _))));refine Å (Ý (Å (Å ?_)));refine Å (wpAny_typeNameOfWhole_keyiter st.typeIs (Ý (Å (wpAny_fieldsOf i1 i3 ?_))));refine Å (Ý (Å (wpAny_dictEntries g1 g3 ?_)));rw[Ë Ù];refine Å (Ý (Å (wpAny_dictEpoch g1 g3 ?_)));rw[Ë Ù];refine Ý ?_;simp only[if_false,Int.toNat_natCast,Array.getElem?_eq_none hx];refine Å (Å (wpAny_typeNameOfWhole_keyiter st.typeIs (Ý ?_)));show wpAny (model prog w) _ (setField (.ref it) 0 .none>>=_) _ _ s;refine Å (wpAny_setField i1 i3 Ù ?_);refine Å ?_;refine Å (ϣ (Å (m:=firstArgMember _ _) (wpAny_of_eq (a:=Value.none) (by first|rfl|(simp only[firstArgMember];rfl)) ?_)) (by size_fits));refine ϣ ?_ (by size_fits);simp only[raiseNew];refine Å (wpAny_handled ?_);rw[show A.in1.handled=none from hh];refine Å (Ý (wpAny_throw ?_));refine Å (wpAny_isInstance (b:=true) (T:="StopIteration") ⟨_,ı _ rfl,rfl⟩ isSubtype_stop ?_);exact Ý (q _ (((Heap.SameBut.update ..).extBut.push _).push _))
end
def Itd(d:Addr)(o:Obj)(kvs:List (List Key×V)):It:=⟨λi H=>H d=some (.frz o (.dT kvs))/\i<kvs.length,λi H x H'=>H'=H/\∃b k v,x=.ref b/\kvs[i]?=some (k,v)/\H b=some (.tup (k.map kV)),λi H=>H d=some (.frz o (.dT kvs))/\kvs.length<=i⟩
theorem KT.get:∀{kvs:List (List Key×V)}{xs:List (List Key×Addr×Value)}{i:Nat}{k:List Key}{v:V},KT H kvs xs->kvs[i]?=some (k,v)->∃b u,xs[i]?=some (k,b,u)/\H b=some (.tup (k.map kV))|_,_,_,_,_,.nil,e=>by simp at e;|p::_,q::_,0,k,v,.cons r t,e=>by grind;|p::_,q::_,i+1,k,v,.cons r t,e=>by obtain⟨b,u,e1,e2⟩:=KT.get t e;exact⟨b,u,by rw[Za3];exact e1,e2⟩
theorem KT.len:∀{kvs:List (List Key×V)}{xs:List (List Key×Addr×Value)},KT H kvs xs->xs.length=kvs.length|_,_,.nil=>rfl|_,_,.cons _ t=>by rw[ĳ,ĳ,KT.len t]
theorem Ç.frzT{σ:St}(I:Ç X Á σ H s)(e:H d=some (.frz o (.dT kvs))):s.heap.get? d=some o/\o.ExactDict/\(d==sysModules)=false/\∃es ep xs,o.data=.dict es ep/\KT H kvs xs/\es.toList=xs.map (entryOfKey (tupleKind (bF X.prog X.w))):=by obtain⟨e0,_,hs,xs,kt,o',es,ep,g1,g2,g3,g4,_⟩:=(I.hok _ _ e);rw[e0]at g1;cases g1;exact⟨e0,g2,hs,es,ep,xs,g3,kt,g4⟩
theorem CW{es:Array DictEntry}(kt:KT H kvs xs)(e:es.toList=xs.map (entryOfKey (tupleKind (bF P w)))):es.size=kvs.length:=by rw[<-Ş,e,Ø,kt.len]
theorem CZ{K:Frag}(d it:Addr)(o:Obj)(kvs:List (List Key×V))(es:Array DictEntry)(ep:Nat)(od:o.data=.dict es ep)(hz:es.size=kvs.length):Ŏ P w K tg (Itd d o kvs) [it] it (λi h=>h.IsKeyIter it d i es.size ep)where
 mem:=by simp
 obj:=λi h st b hb=>by
  have e:b=it:=by simpa using hb
  subst e;obtain⟨o,e,c,d⟩:=st;exact⟨o,e,λv z=>by rw[d]at z;cases z⟩
 keep:=λi h h' st k=>st.at λo e=>k it Ù o e;item:=by
  intro X hP hw hK hc i Á s σ H E I hf st hg;subst hP hw hK;obtain⟨hq,hx⟩:=hg;obtain⟨e0,g2,hs,gN,wq,xs,g3,kt,g4⟩:=I.frzT hq;rw[od]at g3;cases g3;obtain⟨b,u,ex,eb⟩:=kt.get (k:=kvs[i].1) (v:=kvs[i].2) (à hx);have ee:es[i]?=some (entryOfKey (tupleKind (bF X.prog X.w)) (kvs[i].1,b,u)):=by rw[entry_at g4,ex];rfl
  obtain⟨f0,f1,f2,f3,f4,f5⟩:=hf it Ù;refine Je st e0 od ee λh' Ð sb=>?_;have I1:Ç X Á σ H {s with heap:=h'}:=I.turned (t':=s.toks) (λb o hb e=>(sb.2 b hb).trans e) f0 f1 f3 f4 f5;obtain⟨o2,e2,c2,d2⟩:=id Ð;exact⟨.ref b,rfl,zM (s:={s with heap:=h'}) e2 c2 d2 Û ⟨.ref b,H,I1,rfl,⟨rfl,b,kvs[i].1,kvs[i].2,rfl,à hx,eb⟩,Ð,λb hb=>(hf b hb).1⟩⟩
 done:=by intro X hP hw hK hc i Á s σ H E I hf st hg;subst hP hw hK;obtain⟨hq,hx⟩:=hg;obtain⟨e0,g2,hs,gN,wq,xs,g3,kt,g4⟩:=I.frzT hq;rw[od]at g3;cases g3;obtain⟨f0,f1,f2,f3,f4,f5⟩:=hf it Ù;exact Lz (I.ok.hd hc) st e0 od Â λh' eb=>⟨rfl,I.turned (t':=s.toks) (λb o hb e=>eb b o hb e) f0 f1 f3 f4 f5⟩
 self:=λ_ _ _ _ _ st h=>wpAny_pyIter_keyiter st h
section
def Ob(tl:TE):TI:=λσ H R=>tl σ H λx H1=>∃d o kvs,x=.ref d/\H1 d=some (.frz o (.dT kvs))/\R (Itd d o kvs) H1
theorem uR(hl:PE X l tl):PI X tg l (Ob tl):=by
 intro Á s σ H R I h;refine Þ (hl Á s σ H _ I h) λv s1=>?_;rintro⟨x,H1,I1,r1,q1⟩;obtain⟨d,o,kvs,e,hq,q⟩:=q1;subst e;cases r1;obtain⟨e0,g2,hs,es,ep,xs,g3,kt,g4⟩:=I1.frzT hq;refine Jd hs e0 g2 g3 ?_;refine⟨s1.heap.objs.size,[s1.heap.objs.size],_,_,H1,rfl,I1.kept (t':=s1.toks) λb o e=>č _ e,CZ d _ o kvs es ep g3 (CW kt g4),⟨_,ı _ rfl,rfl,rfl⟩,λb hb=>?_,q⟩;have e:b=s1.heap.objs.size:=by simpa using hb
 subst e;exact I1.fpOk (ß _) (I1.hok.fresh (ß _))
inductive Z0c(t:TE)(σ:St)(H:Hp)(Q:VK):Prop|mk:∀d kvs,(H d=some (.dT kvs))->(∀o,t σ (upd H d (.frz o (.dT kvs))) λv H'=>H' d=some (.frz o (.dT kvs))/\Q v (upd H' d (.dT kvs)))->Z0c t σ H Q
def Qa(t:TE):TE:=λσ H Q=>Z0c t σ H Q
theorem yS(h:PE X e t):PE X e (Qa t):=by
 intro Á s σ H Q I hq;obtain⟨d,kvs,ed,hq⟩:=hq;obtain⟨hz,hs,xs,kt,o,es,ep,g1,g⟩:=(I.hok _ _ ed);have nt:∀{b:Addr}{u:HO},H b=some u->u≠.dT kvs->b≠d:=λ{b u}e n z=>by rw[z,ed]at e;exact n (ŗ e).symm
 have I1:Ç X Á σ (upd H d (.frz o (.dT kvs))) {s with heap:=s.heap,toks:=s.toks}:=by
  refine I.un ⟨λb ob q _ _ _=>q,λb ob q _ _ _=>⟨ob.slots,q⟩,λb ob q n _=>?_,λb ob q _=>⟨ob,q⟩,λb xs q=>?_,λb ob u q=>?_,λb ps q=>⟨#[],?_⟩⟩ λb u e=>?_;.rw[aq λz=>by rw[z,ed]at n;cases n];exact n
  .rw[aq (nt q λz=>by cases z)];exact q
  .rw[aq (nt q λz=>by cases z)];exact q
  .rw[aq (nt q λz=>by cases z),q];simp
  .have bE:∀c xs,H c=some (.tup xs)->upd H d (.frz o (.dT kvs)) c=some (.tup xs):=λc xs q=>by rw[aq (nt q λz=>by cases z)];exact q
   by_cases hb:b=d;.subst hb;rw[aj]at e;cases e;exact⟨g1,(show Ú X.prog X.w H s.heap b (.dT kvs)from I.hok _ _ ed).stay (λ_ _ _ q=>q) (λc q=>by rw[aq (nt q λz=>by cases z)];exact q) bE⟩
   .rw[aq hb]at e;exact(I.hok b u e).stay (λ_ _ _ q=>q) (λc q=>by rw[aq (nt q λz=>by cases z)];exact q) bE
 refine Þ (h Á s σ _ _ I1 (hq o)) λv s1=>?_;rintro⟨x,H1,J,r1,e1,q1⟩;have FO:∀{b:Addr}{u:HO},H1 b=some u->u≠.frz o (.dT kvs)->b≠d:=λ{b u}e n z=>by rw[z,e1]at e;exact n (ŗ e).symm
 have fr:∀b,H1 b=none->upd H1 d (.dT kvs) b=none:=λb n=>by rw[aq λz=>by rw[z,e1]at n;cases n];exact n
 refine⟨x,upd H1 d (.dT kvs),⟨J.ok,J.os,J.bare,⟨J.base.keep,J.base.slot,λb ob q n hx=>fr b (J.base.free b ob q n hx),J.base.there,λb xs q=>?_,λb ob u q=>?_,λb ps q=>?_⟩,J.loc,J.cell,fr _ J.free,λy c e=>fr _ (J.freeC y c e),λp hp=>?_,λb u e=>?_,J.len⟩,r1,q1⟩;.have:=J.base.tups b xs q;rw[aq (FO this λz=>by cases z)];exact this
 .have h0:=I.base.frzs b ob u q;have:=J.base.frzs b ob u q;rw[aq (nt h0 λz=>by cases z)];exact this
 .obtain⟨m,e⟩:=J.base.tbls b ps q;exact⟨m,by rw[aq (FO e λz=>by cases z)];exact e⟩
 .obtain⟨a,n,c⟩:=J.pin p hp;exact⟨a,fr _ n,c⟩
 .have bE:∀c xs,H1 c=some (.tup xs)->upd H1 d (.dT kvs) c=some (.tup xs):=λc xs q=>by rw[aq (FO q λz=>by cases z)];exact q
  have tP:∀a c,H1 c=some (.own a)->upd H1 d (.dT kvs) c=some (.own a):=λa c q=>by rw[aq (FO q λz=>by cases z)];exact q
  by_cases hb:b=d;.subst hb;rw[aj]at e;cases e;exact Ú.stay ((J.hok _ _ e1).2) (λ_ _ _ q=>q) (tP b) bE
  .rw[aq hb]at e;exact(J.hok b u e).stay (λ_ _ _ q=>q) (tP b) bE
end
section
variable{K:Type}[DecidableEq K]{knd:HeapKind prog w K}
theorem LC(hu:knd.room A)(hk:knd.is s.heap k a)(hm:s.heap.DictOfH knd d xs)(nk:k∉xs.map (·.1))(hz:xs.length<=sizeLine)(q:∀h',h'.DictOfH knd d (xs++[(k,a,v)])->Heap.SameBut d s.heap h'->R () {s with heap:=h'}):wpAny (model prog w) A (dictSetHashed d (.ref a) (knd.hash k) v) R E s:=by
 obtain⟨o,es,ep,g1,g2,g3,g4,g5,g6⟩:=hm;have ez:=size_of_entries g4;unfold dictSetHashed;try with_reducible refine wpAny_holding ?_
 refine Å (wpAny_dictFind_heap hu hk g1 g3 g4 g5 g6 (λno=>?_) λj p hj=>absurd (ñ.mpr ⟨_,ŕ hj,rfl⟩) nk);refine Å (wpAny_rule (wpAny_updateDictKeys (hz:=Â) g1 g3 (q _ ⟨_,_,ep+1,Heap.get?_update_self _ g1 (Obj.isFreed_of_dict (Obj.data_mapDictKeys g3 _)),g2.mapDictKeys _,Obj.data_mapDictKeys g3 _,?_,λx hx=>?_,?_⟩ (Heap.SameBut.update ..))));.simp[g4,entryOfKey]
 .rcases Ę.mp hx with z|z;.exact knd.keeps (g5 x z) g1 g3 (Heap.SameBut.update ..)
  .rw[ű.mp z];exact knd.keeps hk g1 g3 (Heap.SameBut.update ..)
 .rw[ô,Zbb];refine⟨g6,by simp,λx hx y hy=>?_⟩;rw[show y=k by simpa using hy];exact λe=>nk (e▸hx)
theorem Jf{nm:String}(hu:knd.room A)(db:d≠b)(hd:s.heap.DictOfH knd d xs)(hb:s.heap.DictOfH knd b ys)(nd:((xs++ys).map (·.1)).Nodup)(hz:xs.length+ys.length<=sizeLine)(q:∀h',h'.DictOfH knd d (xs++ys)->Heap.SameBut d s.heap h'->R () {s with heap:=h'}):wpAny (model prog w) A (do
 let epoch<-dictEpoch b let l<-dictEntries b
   forIn [:l.size] PUnit.unit λi(_:PUnit)=>(do let l'<-dictEntries b match l'[i]? with|some e=>do holding [e.key,e.val] (dictSetHashed d e.key e.hash e.val)let wq<-dictEpoch b if(wq !=epoch)=true then do(unsupported (toString nm++toString ":source-changed-during-callback"):Sem PUnit)pure (ForInStep.yield PUnit.unit)else pure (ForInStep.yield PUnit.unit)|_=>do(unsupported "internal:dict-merge":Sem PUnit)pure (ForInStep.yield PUnit.unit):Sem (ForInStep PUnit))pure ()) R E s:=by
 obtain⟨ob,es,ep,g1,g2,g3,g4,g5,g6⟩:=id hb;have ez:=size_of_entries g4;refine Å (wpAny_dictEpoch g1 g3 (Å (wpAny_dictEntries g1 g3 (Å ?_))));rw[Std.Legacy.Range.forIn_eq_forIn_range'];simp only[Std.Legacy.Range.size,Nat.sub_zero,Nat.add_sub_cancel,Nat.div_one];refine wpAny_forIn_list _ (λrest _ s'=>∃h' i,s'={s with heap:=h'}/\rest=List.range' i (ys.length-i)/\i<=ys.length/\h'.DictOfH knd d (xs++ys.take i)/\h'.get? b=some ob/\Heap.SameBut d s.heap h'/\∀y∈ys,knd.is h' y.1 y.2.1) _ ?_ ?_ _ _ ⟨s.heap,0,rfl,by rw[ez];rfl,ĥ _,by rw[Zbd,Ś];exact hd,g1,Heap.SameBut.refl _ _,g5⟩
 .rintro x rest u s'⟨h',i,rfl,hr,hi,p9,dE,sb,hk⟩;have ax:i<ys.length:=by
   rcases Nat.lt_or_ge i ys.length with h|h;.exact h
   .rw[Nat.sub_eq_zero_of_le h]at hr;simp at hr
  obtain⟨rfl,jS⟩:x=i/\rest=List.range' (i+1) (ys.length-(i+1)):=by rw[show ys.length-i=(ys.length-(i+1))+1 by lia,List.range'_succ]at hr;injection hr with h1 h2;exact⟨h1,h2⟩
  have ex:es[x]?=some (entryOfKey knd ys[x]):=by rw[entry_at g4,à ax];rfl
  refine Å (wpAny_dictEntries dE g3 ?_);rw[ex];have nk:ys[x].1∉(xs++ys.take x).map (·.1):=λhm=>by
   have e:xs++ys=(xs++ys.take x)++ys[x]::ys.drop (x+1):=by rw[Ń,<-Zar ax,zBe]
   rw[e,ô,Zbb]at nd;exact nd.2.2 _ hm _ (by rw[Ī];exact .head _) rfl
  refine Å (wpAny_holding (LC (s:={s with heap:=h'}) hu (hk _ (Ě ax)) p9 nk (by rw[õ,Ĵ];lia) λh2 hd2 DF=>?_));have iE:h2.get? b=some ob:=(DF.2 b (Ne.symm db)).trans dE;refine Å (wpAny_dictEpoch iE g3 ?_);rw[Ë Ù];obtain⟨od,e1,e2,d1,d2,d3,d4,d5,d6⟩:=id p9;refine Ý ⟨h2,x+1,rfl,jS,ax,?_,iE,sb.trans DF,λy hy=>knd.keeps (hk y hy) d1 d3 DF⟩;rw[ī,à ax,<-Ń];exact hd2
 .rintro u s'⟨h',i,rfl,hr,hi,p9,dE,sb,hk⟩;have:i=ys.length:=by grind
  rw[this,ł]at p9;exact Ý (q h' p9 sb)
end
section
variable{K:Type}[DecidableEq K]{knd:KeyKind prog w K}
theorem wL(hk:IsTupleKey knd s.heap ks a)(h:R false s):wpAny (model prog w) A (Builtin.Dict.quietEq (.ref a)) R E s:=by have hT:=hk.typeIs;refine Å (wpAny_specialOf hT F.slot_tuple_eq.lookup (Ý ?_));exact h
theorem FW{ys:List (List K×Addr×Value)}(g1:s.heap.get? b=some ob)(g3:ob.data=.dict es ep)(g4:es.toList=ys.map (entryOfKey (tupleKind knd)))(g5:∀x∈ys,IsTupleKey knd s.heap x.1 x.2.1)(hh:(ys.map λy=>tupleKeyHash knd y.1).Nodup)(q:R es s):wpAny (model prog w) A (Builtin.Dict.entriesForEmpty nm b) R E s:=by
 refine Å (wpAny_dictEntries g1 g3 (Å ?_));rw[<-Array.forIn_toList];refine wpAny_forIn_list _ (λrest _ s'=>s'=s/\∀e∈rest,∃y∈ys,e=entryOfKey (tupleKind knd) y) _ ?_ ?_ _ _ ⟨rfl,λe he=>by grind⟩
 .rintro x rest u s'⟨rfl,hr⟩;obtain⟨y,hy,rfl⟩:=hr x (.head _);refine Å (wL (g5 y hy) ?_);rw[Í (show(!false)=true from rfl),Ë ?_];.exact Ý ⟨rfl,λe he=>hr e (.tail _ he)⟩
  .have e1:(es.filter λx=>x.hash==(entryOfKey (tupleKind knd) y).hash).size=(ys.map λz=>tupleKeyHash knd z.1).count (tupleKeyHash knd y.1):=by rw[<-Ş,Array.toList_filter,g4,List.count_eq_countP,List.countP_map,<-List.countP_eq_length_filter,List.countP_map];rfl
   have:=List.nodup_iff_count.mp hh (tupleKeyHash knd y.1);lia
 .rintro u s'⟨rfl,_⟩;exact Ý q
theorem FZ(hu:A.units<cLine)(db:d≠b)(bs:(b==sysModules)=false)(hd:s.heap.DictOfH (tupleKind knd) d xs)(hb:s.heap.DictOfH (tupleKind knd) b ys)(nd:((xs++ys).map (·.1)).Nodup)(hh:xs=[]->(ys.map λy=>tupleKeyHash knd y.1).Nodup)(hz:xs.length+ys.length<=sizeLine)(q:∀h',h'.DictOfH (tupleKind knd) d (xs++ys)->Heap.SameBut d s.heap h'->R () {s with heap:=h'}):wpAny (model prog w) A (Builtin.Dict.mergeDict nm d b) R E s:=by
 obtain⟨od,esd,Uv,d1,d2,d3,d4,d5,d6⟩:=id hd;obtain⟨ob,esb,epb,b1,b2,b3,b4,b5,b6⟩:=id hb;have zd:=size_of_entries d4;have zb:=size_of_entries b4;have loop:=Jf (nm:=nm) (E:=E) (R:=R) hu db hd hb nd hz q;unfold Builtin.Dict.mergeDict;rw[Ë (by simpa using db)];unfold Builtin.Dict.showsAll;rw[bs,Ë Ř];refine Å (Ý (Å (wpAny_dictEntries b1 b3 ?_)));dsimp only;split
 .refine Å (wpAny_dictEntries d1 d3 ?_);split
  .rename_i he;have ex:xs=[]:=by simp_all
   subst ex;refine Å (FW b1 b3 b4 b5 (hh rfl) ?_);split;.refine Å (wpAny_updateDictKeysTo d1 d3 (Ý (q _ ⟨_,_,Uv+1,Heap.get?_update_self _ d1 (Obj.isFreed_of_dict (Obj.data_mapDictKeys d3 _)),d2.mapDictKeys _,Obj.data_mapDictKeys d3 _,b4,λx hx=>(tupleKind knd).keeps (b5 x hx) d1 d3 (Heap.SameBut.update ..),b6⟩ (Heap.SameBut.update ..))) ?_);lia
   .rename_i fy;have:ys=[]:=by grind
    subst this;exact Ý (q _ hd (Heap.SameBut.refl _ _))
  .exact loop
 .exact loop
theorem Dd(d b:Addr)(db:d≠b)(bs:(b==sysModules)=false):MeetsIn prog w (Builtin.«dict.update» ⟨[.ref d,.ref b],[]⟩) (λA R s=>∃xs ys,A.units+1<cLine/\s.heap.DictOfH (tupleKind knd) d xs/\s.heap.DictOfH (tupleKind knd) b ys/\((xs++ys).map (·.1)).Nodup/\(xs=[]->(ys.map λy=>tupleKeyHash knd y.1).Nodup)/\xs.length+ys.length<=sizeLine/\∀h',h'.DictOfH (tupleKind knd) d (xs++ys)->Heap.SameBut d s.heap h'->R (.ok (.ret .none)) {s with heap:=h'}):=.of_wp λA R s hZ=>by obtain⟨xs,ys,hu,hd,hb,nd,hh,hz,q⟩:=hZ;refine Å ?_;refine Å (wpAny_notOrdered_dict hd.typeIs (Ý ?_));refine Å (wpAny_typeOf hb.typeIs ?_);refine Å (Å ?_);refine Å (wpAny_isInstance hb.typeIs isSubtype_dict_dict ?_);refine Å (wpAny_specialOf hb.typeIs F.slot_dict_iter.lookup (Ý ?_));refine Å (Ý (FZ (tupleKind_room_in1 (knd:=knd) hu) db bs hd hb nd hh hz λh' p9 sb=>?_));exact Å (Ý (Ý ⟨.none,rfl,q h' p9 sb⟩))
end
section
inductive Z0f(x:V)(vs:List V)(H:Hp)(Q:VK):Prop|mk:∀d b kvs more,(x=.ref d)->(vs=[.ref b])->(d≠b)->(H d=some (.dT kvs))->(H b=some (.dT more))->(kvs.length+more.length<=sizeLine)->(((kvs++more).map (·.1)).Nodup)->((kvs=[]->∀w,(more.map λp=>reduceHash (Builtin.Tuple.tupleHashOf (p.1.map (um w)))).Nodup))->(Q .non (upd H d (.dT (kvs++more))))->Z0f  x vs H Q
def Qd:V->List V->Hp->VK->Prop:=λx vs H Q=>Z0f  x vs H Q
theorem KT.keys:∀{kvs:List (List Key×V)}{xs:List (List Key×Addr×Value)},KT H kvs xs->xs.map (·.1)=kvs.map (·.1)|_,_,.nil=>rfl|_,_,.cons r t=>by rw[Ī,Ī,KT.keys t,r.1]
theorem KT.app:∀{kvs more:List (List Key×V)}{xs ys:List (List Key×Addr×Value)},KT H kvs xs->KT H more ys->KT H (kvs++more) (xs++ys)|_,_,_,_,.nil,h=>h|_,_,_,_,.cons r t,h=>.cons r (KT.app t h)
theorem LK(hu:X.A.units+1<cLine):MtR X "dict.update" Qd:=by
 intro Á s σ H x vs v us Q I rx rv h;obtain⟨d,b,kvs,more,rfl,rfl,db,ed,eb,hz,nd,hh,q⟩:=h;cases rx;obtain⟨u,rfl,ru⟩:=rv.one;cases ru;obtain⟨z1,hd,xs,k1,dd⟩:=EY I.hok ed;obtain⟨z2,hb,ys,k2,bb⟩:=EY I.hok eb;have l1:=k1.len;have l2:=k2.len;refine call_meetsIn PySem.F.slot_dict_update dd.typeIs PySem.F.entry_dict_update (PySem.F.args_dict_update_2 _ _) (Dd (knd:=bF X.prog X.w) d b db hb) ⟨xs,ys,hu,dd,bb,?_,λe=>?_,Â,λh' js sb=>?_⟩;.rw[ô,k1.keys,k2.keys,<-ô];exact nd
 .have:kvs=[]:=Zbj.mp (by rw[<-l1,e];rfl);have:=hh this X.w;have e2:(ys.map λy=>tupleKeyHash (bF X.prog X.w) y.1)=more.map λp=>reduceHash (Builtin.Tuple.tupleHashOf (p.1.map (um X.w))):=by
   have a:∀l:List (List Key×Addr×Value),(l.map λy=>tupleKeyHash (bF X.prog X.w) y.1)=(l.map (·.1)).map λk=>reduceHash (Builtin.Tuple.tupleHashOf (k.map (um X.w))):=λl=>by rw[Ĳ];rfl
   have c:∀l:List (List Key×V),(l.map λp=>reduceHash (Builtin.Tuple.tupleHashOf (p.1.map (um X.w))))=(l.map (·.1)).map λk=>reduceHash (Builtin.Tuple.tupleHashOf (k.map (um X.w))):=λl=>by rw[Ĳ];rfl
   rw[a,c,k2.keys]
  rw[e2];exact this
 .obtain⟨o,es,ep,hq,h2,h3,h4,_,h5⟩:=js;refine⟨.non,_,lU I (by rw[ed];exact True.intro) sb ⟨o,hq⟩ (show Ú X.prog X.w _ h' d (.dT (kvs++more))from⟨by rw[õ];exact hz,hd,_,(k1.app k2).keeps λc ys ec=>?_,o,es,ep,hq,h2,h3,h4,h5⟩),rfl,q⟩;rw[aq (K9 ec ed (λz=>nomatch z))];exact ec
end
theorem tE:∀{ns:WF}{us:ā},Ï (ns.map V.int) us->IntsAre us ns|[],_,.nil=>.nil|n::ns,_,.cons r t=>by obtain⟨k,e⟩:=r;rw[e];exact .cons n k (tE t)
section
theorem uT:eO X (.builtin "sorted") (λxs H Q=>∃(p:Addr)(ns:WF),xs=[.ref p]/\Ê X.K H p (ns.map V.int)/\ns.length<64/\∀q(AU:WF),H q=none->AU.Perm ns->AU.Pairwise (·<=·)->Q (.ref q) (upd H q (.lst (AU.map V.int)))):=by intro Á s σ H xs us Q I r h;obtain⟨p,ns,rfl,hp,h64,q⟩:=h;obtain⟨u,rfl,ru⟩:=ü r;cases ru;obtain⟨Æ,rv,pl,hz⟩:=I.list hp;have hl:=rv.length;rw[Ø]at hl;refine sorted_ints pl.isList (tE rv) Â λout AU hI pm so=>?_;obtain⟨e,at2⟩:=sortedAll_at s.heap Æ out;refine⟨.ref (s.heap.objs.size+1),_,I.laid (t':=s.toks) (λb o z=>sortedAll_old z) (Zbf _) (show Ú X.prog X.w _ _ _ (.lst (AU.map V.int))from⟨by rw[Ø,pm.length_eq,sizeLine_eq];lia,out.toList,e,nF hI,at2⟩),rfl,q _ AU (I.hok.fresh (Zbf _)) pm so⟩
theorem Kg:∀{kvs:List (Key×V)}{vs:List (Key×Value)},KV kvs vs->vs.map (·.1)=kvs.map (·.1)|_,_,.nil=>rfl|_,_,.cons r t=>by rw[Ī,Ī,Kg t,r.1]
theorem tG:∀{ks:List Key}{us:ā},us.length=ks.length->(∀(j:Nat)u,us[j]?=some u->∃k,ks[j]?=some k/\(bF P w).is k u=true)->Ï (ks.map kV) us
 |[],[],_,_=>.nil|k::ks,u::us,h,g=>by
  obtain⟨k',e,hk⟩:=g 0 u rfl;rw[List.getElem?_cons_zero]at e;cases e;refine .cons ?_ (tG (P:=P) (w:=w) (by simpa using h) λj u' hu=>?_)
  .rcases cG hk with⟨i,t,rfl,rfl⟩|⟨x,t,rfl,rfl⟩;.exact⟨t,rfl⟩
   .exact⟨t,rfl⟩
  .have:=g (j+1) u' (by rw[Za3];exact hu);rw[Za3]at this;exact this;|[],_::_,h,_=>by simp at h;|_::_,[],h,_=>by simp at h
theorem qD(hc:X.calm=true):eO X (.type "list") (λxs H Q=>∃d kvs,xs=[.ref d]/\H d=some (.dK kvs)/\((kvs.map (·.1)).Nodup->∀l,H l=none->Q (.ref l) (upd H l (.lst (kvs.map λp=>kV p.1))))):=by
 intro Á s σ H xs us Q I r h;obtain⟨d,kvs,rfl,hd,q⟩:=h;obtain⟨u,rfl,ru⟩:=ü r;cases ru;obtain⟨hz,lo,vs,kv,o,es,ep,g1,g2,g3,g4,g5,g6⟩:=I.hok _ _ hd;have ek:=Kg kv;have lv:vs.length=kvs.length:=by rw[<-Ø (f:=(·.1)),ek,Ø]
 refine PySem.W.kdl_call (PySem.W.kdl_dict (knd:=bF X.prog X.w) (kvs:=vs) (ep:=ep) lo) (I.ok.hd hc) ⟨o,es,g1,g2,g3,g4,g5,g6⟩ (by rw[lv];exact hz) λh' tk Lo c' kp at' it=>?_;refine⟨.ref s.heap.objs.size,_,I.laid (t':=tk) kp (ß _) (show Ú X.prog X.w _ h' _ (.lst (kvs.map λp=>kV p.1))from⟨by rw[Ø];exact hz,Lo.toList,c',?_,at'⟩),rfl,q (by rw[<-ek];exact g6) _ (I.hok.fresh (ß _))⟩;have:(kvs.map λp=>kV p.1)=(vs.map (·.1)).map kV:=by rw[ek,Ĳ];rfl
 rw[this];refine tG (P:=X.prog) (w:=X.w) (by rw[Ş,it.1,Ø]) λj u hu=>?_;obtain⟨k,x,e,hk⟩:=it.2 j u (by rw[<-Zat];exact hu);exact⟨k,by rw[ċ,e];rfl,hk⟩
end
section
inductive Z00(o:V)(i:V)(v:V)(H:Hp)(Q:Hp->Prop):Prop|mk:∀a H',(o=.ref a)->(ŀ H a i v H')->(Q H')->Z00  o i v H Q
def Oc:Ci:=λo i v H Q=>Z00  o i v H Q
theorem ϰ(hu:X.A.units+1<cLine):Ig X Oc:=by intro Á s σ H o i v ov iv u Q I ro ri rv h;obtain⟨a,H',rfl,g,q⟩:=h;cases ro;exact sY hu I g ri rv λs' I'=>⟨H',I',q⟩
end
structure Ϧ(h:Heap)(e:Addr)(C tb:Value):Prop where
 obj:∃oe vs,h.get? e=some oe/\oe.cls=C/\oe.data=.fields vs/\vs[1]?=some tb/\oe.dict=none
 tr:tb=.none\/∃T oT ts,tb=.ref T/\T≠e/\h.get? T=some oT/\oT.data=.fields ts/\ts[3]?=some .none
theorem Df(f:Qa2->Qa2)(o:Obj):(Obj.mapFields f o).dict=o.dict:=by unfold Obj.mapFields;split<;>rfl
section
theorem wM(lI:A.frames=some (env::outer))(hl:s.heap.FunFrames base (env::outer))(hf:env.frame=some L)(he:s.heap.get? e=some oe)(hd:oe.data=.fields vs)(hz:1<vs.size)(mx:oe.dict=none)(h:∀h' T,s.heap.get? T=none->Ϧ h' e oe.cls (.ref T)->(∀b o,s.heap.get? b=some o->b≠e->b∉ė (env::outer)->h'.get? b=some o)->(∀b o,s.heap.get? b=some o->b≠e->∃sl,h'.get? b=some {o with slots:=sl})->Q () {s with heap:=h'}):wpAny M A (do let a<-frameOf env;let pl<-entryPlaceOf L qV;let b<-EntryCells.newEntry head a .none (rawInt L) .none pl;setField (.ref e) 1 b) (λ_ s'=>wpAny M A (setFlight (.ref e) none) Q E s') E s:=by
 have ne:e∉ė (env::outer):=λhm=>by obtain⟨_,o,ho,hn⟩:=hl.mem hm;rw[he]at ho;cases ho;exact hn vs hd
 refine Å (wpAny_frameOf_fun lI hl hf λh1 FR=>?_);have e1:h1.get? e=some oe:=(FR.2.1 e ne).trans he;refine Å (wpAny_entryPlaceOf λpl ff=>?_);unfold EntryCells.newEntry newFields;refine Å (ϣ ?_ (ff.sizeOk5 _ _ _ _ _));obtain⟨fs,OV⟩:∃fs,fs=([head,.ref L,.none,rawInt L,.none]++(if pl.isEmpty then List.replicate 6 Value.none else pl)).toArray:=⟨_,rfl⟩;have fz:3<fs.size:=by rw[OV,ē,õ];show 3<5+_;lia
 rw[<-OV];obtain⟨h2,FU⟩:∃h2,h2=h1.push {cls:=.type "traceback",dict:=none,data:=.fields fs}:=⟨_,rfl⟩;have nT:h1.objs.size≠e:=ϩ (ÿ e1);have t2:h2.get? h1.objs.size=some {cls:=.type "traceback",dict:=none,data:=.fields fs}:=by rw[FU];exact ı h1 rfl
 have k2:∀b o,h1.get? b=some o->h2.get? b=some o:=λb o z=>by rw[FU];exact č _ z
 refine wpAny_setField (s:={s with heap:=h1.push {cls:=.type "traceback",dict:=none,data:=.fields fs}}) (by rw[<-FU];exact k2 _ _ e1) hd hz ?_;rw[<-FU];obtain⟨h3,OW⟩:∃h3,h3=h2.update e (Obj.mapFields (·.setIfInBounds 1 (Value.ref h1.objs.size))):=⟨_,rfl⟩;have d3:=Obj.data_mapFields hd (·.setIfInBounds 1 (Value.ref h1.objs.size));have g3:=Heap.get?_update_self (Obj.mapFields (·.setIfInBounds 1 (Value.ref h1.objs.size))) (k2 _ _ e1) (Obj.isFreed_of_fields d3);have o3:∀b,b≠e->h3.get? b=h2.get? b:=λb hb=>by rw[OW];exact Heap.get?_update_other _ _ (Ne.symm hb)
 rw[<-OW]at g3⊢;unfold setFlight;have v1:(vs.setIfInBounds 1 (Value.ref h1.objs.size))[1]?=some (.ref h1.objs.size):=by simp[hz]
 refine Å (wpAny_field (s:={s with heap:=h3}) g3 d3 v1 ?_);have t3:h3.get? h1.objs.size=some {cls:=.type "traceback",dict:=none,data:=.fields fs}:=(o3 _ nT).trans t2;refine wpAny_setField (s:={s with heap:=h3}) t3 rfl fz ?_;have kk:∀b o,b≠e->h1.get? b=some o->(h3.update h1.objs.size (Obj.mapFields (·.setIfInBounds 3 ((none:Option Addr).elim Value.none λf=>rawInt f)))).get? b=some o:=λb o hb z=>by rw[Heap.get?_update_other _ _ (ϩ (ÿ z)),o3 b hb];exact k2 b o z
 refine h _ h1.objs.size ?_ ⟨⟨_,_,?_,Obj.cls_mapFields _ _,d3,v1,(Df _ _).trans mx⟩,.inr ⟨h1.objs.size,_,_,rfl,nT,Heap.get?_update_self _ t3 (Obj.isFreed_of_fields (Obj.data_mapFields rfl _)),Obj.data_mapFields rfl _,by simp[fz]⟩⟩ (λb o z hb hn=>?_) λb o z hb=>?_;.cases z:s.heap.get? h1.objs.size with|none=>rfl;|some o=>obtain⟨sl,q⟩:=FR.2.2 _ o z;exact absurd (ÿ q) (η _)
 .rw[Heap.get?_update_other _ _ nT];exact g3
 .exact kk b o hb ((FR.2.1 b hn).trans z)
 .obtain⟨sl,q⟩:=FR.2.2 b o z;exact⟨sl,kk b _ hb q⟩
theorem Ao(lI:A.frames=some (env::outer))(hl:s.heap.FunFrames base (env::outer))(hf:env.frame=some L)(fl:Ϧ s.heap e C tb)(h:∀h' T,s.heap.get? T=none->Ϧ h' e C (.ref T)->(∀b o,s.heap.get? b=some o->b≠e->tb≠.ref b->b∉ė (env::outer)->h'.get? b=some o)->(∀b o,s.heap.get? b=some o->b≠e->tb≠.ref b->∃sl,h'.get? b=some {o with slots:=sl})->(∀b o,s.heap.get? b=some o->∃o',h'.get? b=some o')->Q () {s with heap:=h'}):wpAny M A (noteFrame (.ref e) env) (λ_ s'=>wpAny M A (setFlight (.ref e) none) Q E s') E s:=by
 obtain⟨⟨oe,vs,he,rfl,hd,h1,mx⟩,tr⟩:=fl;have hz:=(Array.getElem?_eq_some_iff.mp h1).1;unfold noteFrame;simp only[hf];refine Å (wpAny_field he hd h1 ?_);rcases tr with rfl|⟨T0,oT,ts,rfl,nT,hT,pb,h3⟩
 .rw[Ë Û];refine wM lI hl hf he hd hz mx λh' T nT iF k1 k2=>h h' T nT iF (λb o z hb _ hn=>k1 b o z hb hn) (λb o z hb _=>k2 b o z hb) λb o z=>?_;by_cases hb:b=e;.obtain⟨Lu,_,q,_⟩:=iF.obj;exact⟨Lu,hb▸q⟩
  .obtain⟨sl,q⟩:=k2 b o z hb;exact⟨_,q⟩
 .rw[Í (show(Value.ref T0 !=Value.none)=true by simp)];refine Å (wpAny_field hT pb h3 ?_);refine Å (wpAny_setField hT pb (Array.getElem?_eq_some_iff.mp h3).1 ?_);obtain⟨g,eg⟩:∃g,g=s.heap.update T0 (Obj.mapFields (·.setIfInBounds 3 Value.none)):=⟨_,rfl⟩;have og:∀b,b≠T0->g.get? b=s.heap.get? b:=λb hb=>by rw[eg];exact Heap.get?_update_other _ _ (Ne.symm hb)
  have tg:∃o,g.get? T0=some o:=⟨_,by rw[eg];exact Heap.get?_update_self _ hT (Obj.isFreed_of_fields (Obj.data_mapFields pb _))⟩;have eR:g.FunFrames base (env::outer):=hl.of_keeps λb o z hn=>⟨o,(og b λq=>by rw[q,hT]at z;cases z;exact hn ts pb).trans z,rfl⟩;rw[<-eg];refine wM (s:={s with heap:=g}) lI eR hf ((og e (Ne.symm nT)).trans he) hd hz mx λh' T DO iF k1 k2=>h h' T ?_ iF (λb o z hb ht hn=>k1 b o ((og b λq=>ht (by rw[q])).trans z) hb hn) (λb o z hb ht=>k2 b o ((og b λq=>ht (by rw[q])).trans z) hb) λb o z=>?_
  .have DO:g.get? T=none:=DO;by_cases q:T=T0;.obtain⟨o,e⟩:=tg;rw[q,e]at DO;cases DO
   .rw[<-og T q];exact DO
  .by_cases hb:b=e;.obtain⟨Lu,_,q,_⟩:=iF.obj;exact⟨Lu,hb▸q⟩
   .obtain⟨o2,e2⟩:∃o2,g.get? b=some o2:=by grind
    obtain⟨sl,q⟩:=k2 b o2 e2 hb;exact⟨_,q⟩
theorem wN(lI:A.frames=some (env::outer))(hl:s.heap.FunFrames base (env::outer))(hf:env.frame=some L)(fl:Ϧ s.heap e C tb)(h:∀h' T,s.heap.get? T=none->Ϧ h' e C (.ref T)->(∀b o,s.heap.get? b=some o->b≠e->tb≠.ref b->b∉ė (env::outer)->h'.get? b=some o)->(∀b o,s.heap.get? b=some o->b≠e->tb≠.ref b->∃sl,h'.get? b=some {o with slots:=sl})->(∀b o,s.heap.get? b=some o->∃o',h'.get? b=some o')->Q () {s with heap:=h'}):wpAny M A (leaving env (.ref e)) Q E s:=by exact Å (Ao lI hl hf fl h)
end
theorem Ú.there(x:Ú P w H h a o):∃ob,h.get? a=some ob:=by cases o with|lst xs=>obtain⟨_,_,_,_,e⟩:=x;exact⟨_,e⟩;|tup xs=>obtain⟨_,_,_,ob,e,_⟩:=x;exact⟨_,e⟩;|dK kvs=>obtain⟨_,_,_,_,o,_,_,e,_⟩:=x;exact⟨_,e⟩;|dT kvs=>obtain⟨_,_,_,_,o,_,_,e,_⟩:=x;exact⟨_,e⟩;|set S n=>obtain⟨o,_,_,_,e,_⟩:=x;exact⟨_,e⟩;|ins C dx fs=>obtain⟨_,_,_,e,_⟩:=x;exact⟨_,e⟩;|own y=>exact x;|xd fs=>obtain⟨_,⟨_,_,_,e,_⟩,_⟩:=x;exact⟨_,e⟩;|rng lo hi=>obtain⟨_,_,_,e⟩:=x;exact⟨_,e⟩;|frz ob u=>obtain⟨e,_⟩:=x;exact⟨_,e⟩;|tbl ps=>exact⟨_,(x)⟩;|met f y=>exact⟨_,(x)⟩;|ext φ=>obtain⟨_,e,_⟩:=x;exact e
theorem ą.no(x:ą P w H h)(e:h.get? a=none):H a=none:=by cases q:H a with|none=>rfl;|some o=>obtain⟨ob,z⟩:=(x a o q).there;rw[e]at z;cases z
def wO(X:Cx)(EX:Addr->Addr->Hp->Prop):Prop:=∀Á(σ:St)H s a C tb,Ç X Á σ H s->Ϧ s.heap a (.ref C) tb->X.s₀.heap.get? a=none->H a=none->(∀T,tb=.ref T->X.s₀.heap.get? T=none/\H T=none)->(∀p∈X.pn++Á,p.1≠a/\tb≠.ref p.1)->EX a C H->X.xe (.ref a) s
def Ŵ(P:Program)(w:World):CXT:=λouter H s E e s'=>∃a C H' T,e=.ref a/\s'.os=s.os/\AllBare s'.gens/\Un (ė outer) [] H H' s.heap s'.heap/\ą P w H' s'.heap/\s.heap.get? a=none/\s.heap.get? T=none/\H' a=none/\H' T=none/\Ϧ s'.heap a (.ref C) (.ref T)/\E (.ref a) (some C) H'
section
theorem Ç.was{σ:St}(I:Ç X Á σ H s)(hx:X.ex=[])(e:s.heap.get? a=none):X.s₀.heap.get? a=none:=by cases q:X.s₀.heap.get? a with|none=>rfl;|some o=>obtain⟨o',z⟩:=I.base.there a o q (by rw[hx];simp);rw[e]at z;cases z
theorem Kh(W:wO X λa C H=>E (.ref a) (some C) H)(hx:X.ex=[]):uq (Ŵ X.prog X.w) X E:=by intro Á σ H s e s' I h;obtain⟨a,C,H',T,rfl,os,bare,un,hok,na,nT,fa,fT,fl,q⟩:=h;have J:Ç X Á σ H' s':=I.call' os un hok bare λb z=>absurd z Ù;refine W Á σ H' s' a C (.ref T) J fl (I.was hx na) fa (λT' eT=>by cases eT;exact⟨I.was hx nT,fT⟩) (λp hp=>?_) q;obtain⟨e,_⟩:=I.pin p hp;exact⟨λz=>(by rw[z,na]at e;cases e),λz=>(by cases z;rw[nT]at e;cases e)⟩
def LQ(C:Addr)(EX:Addr->Addr->Hp->Prop)(t:TA):TS:=λ_ σ H=>t σ H λvs H1=>vs.length<=sizeLine/\∀a,H1 a=none->EX a C H1
theorem wQ{np bo pos:Pos}(O:OwnCls x C bm newId X.mg X.base)(FB:ExcBaseFacts B newId yA bm)(hc:X.calm=true)(hx:X.ex=[])(hg:Gl X x)(ha:PA X (e::es) t)(W:wO X EX)(fk:ź x:=by decide)(he:Qa8 X e es:=by rfl)(ff:Qa9 X bo es:=by rfl):PS X (.Raise (some (.Call (.Name x np) (e::es) [] bo)) none pos) (LQ C EX t):=by intro Á s σ H D I h;obtain⟨tl,N,nm,q,bs,hdct,sn,sub,ab,col,dd,k0,k1,k2,k3,k5,mN,hC,hN,FV,T⟩:=O.obj;refine wpAny_Raise_call_subT (C:=C) (nm:=nm) (q:=q) (N:=N) (bs:=bs) (bm:=tl) (hdct:=hdct) (sn:=sn) (sub:=sub) (ab:=ab) (col:=col) (dd:=dd) (k0:=k0) (k1:=k1) (k2:=k2) (k3:=k3) (k5:=k5) FB (mN:=mN) (T.hasType FB.hasBase) (I.ok.hd hc) (by rw[he];show(false||(backTo bo (starEach es X.env)).any (·.1))=false;rw[ff];rfl) FV ?_;refine jL I hg O.bound ⟨rfl,?_⟩ fk;have h2:=ha bo Á s σ H _ I h;rw[he]at h2⊢;refine Calls.evalArgs_plain (wpAny_mono h2 (λus s2 z=>?_) λ_ _ y=>y);obtain⟨vs,H1,I1,r1,hl,q1⟩:=z;have hlen:=r1.length;refine⟨rfl,by show us.length<=_;lia,I1.bk _ _ hC,hN.keeps I1.bk,T.keeps I1.bk,λh' a me=>?_⟩;obtain⟨tt,e1,e2,e3⟩:=me.there;have J:Ç X Á σ H1 {s2 with heap:=h'}:=I1.kept (t':=s2.toks) me.keeps;have fl:Ϧ h' a (.ref C) .none:=⟨⟨_,_,e1,rfl,rfl,rfl,rfl⟩,.inl rfl⟩;refine W Á σ H1 _ a C .none J fl (I1.was hx me.new) (I1.hok.no me.new) (λT z=>by cases z) (λp hp=>?_) (q1 a (I1.hok.no me.new));obtain⟨e,_⟩:=I1.pin p hp;exact⟨λz=>(by rw[z,me.new]at e;cases e),λz=>(by cases z)⟩
end
theorem oY{K:Frag}:wO (jt (Ŵ P w) P w K mg base N qual scope f cd A outer s H E) λa C H'=>E (.ref a) (some C) H':=by
 intro Á σ H' s' a C tb I fl na fa ft _ q;have cE:s'.heap.FunFrames base (envOfC qual scope s.heap.objs.size f cd::outer):=I.stack;have lI:(A.deeper (envOfC qual scope s.heap.objs.size f cd)).frames=some (envOfC qual scope s.heap.objs.size f cd::outer):=I.ok.frames;have yB:(envOfC qual scope s.heap.objs.size f cd).frame=some s.heap.objs.size:=by rfl
 have ub:Un (ė outer) [] H H' s.heap s'.heap:=I.base;have na:s.heap.get? a=none:=na;have ft:∀T,tb=.ref T->s.heap.get? T=none/\H' T=none:=ft;refine wN lI cE yB fl λh' T nT iF k1 k2 k3=>?_;have apart:∀b o,s.heap.get? b=some o->b≠a/\tb≠.ref b:=λb o e=>⟨λz=>(by rw[z,na]at e;cases e),λz=>(by rw[(ft b z).1]at e;cases e)⟩;have Lv:∀b o,s.heap.get? b=some o->b∉ė outer->b∉ė (envOfC qual scope s.heap.objs.size f cd::outer):=λb o e hn hm=>by
  unfold ė at hm;rw[Za2,yB]at hm;rcases ĩ.mp hm with z|z;.exact absurd (ÿ e) (by rw[z];exact η _)
  .exact hn z
 refine⟨a,C,H',T,rfl,I.os,I.bare,⟨λb o e n hb _=>?_,λb o e n hb _=>?_,ub.free,λb o e hx=>?_,ub.tups,ub.frzs,ub.tbls⟩,λc o e=>?_,na,?_,fa,I.hok.no nT,iF,q⟩;.exact k1 b o (ub.keep b o e n hb Ù) (apart b o e).1 (apart b o e).2 (Lv b o e hb)
 .obtain⟨sl,e1⟩:=ub.slot b o e n hb Ù;obtain⟨kC,e2⟩:=k2 b _ e1 (apart b o e).1 (apart b o e).2;exact⟨kC,e2⟩
 .obtain⟨o',e1⟩:=ub.there b o e hx;exact k3 b o' e1
 .refine(I.hok c o e).stay (λd v hd z=>?_) (λ_ z=>z) λ_ _ z=>z;have DS:∃o',H' d=some o':=by grind
  obtain⟨o',eo⟩:=DS;refine k1 d v z (λy=>(by rw[y,fa]at eo;cases eo)) (λy=>(by rw[(ft d y).2]at eo;cases eo)) λhm=>?_;rw[I.stkFree d hm]at eo;cases eo
 .exact I.was rfl nT
theorem ã.okX{K:Frag}{st:Stmt}{f:Addr}{fd:FuncData}{N ps:ó}{k:Nat}{sp:Sp}(F:ã K x qual st f fd)(S:Ã N ps (aD st))(len:∀vs H Q E,sp vs H Q E->vs.length=ps.length)(ay:∀ai A outer s H vs Q E,ì k (A.deeper (envOfC qual (aD st) s.heap.objs.size f ai))->sp vs H Q E->∃t,ľ (jt (Ŵ P w) P w K mg base N qual (aD st) f ai A outer s H E) (cV st) t/\t {nx:=λ_ H'=>Q .non H',rt:=Q} (start N vs) H):Ñ P w K mg base (Ŵ P w) (k+1) f fd ps sp:=by obtain⟨oc,od,kV,doc,pm,an,ai,ct,kX,rfl,lk,eI⟩:=F.ex;exact Ep lk eI S len λA outer s H vs Q E hr gT=>ay ai A outer s H vs Q E hr gT
theorem ã.oqX{K:Frag}{st:Stmt}{f:Addr}{fd:FuncData}{N ps:ó}{k:Nat}{sp:Sp}(F:ã K x qual st f fd)(S:Ã N ps (aD st))(ay:∀ai A outer s H vs Q E,ì k (A.deeper (envOfC qual (aD st) s.heap.objs.size f ai))->sp vs H Q E->∃t,ľ (jt (Ŵ P w) P w K mg base N qual (aD st) f ai A outer s H E) (cV st) t/\t {nx:=λ_ H'=>Q .non H',rt:=Q} (start N vs) H)(len:Ϛ sp ps:=by exact{}):Ñ P w K mg base (Ŵ P w) (k+1) f fd ps sp:=F.okX S len.h ay
theorem G3{K:Frag}(X:K.In h)(hm:mg x=some (.ref C))(q:PySem.W.excIn K C OX newId=true):OwnCls x C OX newId mg h:=by
 refine⟨hm,?_⟩;unfold PySem.W.excIn at q;split at q
 .rename_i dd cd sl ho;split at q;.rename_i C' bm k0 k1 k2 k3 n k5 AO hs;simp only[Bool.and_eq_true,beq_iff_eq,Bool.not_eq_true']at q;obtain⟨⟨⟨⟨⟨rfl,rfl⟩,DT⟩,ht⟩,hok⟩,FV⟩:=q;obtain⟨nm,bs,mro,ns,qn,hd,sn,sub,ab,col,del⟩:=cd;dsimp only at AO DT hok FV;subst AO DT;obtain⟨l⟩:=sl;subst hs;exact⟨bm,ns,nm,qn,bs,hd,sn,sub,ab,col,dd,k0,k1,k2,k3,k5,_,X _ _ ho,.of_isNs (PySem.W.isNs_of_in X hok),PySem.W.nsMap_none_of_in X hok FV,PySem.W.tail_of_in X ht⟩
  .cases q
 .cases q
section
variable{σ:St}
theorem Ϧ.ne(fl:Ϧ h a C tb)(e:h.get? b=some o)(hd:∀vs,o.data≠.fields vs):b≠a/\tb≠.ref b:=by
 obtain⟨⟨oe,vs,he,_,hv,_,_⟩,tr⟩:=fl;refine⟨λz=>?_,λz=>?_⟩;.rw[z,he]at e;cases e;exact hd vs hv
 .rcases tr with q|⟨T,oT,ts,q,_,hT,pb,_⟩;.rw[q]at z;cases z
  .rw[q]at z;cases z;rw[hT]at e;cases e;exact hd ts pb
theorem Ç.left(I:Ç X Á σ H s)(hx:X.ex=[])(fl:Ϧ s.heap a C tb)(na:X.s₀.heap.get? a=none)(fa:H a=none)(ft:∀T,tb=.ref T->X.s₀.heap.get? T=none/\H T=none)(hp:∀p∈X.pn++Á,p.1≠a/\tb≠.ref p.1)(k1:∀b o,s.heap.get? b=some o->b≠a->tb≠.ref b->b∉ė X.stack->h'.get? b=some o)(k2:∀b o,s.heap.get? b=some o->b≠a->tb≠.ref b->∃sl,h'.get? b=some {o with slots:=sl})(k3:∀b o,s.heap.get? b=some o->∃o',h'.get? b=some o'):Ç X Á σ H {s with heap:=h',toks:=t'}:=by
 have tr:∀b u,H b=some u->b≠a/\tb≠.ref b/\b∉ė X.stack:=λb u e=>⟨λz=>(by rw[z,fa]at e;cases e),λz=>(by rw[(ft b z).2]at e;cases e),λz=>(by rw[I.stkFree b z]at e;cases e)⟩;have old:∀b o,X.s₀.heap.get? b=some o->b≠a/\tb≠.ref b:=λb o e=>⟨λz=>(by rw[z,na]at e;cases e),λz=>(by rw[(ft b z).1]at e;cases e)⟩;have Fc:∀b o,X.s₀.heap.get? b=some o->b≠X.env.locals:=λb o e=>Ĩ (Ł (ÿ e) I.ok.above);have OY:∀b,b≠X.env.locals->b∉X.fs->b∉ė X.stack:=λb h1 h2 z=>(ĩ.mp (I.stkSub b z)).elim h1 h2;have cellK:∀x c,X.env.cells.lookup x=some c->∀v,s.heap.IsCell c v->h'.IsCell c v:=λx c e v hZ=>by
  obtain⟨o,ho,hd⟩:=hZ;obtain⟨n1,n2⟩:=fl.ne ho λvs q=>by rw[hd]at q;cases q
  obtain⟨sl,q⟩:=k2 c o ho n1 n2;exact⟨_,q,hd⟩
 refine⟨I.ok,I.os,I.bare,⟨λb o e n hb cq=>?_,λb o e n hb cq=>?_,I.base.free,λb o e cq=>?_,I.base.tups,I.base.frzs,I.base.tbls⟩,?_,λx c e=>?_,I.free,I.freeC,λp iL=>?_,λc o e=>?_,I.len⟩;.exact k1 b o (I.base.keep b o e n hb cq) (old b o e).1 (old b o e).2 (OY b (Fc b o e) hb)
 .obtain⟨sl,e1⟩:=I.base.slot b o e n hb cq;obtain⟨kC,e2⟩:=k2 b _ e1 (old b o e).1 (old b o e).2;exact⟨kC,e2⟩
 .obtain⟨o',e1⟩:=I.base.there b o e cq;exact k3 b o' e1
 .obtain⟨m,⟨o,es,ep,ho,hd,r⟩,hl⟩:=I.loc;obtain⟨n1,n2⟩:=fl.ne ho λvs q=>by rw[hd]at q;cases q
  obtain⟨sl,q⟩:=k2 _ o ho n1 n2;refine⟨m,⟨_,es,ep,q,hd,r⟩,λi x v e1 e2 e3=>?_⟩;obtain⟨u,rr,l⟩:=hl i x v e1 e2 e3;refine⟨u,rr,?_⟩;rcases l with l|⟨k,c,e,z⟩;.exact .inl l
  .exact .inr ⟨k,c,e,cellK x c e _ z⟩
 .obtain⟨v,z⟩:=I.cell x c e;exact⟨v,cellK x c e v z⟩
 .obtain⟨e,n,ne,nf,d⟩:=I.pin p iL;exact⟨k1 p.1 p.2 e (hp p iL).1 (hp p iL).2 (OY p.1 ne nf),n,ne,nf,d⟩
 .refine(I.hok c o e).stay (λd v hd z=>?_) (λ_ z=>z) λ_ _ z=>z;have DS:∃o',H d=some o':=by grind
  obtain⟨o',eo⟩:=DS;obtain⟨t1,t2,t3⟩:=tr d o' eo;exact k1 d v z t1 t2 t3
end
structure Ď(k:Nat)(A:Around):Prop where
 dp:A.depth+3*k+5<recursionLimit
 un:A.units+16*k+200<cLine
 gd:A.guards=some []
theorem ì.toU(r:ì k A):Ď k A:=⟨r.dp,r.un,r.gd⟩
theorem Ď.mono(r:Ď k A)(h:j<=k):Ď j A:=⟨by have:=r.dp;lia,by have:=r.un;lia,r.gd⟩
structure ū(P:Program)(w:World)(K:Frag)(mg:TX)(base:Heap)(CX:CXT)(k:Nat)(f:Addr)(fd:FuncData)(ps:ó)(sp:Sp):Prop where
 len:∀vs H Q E,sp vs H Q E->vs.length=ps.length
 run:∀A outer s H args us vs Q E,Ď k A->Ŀ P w K mg base A outer s H->BindsTo s fd args (ps.zip us)->Ï vs us->sp vs H Q E->codeAny (model P w) A (.call (.ref f) args) (CR CX outer P w H s Q E) s
abbrev Cx.un(X:Cx)(A:Around):Cx:={X with A:=A,calm:=false}
theorem Ç.un'{σ:St}(I:Ç X Á σ H s)(A:Around)(hA:A.frames=X.A.frames):Ç (X.un A) Á σ H s:=⟨⟨I.ok.mod,I.ok.kind,I.ok.glob,I.ok.blt,I.ok.above,I.ok.inj,I.ok.has,I.ok.cab,λz=>(by cases z),hA.trans I.ok.frames,I.ok.stk,I.ok.exf,I.ok.bs,I.ok.bsz,I.ok.noex,I.ok.exfs,I.ok.funs,I.ok.frf⟩,I.os,I.bare,I.base,I.loc,I.cell,I.free,I.freeC,I.pin,I.hok,I.len⟩
def qt(A:Around):Around:={A with handled:=none}
theorem Ŀ.qt{K:Frag}(e:Ŀ P w K mg base A outer s H):Ŀ P w K mg base (qt A) outer s H:=⟨e.frames,e.mod,e.bs,e.bsz,e.funs,e.frf,e.hok,e.bare⟩
theorem Ď.mark(r:Ď k A)(v:Option Value):Ď k (A.mark v):=⟨r.dp,r.un,r.gd⟩
theorem Ď.deeper(r:Ď (k+1) A)(env:Env):Ď k (A.deeper env):=⟨by have:=r.dp;show A.depth+1+3*k+5<_;lia,by have:=r.un;show A.units+3+16*k+200<_;lia,r.gd⟩
theorem ã.okU{K:Frag}{st:Stmt}{f:Addr}{fd:FuncData}{N ps:ó}{k:Nat}{sp:Sp}(F:ã K x qual st f fd)(S:Ã N ps (aD st))(len:∀vs H Q E,sp vs H Q E->vs.length=ps.length)(ay:∀ai A outer s H vs Q E,Ď k (A.deeper (envOfC qual (aD st) s.heap.objs.size f ai))->sp vs H Q E->∃t,ľ (((jt ä P w K mg base N qual (aD st) f ai (qt A) outer s H E).un (A.deeper (envOfC qual (aD st) s.heap.objs.size f ai))).nox) (cV st) t/\t {nx:=λ_ H'=>Q .non H',rt:=Q} (start N vs) H):ū P w K mg base ä (k+1) f fd ps sp:=by
 obtain⟨oc,od,kV,doc,pm,an,ai,ct,kX,rfl,lk,eI⟩:=F.ex;refine⟨len,λA outer s H args us vs Q E hr e0 hb r gT=>?_⟩;have hl:=len _ _ _ _ gT;have KX:K.In s.heap:=e0.mod.kin.keeps λb o e=>(e0.bs b o e).1;have lim:s.heap.NoLimit:=e0.mod.nolimit.keeps λb o e=>(e0.bs b o e).1;have mh:∀y∈ps.zip us,(aD st).names.lookup y.1=some .local\/((aD st).names.lookup y.1=some .cell/\((cellsFrom (s.heap.objs.size+1) (aD st).names []).lookup y.1).isSome=true):=λ⟨n,v⟩hy=>by
  rcases S.par n (Ϫ hy).1 with q|q;.exact .inl q
  .exact .inr ⟨q,PySem.W.cellsFrom_some _ _ _ (.inl q)⟩
 refine codeAny_call_function (by have:=hr.dp;lia) (KX _ _ lk) rfl S.co S.gen rfl (PySem.W.codeRec_of KX eI) (hb _ _ _ _ ?_);refine wpAny_newFunctionEnv_cells S.kind mh λenv he s1 x=>?_;subst he;refine⟨lim.keeps x.toInCall.keep,codeAny_func ?_⟩;obtain⟨t,ht,hq⟩:=ay ai A outer s H vs Q E (hr.deeper _) gT;have I:Ç (jt ä P w K mg base N qual (aD st) f ai (qt A) outer s H E) [] (start N vs) H s1:=sO S rfl e0.qt hl r x;have J:=(I.un' (A.deeper (envOfC qual (aD st) s.heap.objs.size f ai)) rfl).wish λ_ _=>False;refine wpAny_mono (ht [] s1 (start N vs) H _ J hq) (λfl s' hs=>?_) λe s' hs=>hs.elim;have fin:∀{ah:St}{H':Hp}{v:V}{u:Value},Ç (((jt ä P w K mg base N qual (aD st) f ai (qt A) outer s H E).un (A.deeper (envOfC qual (aD st) s.heap.objs.size f ai))).nox) [] ah H' s'->Ô v u->Q v H'->CE outer P w H s Q u s':=λ{ah H' v u}J rv q=>⟨v,H',J.os,J.bare,J.base,J.hok,rv,q⟩;cases fl with|ret u=>obtain⟨v,ah,H',J,rv,q⟩:=hs;exact fin J rv q;|next=>obtain⟨ah,H',J,q⟩:=hs;exact fin (v:=V.non) (u:=Value.none) J rfl q;|brk=>obtain⟨_,_,_,q⟩:=hs;exact False.elim q;|cont=>obtain⟨_,_,_,q⟩:=hs;exact False.elim q
theorem ã.oqU{K:Frag}{st:Stmt}{f:Addr}{fd:FuncData}{N ps:ó}{k:Nat}{sp:Sp}(F:ã K x qual st f fd)(S:Ã N ps (aD st))(ay:∀ai A outer s H vs Q E,Ď k (A.deeper (envOfC qual (aD st) s.heap.objs.size f ai))->sp vs H Q E->∃t,ľ (((jt ä P w K mg base N qual (aD st) f ai (qt A) outer s H E).un (A.deeper (envOfC qual (aD st) s.heap.objs.size f ai))).nox) (cV st) t/\t {nx:=λ_ H'=>Q .non H',rt:=Q} (start N vs) H)(len:Ϛ sp ps:=by exact{}):ū P w K mg base ä (k+1) f fd ps sp:=F.okU S len.h ay
section
variable{p pos:Pos}
theorem G4(F:ū X.prog X.w X.K X.mg X.base ä k f fd ps sp)(hr:Ď k X.A)(hg:Gl X x)(hm:X.mg x=some (.ref f))(hk:PySem.W.keepIn X.K (.ref f)=true)(hb:ø X.K fd ps [])(ha:PA X (e::es) t)(fk:ź x:=by decide)(he:Qa8 X e es:=by rfl)(ff:Qa9 X pos es:=by rfl):PE X (.Call (.Name x p) (e::es) [] pos) (vO sp [] E0 t):=by
 intro Á s σ H Q I h;refine wpAny_Call_Name_kw (jL I hg hm ?_ fk);refine PySem.W.callWith_K (h₀:=X.base) I.ok.mod.kin hk (Þ (ha pos Á s σ H _ I h) λus s1⟨vs,H1,I1,r,q⟩=>⟨I1.kIn,?_⟩) he ff;have q:sp (vs++[]) H1 Q E0:=q;rw[Ś]at q;have hl:(us++[]).length=ps.length:=by rw[Ś,<-r.length];exact F.len _ _ _ _ q
 have DU:=hb s1 us I1.kIn hl;rw[Ś]at DU;refine wpAny_call (codeAny_mono (F.run X.A X.stack s1 H1 ⟨us,[]⟩ us vs Q E0 hr I1.env0 DU r q) λrr s' hq=>?_);cases rr with|error e=>exact(hq).elim;|ok fl=>cases fl with|ret u=>exact I1.after hq;|next=>exact False.elim hq;|brk=>exact False.elim hq;|cont=>exact False.elim hq
end
def þ(a C:Addr)(h:Heap):Prop:=∃o vs,h.get? a=some o/\o.cls=.ref C/\o.data=.fields vs/\o.dict=none
theorem þ.ok(x:þ a C h):Ú P w H h a (.ext (þ a C)):=⟨x,(let⟨o,_,e,_⟩:=x;⟨o,e⟩),λh1 h2 z k=>(let⟨o,vs,e,r⟩:=z;⟨o,vs,k o e,r⟩)⟩
theorem ą.tracked(x:ą P w H h)(n:H a=none)(new:Ú P w (upd H a o) h a o):ą P w (upd H a o) h:=λb u e=>by
 by_cases z:b=a;.subst z;rw[aj]at e;cases e;exact new
 .rw[aq z]at e;exact(x b u e).stay (λ_ _ _ q=>q) (λc q=>by rw[aq (aB q n)];exact q) λc xs q=>by rw[aq (aB q n)];exact q
theorem Ç.track{σ:St}(I:Ç X Á σ H s)(hx:X.ex=[])(n:H a=none)(na:X.s₀.heap.get? a=none)(hL:a≠X.env.locals)(hc:∀x c,X.env.cells.lookup x=some c->c≠a)(hp:∀p∈X.pn++Á,p.1≠a)(new:Ú X.prog X.w (upd H a o) s.heap a o):Ç X Á σ (upd H a o) s:=⟨I.ok,I.os,I.bare,⟨I.base.keep,I.base.slot,λb ob e h1 h2=>(by rw[aq (λz=>(by rw[z,na]at e;cases e))];exact I.base.free b ob e h1 h2),I.base.there,λb xs e=>(have q:=I.base.tups b xs e;by rw[aq (aB q n)];exact q),λb ob u e=>(have q:=I.base.frzs b ob u e;by rw[aq (aB q n)];exact q),λb ps e=>(let⟨m,q⟩:=I.base.tbls b ps e;⟨m,by rw[aq (aB q n)];exact q⟩)⟩,I.loc,I.cell,(by rw[aq (Ne.symm hL)];exact I.free),λx c e=>(by rw[aq (hc x c e)];exact I.freeC x c e),λp iL=>(let⟨e,n1,r⟩:=I.pin p iL;⟨e,by rw[aq (hp p iL)];exact n1,r⟩),I.hok.tracked n new,I.len⟩
open PySem PySem.Spec PyProof.Rows PySem.Calls PySem.W
theorem Dg:entryFor table "BaseException.__getattribute__"=some Builtin.«object.__getattribute__»:=entryFor_alias (id':="object.__getattribute__") (by kernel_rfl) (by first|rfl|decide+kernel) z04 (by kernel_rfl)
section
variable{K:Frag}
theorem G5(hc:(clsIn K C).isSome=true)(ha:findIn K (.ref C) name=some (some a))(hg:specialIn K a "__get__"=some (some g))(ht:takesIn K a=some true):findObj K C none name=some (.bind g a):=by obtain⟨cd,hc⟩:=Zau.mp hc;unfold findObj;rw[hc,Option.bind_some,ha,Option.bind_some];simp[hg,ht]
theorem LR(X:K.In s.heap)(I:InstAt s.heap x ox C none)(hf:findObj K C none "__class__"=some (.bind (.builtin "getset_descriptor.__get__") (.builtin "object.__class__")))(hm:mroIn K C (.type "object")=some true)(h:Q (.done (.ret (.ref C))) s):wpAny (model prog w) A (Builtin.«object.__getattribute__» ⟨[.ref x,.str "__class__" tk],[]⟩) Q E s:=by
 obtain⟨hh,g,d,t,os⟩:=s;have L0:=I.type (M:=model prog w);have L1:=looks_find (M:=model prog w) X I hf;unfold Builtin.«object.__getattribute__»;repeat lk
 refine wpAny_run (class_get X I hm ?_);repeat lk
 exact h
theorem Δ:Slot "BaseException" "__getattribute__" "BaseException.__getattribute__":=.of (owner:="BaseException") (n:="__getattribute__") (by rw[typeLookup_type,builtinLookup_eq_fast];kernel_rfl) z04 z04 z04 (by first|exact .inl z04|exact .inr z04) (by rw[isSubtype_type];kernel_rfl)
theorem G6:builtinKind "BaseException.__getattribute__"=some .slot:=by decide+kernel
theorem Dh:splitId "BaseException.__getattribute__"=some ("BaseException","__getattribute__"):=by decide+kernel
theorem Jg:∃sig,Manifest.signature? "BaseException.__getattribute__"=sig/\∀a b:Value,(match sig with|none=>(pure ():Sem Unit)|some g=>Bind.checkArgs "BaseException.__getattribute__" g ⟨[a,b],[]⟩)=pure ():=⟨_,rfl,λa b=>by kernel_rfl⟩
theorem Di(L:Looks (model prog w) s.heap (isInstance (.ref x) (.type "BaseException")) true)(h:Q () s):wpAny (model prog w) A (checkBuiltinCall "BaseException.__getattribute__" ⟨[.ref x,b],[]⟩) Q E s:=by simp only[checkBuiltinCall,G6,Dh];refine Å (L.at ?_);simp only[Bool.not_true,Bool.false_eq_true,if_false];obtain⟨sig,e,r⟩:=Jg;have r:=r (.ref x) b;rw[e];cases sig with|none=>exact Ý h;|some g=>show wpAny _ _ (Bind.checkArgs "BaseException.__getattribute__" g ⟨[.ref x,b],[]⟩) Q E s;have r:Bind.checkArgs "BaseException.__getattribute__" g ⟨[.ref x,b],[]⟩=pure ():=r;rw[r];exact Ý h
theorem Dj(X:K.In s.heap)(I:InstAt s.heap x ox C none)(Uw:findIn K (.ref C) "__getattribute__"=some (some (.builtin "BaseException.__getattribute__")))(Ux:findIn K (.ref C) "__getattr__"=some none)(hf:findObj K C none "__class__"=some (.bind (.builtin "getset_descriptor.__get__") (.builtin "object.__class__")))(hm:mroIn K C (.type "object")=some true)(hb:mroIn K C (.type "BaseException")=some true)(h:Q (some (.ref C)) {s with toks:=s.toks+1}):wpAny (model prog w) A (getAttr? (.ref x) "__class__") Q E s:=by
 obtain⟨hh,g,d,t,os⟩:=s;have L0:=I.type (M:=model prog w);have L1:=looks_findIn (M:=model prog w) X Uw;have L2:=looks_findIn (M:=model prog w) X Ux;have L3:=looks_mroIn (M:=model prog w) X hb;unfold getAttr? getAttrBy? getAttrBy;refine Å (wpAny_mkText (Å (wpAny_attempt (wpAny_holding (Å (L0.at (Å (L1.at ?_))))))));show wpAny _ _ (getAttrByItsOwn _ _ _ _ _ _) _ _ _;unfold getAttrByItsOwn hookBefore;refine Å ?_;rw[Í (show onTheHeap (.ref C)=true from rfl)];refine L2.at ?_;refine Å (wpAny_attempt (wpAny_holding ?_));show wpAny _ _ (boundAndCalled (.builtin "BaseException.__getattribute__") (.ref x) (.str "__class__" t)) _ _ _;unfold boundAndCalled;refine Å (wpAny_of_eq (Δ.bind _) ?_);refine wpAny_call (codeAny_call_builtin Δ.plain Dg (Di (s:=⟨hh,g,d,t+1,os⟩) (L0.andThen L3) ?_));refine LR (s:=⟨hh,g,d,t+1,os⟩) X I hf hm ?_;show wpAny _ _ (handedOut (.ref C)) _ _ _;repeat lk
 exact h
end
structure Z03(K:Frag)(C:Addr):Prop where
 cl:(clsIn K C).isSome=true
 ga:findIn K (.ref C) "__getattribute__"=some (some (.builtin "BaseException.__getattribute__"))gb:findIn K (.ref C) "__getattr__"=some none
 fc:findIn K (.ref C) "__class__"=some (some (.builtin "object.__class__"))sg:specialIn K (.builtin "object.__class__") "__get__"=some (some (.builtin "getset_descriptor.__get__"))tk:takesIn K (.builtin "object.__class__")=some true
 ob:mroIn K C (.type "object")=some true
 be:mroIn K C (.type "BaseException")=some true
theorem þ.inst(x:þ a C h):∃ox,InstAt h a ox C none:=by obtain⟨o,vs,e,c,d,dd⟩:=x;refine⟨o,e,c,?_,by rw[dd];trivial⟩;unfold notCls;rw[d]
theorem wR{K:Frag}(Z:Z03 K C):KitX K (.ref a) (.ref C) (þ a C)where
 ty:=λM h _ p=>(let⟨_,I⟩:=p.inst;I.type);it:=λM h X _=>by
  have z:=Z.cl;unfold clsIn at z;split at z;.rename_i c' d' cd' Fm ho;intro A' Q' E' s' k q;unfold isType loadHead;exact Å (wpAny_loadPart (k _ _ (X _ _ ho)) (Ý q))
  .cases z
 ne:=λh tp dd Æ n sl X e=>by
  refine Bool.eq_false_iff.mpr λq=>?_;have q:C=tp:=by have:=beq_iff_eq.mp q;injection this
  subst q;have z:=Z.cl;unfold clsIn at z;split at z;.rename_i c' d' cd' Fm ho;have:=X _ _ ho;rw[e]at this;cases this
  .cases z
 ca:=λ{prog w A E Q s}X p h=>by obtain⟨ox,I⟩:=p.inst;exact Dj X I Z.ga Z.gb (G5 Z.cl Z.fc Z.sg Z.tk) Z.ob Z.be h
theorem mD:eO X (.builtin "isinstance") (λxs H Q=>∃a C c b,xs=[.ref a,c]/\H a=some (.ext (þ a C))/\Z03 X.K C/\((∃D,c=.ref D/\kitOne X.K (.ref C) (.ref D)=some b)\/∃n,c=.ty n/\kitOne X.K (.ref C) (.type n)=some b)/\Q (.bl b) H):=by
 intro Á s σ H xs us Q I r h;obtain⟨a,C,c,b,rfl,e,Z,hk,q⟩:=h;obtain⟨u,v,rfl,ru,rv⟩:=ň r;cases(show u=Value.ref a from ru);obtain⟨p,_⟩:=(show Ú X.prog X.w H s.heap a (.ext (þ a C))from I.hok a _ e);rcases hk with⟨D,rfl,hk⟩|⟨n,rfl,hk⟩;.cases(show v=Value.ref D from rv);exact kia_one (wR Z) I.kIn p hk (λz=>nomatch z) λtk=>⟨.bl b,H,I.tok _,rfl,q⟩
 .cases(show v=Value.type n from rv);exact kia_one (wR Z) I.kIn p hk (λz=>nomatch z) λtk=>⟨.bl b,H,I.tok _,rfl,q⟩
section
variable{K:Frag}{s:Shared}
structure ų(K:Frag)(C D:Addr):Prop where
 nt:typeIn K (.ref D)=some (.type "type")ty:(clsIn K D).isSome=true
 be:subIn K (.ref D) (.type "BaseException")=some true
 su:subIn K (.ref C) (.ref D)=some true
theorem Dk(X:K.In s.heap)(h:(clsIn K D).isSome=true):Looks (model prog w) s.heap (isType (.ref D)) true:=by
 unfold clsIn at h;split at h;.rename_i c' d' cd' Fm ho;intro A' Q' E' s' k q;exact Å (wpAny_loadPart (k _ _ (X _ _ ho)) (Ý q))
 .cases h
theorem wU(X:K.In s.heap)(I:InstAt s.heap a ox C none)(Z:ų K C D)(h:Q true s):wpAny (model prog w) A (excMatches (.ref a) (.ref D)) Q E s:=by
 have L0:=I.type (M:=model prog w);have L1:=looks_typeIn (M:=model prog w) X Z.nt;have L2:=Dk (prog:=prog) (w:=w) X Z.ty;have L3:=looks_subIn (M:=model prog w) X Z.be;have L4:=looks_subIn (M:=model prog w) X Z.su;have f:=tc_notTuple;repeat(first|with_reducible refine L1.at ?_|with_reducible refine L0.at ?_|with_reducible refine L2.at ?_|with_reducible refine L3.at ?_|with_reducible refine L4.at ?_|wp_step)
 exact h
end
theorem Dl(fl:Ϧ s.heap a C tb)(h:∀h',Ϧ h' a C tb->(∀b o,s.heap.get? b=some o->tb≠.ref b->h'.get? b=some o)->(∀b o,s.heap.get? b=some o->∃o',h'.get? b=some o')->Q () {s with heap:=h'}):wpAny M A (setFlight (.ref a) none) Q E s:=by
 obtain⟨⟨oe,vs,he,hc,hd,h1,mx⟩,tr⟩:=id fl;refine Å (wpAny_field he hd h1 ?_);rcases tr with rfl|⟨T,oT,ts,rfl,nT,hT,pb,h3⟩;.rw[Ë Û];exact Ý (h s.heap fl (λb o e _=>e) λb o e=>⟨o,e⟩)
 .rw[Í (show(Value.ref T !=Value.none)=true by simp)];have z3:=(Array.getElem?_eq_some_iff.mp h3).1;refine wpAny_setField hT pb z3 ?_;have g3:=Heap.get?_update_self (Obj.mapFields (·.setIfInBounds 3 ((none:Option Addr).elim Value.none λf=>rawInt f))) hT (Obj.isFreed_of_fields (Obj.data_mapFields pb _));have o3:∀b,b≠T->(s.heap.update T (Obj.mapFields (·.setIfInBounds 3 ((none:Option Addr).elim Value.none λf=>rawInt f)))).get? b=s.heap.get? b:=λb hb=>Heap.get?_update_other _ _ (Ne.symm hb);refine h _ ⟨⟨oe,vs,(o3 a (Ne.symm nT)).trans he,hc,hd,h1,mx⟩,.inr ⟨T,_,_,rfl,nT,g3,Obj.data_mapFields pb _,by simp[z3]⟩⟩ (λb o e hb=>(o3 b λz=>hb (by rw[z])).trans e) λb o e=>?_;by_cases z:b=T;.rw[z];exact⟨_,g3⟩
  .exact⟨o,(o3 b z).trans e⟩
abbrev Cx.tr(X:Cx)(Á:T7)(xe:TQ):Cx:={X with pn:=X.pn++Á,xe:=xe}
theorem Ç.tr{σ:St}(I:Ç X Á σ H s)(xe:TQ):Ç (X.tr Á xe) [] σ H s:=⟨⟨I.ok.mod,I.ok.kind,I.ok.glob,I.ok.blt,I.ok.above,I.ok.inj,I.ok.has,I.ok.cab,I.ok.hd,I.ok.frames,I.ok.stk,I.ok.exf,I.ok.bs,I.ok.bsz,I.ok.noex,I.ok.exfs,I.ok.funs,I.ok.frf⟩,I.os,I.bare,I.base,I.loc,I.cell,I.free,I.freeC,λp hp=>I.pin p (by simpa using hp),I.hok,I.len⟩
theorem Ç.untr{σ:St}(I:Ç (X.tr Á xe) gS σ H s):Ç X Á σ H s:=⟨⟨I.ok.mod,I.ok.kind,I.ok.glob,I.ok.blt,I.ok.above,I.ok.inj,I.ok.has,I.ok.cab,I.ok.hd,I.ok.frames,I.ok.stk,I.ok.exf,I.ok.bs,I.ok.bsz,I.ok.noex,I.ok.exfs,I.ok.funs,I.ok.frf⟩,I.os,I.bare,I.base,I.loc,I.cell,I.free,I.freeC,λp hp=>I.pin p (Zaw _ hp),I.hok,I.len⟩
theorem Ç.drop{σ:St}(I:Ç X Á σ H s)(hN:X.N.Nodup)(hi:X.N[i]?=some x)(hl:∀(i:Nat)x v,X.N[i]?=some x->σ[i]?=some (some v)->Vis X.env.scope x->∃u,Ô v u/\Look X.env s.heap m x u)(hn:h'.Ns X.env.locals λy=>if y=x then u else m y)(sb:Heap.SameBut X.env.locals s.heap h'):Ç X Á (σ.set i none) H {s with heap:=h'}:=by
 have nL:∀b o,X.s₀.heap.get? b=some o->b≠X.env.locals:=λb o e=>Ĩ (Ł (ÿ e) I.ok.above);have cK:∀y c,X.env.cells.lookup y=some c->∀v,s.heap.IsCell c v->h'.IsCell c v:=λy c e v=>by rintro⟨o,ho,hd⟩;exact⟨o,(sb.2 c (I.cne y c e)).trans ho,hd⟩
 refine⟨I.ok,I.os,I.bare,⟨λb o e n hb hx=>(sb.2 b (nL b o e)).trans (I.base.keep b o e n hb hx),λb o e n hb hx=>?_,I.base.free,λb o e hx=>?_,I.base.tups,I.base.frzs,I.base.tbls⟩,⟨_,hn,λj y v e1 e2 e3=>?_⟩,λy c e=>?_,I.free,I.freeC,λp hp=>?_,λc o e=>?_,by rw[Za0];exact I.len⟩;.obtain⟨sl,e1⟩:=I.base.slot b o e n hb hx;exact⟨sl,(sb.2 b (nL b o e)).trans e1⟩
 .obtain⟨o',e1⟩:=I.base.there b o e hx;exact⟨o',(sb.2 b (nL b o e)).trans e1⟩
 .by_cases z:i=j
  .subst z;by_cases ax:i<σ.length;.rw[Zay ax]at e2;cases e2
   .rw[Zaj (by rw[Za0];lia)]at e2;cases e2
  .rw[List.getElem?_set_ne z]at e2;obtain⟨u',r,l⟩:=hl j y v e1 e2 e3;refine⟨u',r,?_⟩;rcases l with⟨k,l⟩|⟨k,c,e,w'⟩
   .refine .inl ⟨k,?_⟩;show(if y=x then u else m y)=some u';rw[Ë λq=>z ?_];.exact l
    .rw[q]at e1;obtain⟨h1,g1⟩:=ĵ.mp hi;obtain⟨h2,g2⟩:=ĵ.mp e1;exact(List.getElem_inj hN).mp (g1.trans g2.symm)
   .exact .inr ⟨k,c,e,cK y c e _ w'⟩
 .obtain⟨v,w'⟩:=I.cell y c e;exact⟨v,cK y c e v w'⟩
 .obtain⟨e,n,ne,r⟩:=I.pin p hp;exact⟨(sb.2 p.1 ne).trans e,n,ne,r⟩
 .refine(I.hok c o e).stay (λd v hd z=>(sb.2 d λq=>?_).trans z) (λ_ z=>z) λ_ _ z=>z;rcases hd with y|y;.rw[y]at q;rw[q,I.free]at e;cases e
  .rw[q,I.free]at y;cases y
theorem jR{σ:St}(I:Ç X Á σ H s)(hN:X.N.Nodup)(hi:X.N[i]?=some x)(hx:X.env.scope.names.lookup x=some .local)(h:∀s',Ç X Á (σ.set i none) H s'->Q () s'):wpAny (model X.prog X.w) A (do bindName X.env x .none;unbindBehindTheSuite X.env x pos) Q E s:=by
 have DV:i<X.N.length:=(ĵ.mp hi).1;refine Å (wpAny_bindName (jK (v:=.non) I hN hi (.inl hx) rfl (λs1 I1 _=>?_) (.inr hx)));obtain⟨m,hn,hl⟩:=id I1.loc;obtain⟨u,_,lk⟩:=hl i x .non hi (by rw[Zay (by rw[I.len];exact DV)]) (.inl hx);have hv:m x=some u:=by
  rcases lk with⟨_,z⟩|⟨k,_⟩;.exact z
  .have cq:X.env.kindOf x=some .local:=hx;rw[cq]at k;rcases k with k|k<;>cases k
 refine wpAny_onRaise (wpAny_unbindName_local hx hn hv (by rw[I.ok.kind];rfl) λh' u' AL sb=>?_);have J:=I1.drop hN hi hl AL sb;rw[List.set_set]at J;exact h _ J
theorem Ç.back{σ:St}(I:Ç ((X.un A).wish xe) Á σ H s)(ok:X.Ok):Ç X Á σ H s:=⟨ok,I.os,I.bare,I.base,I.loc,I.cell,I.free,I.freeC,I.pin,I.hok,I.len⟩
def G7(D:Ŕ)(i:Nat):Ŕ:={nx:=λσ H=>D.nx (σ.set i none) H,rt:=D.rt,ct:=λσ H=>D.ct (σ.set i none) H,bk:=λσ H=>D.bk (σ.set i none) H}
def Qe(n i:Nat)(ok:Addr->Prop)(tb:(Addr->Addr->Hp->Prop)->TS)(th:TS):TS:=λD σ H=>tb (λa C H'=>ok C/\∀ah:St,ah.length=n->H' a=none->th (G7 D i) (ah.set i (some (.ref a))) (upd H' a (.ext (þ a C)))) D σ H
theorem M3(hm:X.mg y=some (.ref Dc))(hg:Gl X y)(hN:X.N.Nodup)(hi:X.N[i]?=some n)(hl:X.env.scope.names.lookup n=some .local)(hx:X.ex=[])(hs:X.stack=X.env::X.outer)(ay:∀Á xe EX,wO (X.tr Á xe) EX->ľ (X.tr Á xe) body (tb EX))(yT:∀v,ľ ((X.un (X.A.mark v)).nox) (rf::kf) th)(fk:(y==("__debug__":Str))=false:=by decide):PS X (.Try body [.ExceptHandler (some (.Name y np)) (some n) (rf::kf) aS] [] [] pos) (Qe X.N.length i (λC=>ų X.K C Dc) tb th):=by
 intro Á s σ H D I h;refine wpAny_Try_except ?_;have W:wO (X.tr Á λe s₁=>wpAny (model X.prog X.w) X.A (noteFrame e X.env) (λ_ s₂=>wpAny (model X.prog X.w) X.A (setFlight e none) (λ_ s₃=>wpAny (model X.prog X.w) X.A (handleBy e X.env [.ExceptHandler (some (.Name y np)) (some n) (rf::kf) aS]) (SP X Á D) X.xe s₃) X.xe s₂) X.xe s₁) (λa C H'=>ų X.K C Dc/\∀ah:St,ah.length=X.N.length->H' a=none->th (G7 D i) (ah.set i (some (.ref a))) (upd H' a (.ext (þ a C)))):=by
  intro gS oQ H1 s1 a C Uy I1 fl na fa ft hp q;obtain⟨Z,q⟩:=q;have J:=I1.untr;have lI:X.A.frames=some (X.env::X.outer):=by rw[<-hs];exact J.ok.frames
  have cE:s1.heap.FunFrames X.base (X.env::X.outer):=by rw[<-hs];exact J.stack
  have yB:X.env.frame=some X.env.locals:=by
   rcases J.ok.stk with z|z;.exact absurd (congrArg List.length (hs.symm.trans z)) Ù
   .exact z.2
  have hJ:∀p∈X.pn++Á,p.1≠a/\Uy≠.ref p.1:=λp iL=>hp p (Zaw _ iL);show wpAny (model X.prog X.w) X.A (noteFrame (.ref a) X.env) _ X.xe s1;refine Ao lI cE yB fl λh' T nT iF k1 k2 k3=>?_;have J2:Ç X Á oQ H1 {s1 with heap:=h'}:=J.left (t':=s1.toks) hx fl na fa ft hJ (by rw[hs];exact k1) k2 k3;have tf:∀T',Value.ref T=.ref T'->X.s₀.heap.get? T'=none/\H1 T'=none:=λT' z=>by cases z;exact⟨J.was hx nT,J.hok.no nT⟩
  have gE:∀p∈X.pn++Á,p.1≠a/\Value.ref T≠.ref p.1:=λp iL=>⟨(hJ p iL).1,λz=>by cases z;obtain⟨e,_⟩:=J.pin p iL;rw[nT]at e;cases e⟩;obtain⟨oe,vs,he,hc,hd,_,mx⟩:=iF.obj;have inst:þ a C h':=⟨oe,vs,he,hc,hd,mx⟩;refine wpAny_handleBy_cons (codeAny_handlers_test ?_) (by intro q;cases q);have J4:=J2.un' (X.A.mark (some (.ref a))) rfl;refine jL (X:=X.un (X.A.mark (some (.ref a)))) J4 hg hm ?_ fk;obtain⟨ox,ix⟩:=inst.inst;refine wU (s:={s1 with heap:=h'}) J2.kIn ix Z ?_;show codeAny _ _ (.handlers (.ref a) [.ExceptHandler none (some n) (rf::kf) aS] X.env) _ _;refine codeAny_handlers_suite_as ?_;refine Dl (s:={s1 with heap:=h'}) iF λh2 LA j1 j2=>?_;have J5:Ç X Á oQ H1 {s1 with heap:=h2}:=J2.left (t':=s1.toks) hx iF na fa tf gE (λb o e _ hb _=>j1 b o e hb) (λb o e _ hb=>⟨o.slots,j1 b o e hb⟩) j2;obtain⟨Uz,LB,UA,xi,hd2,_,LD⟩:=LA.obj;have DZ:þ a C h2:=⟨Uz,LB,UA,xi,hd2,LD⟩;have UB:a≠X.env.locals:=by obtain⟨m,⟨o,es,ep,ho,mB,_⟩,_⟩:=J5.loc;exact Ne.symm (LA.ne ho λvs q=>by rw[mB]at q;cases q).1
  have UC:∀x c,X.env.cells.lookup x=some c->c≠a:=λx c e=>by obtain⟨v,o,ho,mB⟩:=J5.cell x c e;exact(LA.ne ho λvs q=>by rw[mB]at q;cases q).1
  have J6:=J5.track (o:=.ext (þ a C)) hx fa na UB UC (λp iL=>(hJ p iL).1) (þ.ok DZ);refine jK (v:=.ref a) J6 hN hi (.inl hl) rfl (λs6 I6 _=>?_) (.inr hl);have hw:=q oQ J.len fa;refine wpAny_mono (yT (some (.ref a)) Á s6 _ _ (G7 D i) ((I6.un' (X.A.mark (some (.ref a))) rfl).wish _) hw) (λf s7 sp=>?_) λe s' z=>z.elim;show wpAny (model X.prog X.w) X.A (do bindName X.env n .none;unbindBehindTheSuite X.env n aS) (λ_ s₃=>SP X Á D f s₃) X.xe s7;cases f with|ret u=>obtain⟨v,ah,H',K',rv,qq⟩:=sp;exact jR (K'.back J.ok) hN hi hl λs' K2=>⟨v,_,H',K2,rv,qq⟩;|next=>obtain⟨ah,H',K',qq⟩:=sp;exact jR (K'.back J.ok) hN hi hl λs' K2=>⟨_,H',K2,qq⟩;|brk=>obtain⟨ah,H',K',qq⟩:=sp;exact jR (K'.back J.ok) hN hi hl λs' K2=>⟨_,H',K2,qq⟩;|cont=>obtain⟨ah,H',K',qq⟩:=sp;exact jR (K'.back J.ok) hN hi hl λs' K2=>⟨_,H',K2,qq⟩
 have hb:=ay Á _ _ W [] s σ H D (I.tr _) h;refine wpAny_mono hb (λf s1 sp=>?_) λe s1 z=>z;cases f with|ret u=>obtain⟨v,ah,H',K',rv,qq⟩:=sp;exact⟨v,ah,H',K'.untr,rv,qq⟩;|next=>obtain⟨ah,H',K',qq⟩:=sp;exact wpAny_execs_nil ⟨ah,H',K'.untr,qq⟩;|brk=>obtain⟨ah,H',K',qq⟩:=sp;exact⟨ah,H',K'.untr,qq⟩;|cont=>obtain⟨ah,H',K',qq⟩:=sp;exact⟨ah,H',K'.untr,qq⟩
theorem wV(a b:Bool):MeetsSeq.EqGives (.bool a) (.bool b) (a==b):=λprog w A E s Q h=>PySem.SeqAt.EqAt.bool_bool (A:=A) (s:=s) a b prog w E Q h
def isB(k:Bool):Value->Bool|.bool n=>n==k|_=>false
theorem wW(bs:List Bool)(k:Bool):((bs.map Value.bool).toArray.toList.countP (isB k))=bs.count k:=by rw[List.toList_toArray,List.countP_map];rfl
inductive Φ(x:V)(vs:List V)(H:Hp)(Q:VK):Prop|mk:∀l(bs:List Bool)k,(x=.ref l)->(vs=[.bl k])->(H l=some (.lst (bs.map V.bl)))->(Q (.int (bs.count k:Nat)) H)->Φ  x vs H Q
def Aq:V->List V->Hp->VK->Prop:=λx vs H Q=>Φ  x vs H Q
section
theorem Dm:MtM X "list.count" Aq:=by
 intro Á s σ H x vs v us Q I rx rv h;obtain⟨l,bs,k,rfl,rfl,hH,q⟩:=h;cases rx;obtain⟨u,rfl,ru⟩:=ü rv;cases(show u=Value.bool k from ru);obtain⟨z,Æ,n,r,hl,e⟩:=I.lstM hH;have ei:Æ=bs.map Value.bool:=je r;subst ei;refine call_meets F.slot_list_count ⟨_,e,rfl⟩ F.entry_list_count (F.args_list_count_2 _ _) (MeetsSeq.list_count l (bs.map Value.bool).toArray n (.bool k) (isB k) (λy hy=>?_)) ⟨e,?_⟩;.obtain⟨b,_,rfl⟩:=ñ.mp (show y∈bs.map Value.bool by simpa using hy);exact wV b k
 .refine⟨.int (bs.count k:Nat),H,I.tok _,⟨s.toks,?_⟩,q⟩;rw[wW]
inductive Τ(x:V)(vs:List V)(H:Hp)(Q:VK):Prop|mk:∀l(bs:List Bool)k(j:Nat),(x=.ref l)->(vs=[.bl k])->(H l=some (.lst (bs.map V.bl)))->(bs[j]?=some k)->((∀i,i<j->bs[i]?≠some k))->(Q (.int j) H)->Τ  x vs H Q
def Ar:V->List V->Hp->VK->Prop:=λx vs H Q=>Τ  x vs H Q
theorem Dn:MtM X "list.index" Ar:=by
 intro Á s σ H x vs v us Q I rx rv h;obtain⟨l,bs,k,j,rfl,rfl,hH,hj,IS,q⟩:=h;cases rx;obtain⟨u,rfl,ru⟩:=ü rv;cases(show u=Value.bool k from ru);obtain⟨z,Æ,n,r,hl,e⟩:=I.lstM hH;have ei:Æ=bs.map Value.bool:=je r;subst ei;rw[Ø]at z;rw[sizeLine_eq]at z;have UD:=(ĵ.mp hj).1;have gt:∀m(hm:m<(bs.map Value.bool).toArray.size),(bs.map Value.bool).toArray[m]=Value.bool (bs[m]'(by simpa using hm)):=λm hm=>by simp
 refine call_meets F.slot_list_index ⟨_,e,rfl⟩ F.entry_list_index (F.args_list_index_2 _ _) (MeetsSeq.list_index l (bs.map Value.bool).toArray n (.bool k) (isB k) (λy hy=>?_) j (by simpa using UD) Â ?_ λm hm ax=>?_) ⟨e,⟨.int j,H,I.tok _,⟨_,rfl⟩,q⟩⟩;.obtain⟨b,_,rfl⟩:=ñ.mp (show y∈bs.map Value.bool by simpa using hy);exact wV b k
 .rw[gt,(ĵ.mp hj).2];exact beq_self_eq_true k
 .rw[gt];refine beq_false_of_ne λc=>IS m ax ?_;rw[à (by simpa using hm),c]
end
def er(H:Hp)(cs:T7):Hp:=λb=>if(cs.lookup b).isSome=true then none else H b
def fz(H:Hp)(cs:T7):Hp:=λb=>match cs.lookup b with|some o=>some (.frz o (.ext λ_=>True))|none=>H b
section
theorem tH(e:cs.lookup b=some o):fz H cs b=some (.frz o (.ext λ_=>True)):=by unfold fz;rw[e]
theorem eQ(e:cs.lookup b=none):fz H cs b=H b:=by unfold fz;rw[e]
theorem mF(e:cs.lookup b=some o):er H cs b=none:=by unfold er;rw[e];rfl
theorem gJ(e:cs.lookup b=none):er H cs b=H b:=by unfold er;rw[e];rfl
def γ(H:Hp)(h:Heap)(fs:Č)(cs:T7):Prop:=∀b o,cs.lookup b=some o->h.get? b=some o/\H b=none/\b∉fs
theorem γ.no(L:γ H h fs cs)(e:H b=some u):cs.lookup b=none:=by cases q:cs.lookup b with|none=>rfl;|some o=>rw[(L b o q).2.1]at e;cases e
theorem ą.fz(x:ą P w H h)(L:γ H h fs cs):ą P w (L2.fz H cs) h:=λb u e=>by cases q:cs.lookup b with|some o=>rw[tH q]at e;cases e;have g:=(L b o q).1;exact⟨g,trivial,⟨o,g⟩,λ_ _ _ _=>trivial⟩;|none=>rw[eQ q]at e;exact(x b u e).stay (λ_ _ _ z=>z) (λc z=>by rw[eQ (L.no z)];exact z) λc xs z=>by rw[eQ (L.no z)];exact z
theorem ą.er(x:ą P w H' h')(fr:∀b o,cs.lookup b=some o->H' b=some (.frz o (.ext λ_=>True))):ą P w (L2.er H' cs) h':=λb u e=>by cases q:cs.lookup b with|some o=>rw[mF q]at e;cases e;|none=>
  rw[gJ q]at e;have no:∀c u,(∀o,u≠HO.frz o (.ext λ_=>True))->H' c=some u->cs.lookup c=none:=λc u hu z=>by cases q:cs.lookup c with|none=>rfl;|some o=>rw[fr c o q]at z;cases z;exact absurd rfl (hu o)
  exact(x b u e).stay (λ_ _ _ z=>z) (λc z=>by rw[gJ (no c _ (λo y=>by cases y) z)];exact z) λc xs z=>by rw[gJ (no c _ (λo y=>by cases y) z)];exact z
theorem Un.held(u:Un fs [] (fz H cs) H' h h')(ok:ą P w H' h')(L:γ H h fs cs):Un fs [] H (er H' cs) h h'/\ą P w (er H' cs) h'/\∀b o,cs.lookup b=some o->h'.get? b=some o:=by
 have fr:∀b o,cs.lookup b=some o->H' b=some (.frz o (.ext λ_=>True)):=λb o q=>u.frzs b o _ (tH q);have kp:∀b o,cs.lookup b=some o->h'.get? b=some o:=λb o q=>(ok b _ (fr b o q)).1;have no:∀c v,(∀o,v≠HO.frz o (.ext λ_=>True))->H' c=some v->cs.lookup c=none:=λc v hv z=>by cases q:cs.lookup c with|none=>rfl;|some o=>rw[fr c o q]at z;cases z;exact absurd rfl (hv o)
 refine⟨⟨λb o e n hb hx=>?_,λb o e n hb hx=>?_,λb o e n hx=>?_,u.there,λb xs e=>?_,λb o v e=>?_,λb ps e=>?_⟩,ok.er fr,kp⟩;.cases q:cs.lookup b with|some o'=>have:=(L b o' q).1;rw[e]at this;cases this;exact kp b o q;|none=>exact u.keep b o e (by rw[eQ q];exact n) hb hx
 .cases q:cs.lookup b with|some o'=>exact absurd hb (L b o' q).2.2;|none=>exact u.slot b o e (by rw[eQ q];exact n) hb hx
 .cases q:cs.lookup b with|some o'=>exact mF q;|none=>rw[gJ q];exact u.free b o e (by rw[eQ q];exact n) hx
 .have z:=u.tups b xs (by rw[eQ (L.no e)];exact e);rw[gJ (no b _ (λo y=>by cases y) z)];exact z
 .have z:=u.frzs b o v (by rw[eQ (L.no e)];exact e);rw[gJ (L.no e)];exact z
 .obtain⟨m,z⟩:=u.tbls b ps (by rw[eQ (L.no e)];exact e);exact⟨m,by rw[gJ (L.no e)];exact z⟩
theorem Un.loose(u:Un fs [] (er H cs) H1 h h')(ok:ą P w H1 h')(D0:ą P w H h)(fr:∀b o,cs.lookup b=some o->H b=some (.frz o (.ext λ_=>True))/\b∉fs):Un fs [] H (fz H1 cs) h h'/\ą P w (fz H1 cs) h':=by
 have AV:∀b o,cs.lookup b=some o->h.get? b=some o:=λb o q=>(D0 b _ (fr b o q).1).1;have kp:∀b o,cs.lookup b=some o->h'.get? b=some o:=λb o q=>u.keep b o (AV b o q) (mF q) (fr b o q).2 Ù;have nn:∀b o,cs.lookup b=some o->H1 b=none:=λb o q=>u.free b o (AV b o q) (mF q) Ù;have no:∀c v,(∀o,v≠HO.frz o (.ext λ_=>True))->H c=some v->cs.lookup c=none:=λc v hv z=>by cases q:cs.lookup c with|none=>rfl;|some o=>rw[(fr c o q).1]at z;cases z;exact absurd rfl (hv o)
 refine⟨⟨λb o e n hb hx=>?_,λb o e n hb hx=>?_,λb o e n hx=>?_,u.there,λb xs e=>?_,λb o v e=>?_,λb ps e=>?_⟩,ok.fz (fs:=fs) λb o q=>⟨kp b o q,nn b o q,(fr b o q).2⟩⟩;.cases q:cs.lookup b with|some o'=>rw[(fr b o' q).1]at n;cases n;|none=>exact u.keep b o e (by rw[gJ q];exact n) hb hx
 .cases q:cs.lookup b with|some o'=>exact absurd hb (fr b o' q).2;|none=>exact u.slot b o e (by rw[gJ q];exact n) hb hx
 .cases q:cs.lookup b with|some o'=>rw[(fr b o' q).1]at n;cases n;|none=>rw[eQ q];exact u.free b o e (by rw[gJ q];exact n) hx
 .have q:=no b _ (λo y=>by cases y) e;rw[eQ q];exact u.tups b xs (by rw[gJ q];exact e)
 .cases q:cs.lookup b with|some o'=>have z:=(fr b o' q).1;rw[e]at z;cases z;exact tH q;|none=>rw[eQ q];exact u.frzs b o v (by rw[gJ q];exact e)
 .have q:=no b _ (λo y=>by cases y) e;obtain⟨m,z⟩:=u.tbls b ps (by rw[gJ q];exact e);exact⟨m,by rw[eQ q];exact z⟩
end
def rM(fd:FuncData)(fl L:Addr):Env:=newEnv fd.scope L fd.globals fd.closure (fd.qualname++".<locals>.") (some fl) fd.code none fd.builtins
def cxL(P:Program)(w:World)(K:Frag)(mg:TX)(base:Heap)(N:ó)(fd:FuncData)(fl:Addr)(A:Around)(outer:List Env)(s:Shared)(H:Hp)(E:XK):Cx where prog:=P;w:=w;K:=K;mg:=mg;base:=base;A:=A.deeper (rM fd fl s.heap.objs.size);N:=N;s₀:=s;H₀:=H;env:=rM fd fl s.heap.objs.size;outer:=outer;stack:=rM fd fl s.heap.objs.size::outer;ex:=[];calm:=true;fn:=λ_=>false;pn:=[];xe:=λe s'=>wpAny (model P w) (A.deeper (rM fd fl s.heap.objs.size)) (leaving (rM fd fl s.heap.objs.size) e) (λ_ kU=>Ŵ P w outer H s E e kU) (λe' kU=>Ŵ P w outer H s E e' kU) s'
structure ő(fd:FuncData)(body:Expr)(N:ó):Prop where
 bd:fd.body=.expr body
 gl:fd.globals=mainGlobals
 bl:fd.builtins=builtinsNs
 kd:fd.scope.kind=.function
 co:fd.scope.isCoroutine=false
 ge:fd.scope.isGenerator=false
 fr:∀p∈fd.scope.names,p.2≠.cell
 fl:∀x,fd.scope.names.lookup x=some .free->∃c,fd.closure.lookup x=some c
 nd:∀x y c,fd.closure.lookup x=some c->fd.closure.lookup y=some c->x=y
 ba:bindArgs fd ⟨[],[]⟩=pure []nm:∀x∈N,fd.scope.names.lookup x=some .free
theorem Jh{K:Frag}{E:XK}{body:Expr}{vs:List V}{h1:Heap}{tk:Nat}(Z:ő fd body N)(hd:A.handled=none)(e0:Ŀ P w K mg base A outer s H)(hn:h1.Ns s.heap.objs.size λx=>([]:List (Str×Value)).reverse.lookup x)(hk:∀b o,s.heap.get? b=some o->h1.get? b=some o)(cell:∀x c,fd.closure.lookup x=some c->H c=none/\∃v,s.heap.IsCell c v)(val:∀(i:Nat)x v,N[i]?=some x->vs[i]?=some v->∃c u,fd.closure.lookup x=some c/\Ô v u/\s.heap.IsCell c (some u))(hl:vs.length=N.length):Ç (cxL P w K mg base N fd fl A outer s H E) [] (vs.map some) H {s with heap:=h1,toks:=tk}:=by
 have ck:∀c v,s.heap.IsCell c v->h1.IsCell c v:=λc v=>by rintro⟨o,ho,z⟩;exact⟨o,hk c o ho,z⟩
 refine⟨⟨e0.mod,Z.kd,Z.gl,Z.bl,ß _,Z.nd,λx hx=>?_,λx c z=>(by cases z),λ_=>hd,Around.frames_deeper e0.frames,.inr ⟨rfl,rfl⟩,λb z=>absurd (show b∈([]:Č)from z) Ù,e0.bs,e0.bsz,λb _ _ z=>absurd (show b∈([]:Č)from z) Ù,λb z=>absurd (show b∈([]:Č)from z) Ù,e0.funs,e0.frf⟩,rfl,e0.bare,Un.kept hk,⟨_,hn,λi x v e1 e2 e3=>?_⟩,λx c e=>?_,e0.hok.fresh (ß _),λx c e=>(cell x c e).1,λp hp=>absurd (show p∈([]:T7)from hp) Ù,e0.hok.kept hk,by rw[Ø];exact hl⟩
 .rcases hx with hx|hx;.exact absurd rfl (Z.fr _ (PySem.mem_of_lookup (hx)))
  .exact Z.fl x hx
 .rw[ċ]at e2;cases q:vs[i]? with|none=>rw[q]at e2;cases e2;|some v'=>
   rw[q]at e2;have e2:v'=v:=by simpa using e2
   subst e2;obtain⟨c,u,ec,r,z⟩:=val i x v' e1 q;exact⟨u,r,.inr ⟨.inr (Z.nm x (ŕ e1)),c,ec,ck c _ z⟩⟩
 .obtain⟨_,v,z⟩:=cell x c e;exact⟨v,ck c v z⟩
theorem wX{K:Frag}:wO (cxL P w K mg base N fd fl A outer s H E) λa C H'=>E (.ref a) (some C) H':=by
 intro Á σ H' s' a C tb I LF na fa ft _ q;have cE:s'.heap.FunFrames base (rM fd fl s.heap.objs.size::outer):=I.stack;have lI:(A.deeper (rM fd fl s.heap.objs.size)).frames=some (rM fd fl s.heap.objs.size::outer):=I.ok.frames;have yB:(rM fd fl s.heap.objs.size).frame=some s.heap.objs.size:=rfl;have ub:Un (ė outer) [] H H' s.heap s'.heap:=I.base;have na:s.heap.get? a=none:=na;have ft:∀T,tb=.ref T->s.heap.get? T=none/\H' T=none:=ft;refine wN lI cE yB LF λh' T nT iF k1 k2 k3=>?_;have apart:∀b o,s.heap.get? b=some o->b≠a/\tb≠.ref b:=λb o e=>⟨λz=>(by rw[z,na]at e;cases e),λz=>(by rw[(ft b z).1]at e;cases e)⟩;have Lv:∀b o,s.heap.get? b=some o->b∉ė outer->b∉ė (rM fd fl s.heap.objs.size::outer):=λb o e hn hm=>by
  unfold ė at hm;rw[Za2,yB]at hm;rcases ĩ.mp hm with z|z;.exact absurd (ÿ e) (by rw[z];exact η _)
  .exact hn z
 refine⟨a,C,H',T,rfl,I.os,I.bare,⟨λb o e n hb _=>?_,λb o e n hb _=>?_,ub.free,λb o e hx=>?_,ub.tups,ub.frzs,ub.tbls⟩,λc o e=>?_,na,?_,fa,I.hok.no nT,iF,q⟩;.exact k1 b o (ub.keep b o e n hb Ù) (apart b o e).1 (apart b o e).2 (Lv b o e hb)
 .obtain⟨sl,e1⟩:=ub.slot b o e n hb Ù;obtain⟨kC,e2⟩:=k2 b _ e1 (apart b o e).1 (apart b o e).2;exact⟨kC,e2⟩
 .obtain⟨o',e1⟩:=ub.there b o e hx;exact k3 b o' e1
 .refine(I.hok c o e).stay (λd v hd z=>?_) (λ_ z=>z) λ_ _ z=>z;have DS:∃o',H' d=some o':=by grind
  obtain⟨o',eo⟩:=DS;refine k1 d v z (λy=>(by rw[y,fa]at eo;cases eo)) (λy=>(by rw[(ft d y).2]at eo;cases eo)) λhm=>?_;rw[I.stkFree d hm]at eo;cases eo
 .exact I.was rfl nT
abbrev NoC(cs:T7)(H:Hp):Prop:=∀b o,cs.lookup b=some o->H b=none
theorem Ŵ.loose(D0:ą P w H s.heap)(fr:∀b o,cs.lookup b=some o->H b=some (.frz o (.ext λ_=>True))/\b∉ė outer)(x:Ŵ P w outer (er H cs) s (λe C H1=>NoC cs H1->E e C (fz H1 cs)) e s'):Ŵ P w outer H s E e s':=by
 obtain⟨a,C,H1,T,rfl,os,bare,un,ok,na,nT,fa,fT,LF,q⟩:=x;obtain⟨u,k⟩:=un.loose ok D0 fr;have no:∀b,s.heap.get? b=none->cs.lookup b=none:=λb z=>by cases y:cs.lookup b with|none=>rfl;|some o=>have:=(D0 b _ (fr b o y).1).1;rw[z]at this;cases this
 exact⟨a,C,_,T,rfl,os,bare,u,k,na,nT,by rw[eQ (no a na)];exact fa,by rw[eQ (no T nT)];exact fT,LF,q λb o z=>un.free b o (D0 b _ (fr b o z).1).1 (mF z) Ù⟩
theorem Ji{K:Frag}{body:Expr}{vs:List V}{cs:T7}{te:TE}{k:Nat}(Z:ő fd body N)(hr:ì k A)(e0:Ŀ P w K mg base A outer s H)(D1:s.heap.get? fl=some ob)(mB:ob.data=.func fd)(eI:s.heap.CodeRec fd.code fd.qualname)(fr:∀b o,cs.lookup b=some o->H b=some (.frz o (.ext λ_=>True))/\b∉ė outer)(cell:∀x c,fd.closure.lookup x=some c->∃o v,cs.lookup c=some o/\o.data=.cell v)(val:∀(i:Nat)x v,N[i]?=some x->vs[i]?=some v->∃c u o,fd.closure.lookup x=some c/\Ô v u/\cs.lookup c=some o/\o.data=.cell (some u))(hl:vs.length=N.length)(kF:PE (cxL P w K mg base N fd fl A outer s (er H cs) (λe C H1=>NoC cs H1->E e C (fz H1 cs))) body te)(h:te (vs.map some) (er H cs) λv H1=>NoC cs H1->Q v (fz H1 cs)):codeAny (model P w) A (.call (.ref fl) ⟨[],[]⟩) (CR (Ŵ P w) outer P w H s Q E) s:=by
 have AV:∀b o,cs.lookup b=some o->s.heap.get? b=some o:=λb o q=>(e0.hok b _ (fr b o q).1).1;have OZ:∀b,H b=none->er H cs b=none:=λb z=>by cases q:cs.lookup b with|some o=>exact mF q;|none=>rw[gJ q];exact z
 have e1:Ŀ P w K mg base A outer s (er H cs):=⟨e0.frames,e0.mod,λb o e=>⟨(e0.bs b o e).1,OZ b (e0.bs b o e).2⟩,e0.bsz,e0.funs,λb hb=>OZ b (e0.frf b hb),e0.hok.er λb o q=>(fr b o q).1,e0.bare⟩;refine kla_callFunE (by have:=hr.dp;lia) D1 mB Z.co Z.ge Z.bd eI ?_;rw[Z.ba];refine Ý (wpAny_newFunctionEnv Z.fr (λx hx=>absurd hx Ù) (λh1 hn sb=>?_) Z.kd);have hk:∀b o,s.heap.get? b=some o->h1.get? b=some o:=λb o e=>(sb.2 b (Ĩ (ÿ e))).trans (č _ e);refine⟨(e0.mod.nolimit.keeps λb o e=>(e0.bs b o e).1).keeps hk,?_⟩;have I:=Jh (fl:=fl) (E:=λe C H1=>NoC cs H1->E e C (fz H1 cs)) (tk:=s.toks+0) Z hr.hd e1 hn hk (λx c e=>(let⟨o,v,q,d⟩:=cell x c e;⟨mF q,v,o,AV c o q,d⟩)) (λi x v e1 e2=>(let⟨c,u,o,a1,a2,a3,a4⟩:=val i x v e1 e2;⟨c,u,a1,a2,o,AV c o a3,a4⟩)) hl;refine kla_codeExpr (wpAny_mono (kF [] _ _ _ _ I h) (λu s' hv=>?_) λe s' hx=>?_);.obtain⟨v,H1,J,r,q⟩:=hv;obtain⟨un,k⟩:=Un.loose (fs:=ė outer) J.base J.hok e0.hok fr;exact⟨v,fz H1 cs,J.os,J.bare,un,k,r,q λb o z=>Un.free (fs:=ė outer) (ex:=[]) J.base b o (AV b o z) (mF z) Ù⟩
 .exact wpAny_mono hx (λ_ kU z=>Ŵ.loose e0.hok fr z) λe' kU z=>Ŵ.loose e0.hok fr z
abbrev held(o:Obj):HO:=.frz o (.ext λ_=>True)
structure Ų(H:Hp)(fl:Addr)(fd:FuncData):Prop where
 ob:∃o,H fl=some (held o)/\o.data=.func fd
 cd:∃c oc vs t,fd.code=.ref c/\H c=some (held oc)/\oc.data=.fields vs/\vs[1]?=some (.str fd.qualname t)
def M4(X:Cx)(i:Nat)(E:XK):TE:=λσ H Q=>∃(fl:Addr)(fd:FuncData)(body:Expr)(N:ó)(vs:List V)(cs:T7)(te:TE),σ[i]?=some (some (.ref fl))/\Ų H fl fd/\ő fd body N/\(∀b o,cs.lookup b=some o->H b=some (held o))/\(∀x c,fd.closure.lookup x=some c->∃o v,cs.lookup c=some o/\o.data=.cell v)/\(∀(i:Nat)(x:Str)(v:V),N[i]?=some x->vs[i]?=some v->∃c u o,fd.closure.lookup x=some c/\Ô v u/\cs.lookup c=some o/\o.data=.cell (some u))/\vs.length=N.length/\(∀s,PE (cxL X.prog X.w X.K X.mg X.base N fd fl X.A X.stack s (er H cs) (λe C H1=>NoC cs H1->E e C (fz H1 cs))) body te)/\te (vs.map some) (er H cs) λv H1=>NoC cs H1->Q v (fz H1 cs)
theorem M5{p pos:Pos}(hr:ì k X.A)(hN:X.N[i]?=some x)(hv:Vis X.env.scope x)(W:wO X λa C H=>E (.ref a) (some C) H)(hx:X.ex=[])(hd:ź x:=by decide)(eI:(x==("__classdict__":Str))=false:=by decide):PE X (.Call (.Name x p) [] [] pos) (M4 X i E):=by
 intro Á s σ H Q I h;obtain⟨fl,fd,body,N,vs,cs,te,LG,L,Z,fr,cell,val,hl,kF,q⟩:=h;obtain⟨o,ho,mB⟩:=L.ob;have D1:s.heap.get? fl=some o:=(I.hok fl _ ho).1;refine wpAny_Call_Name_kw (Þ (ym (pos:=p) hN hv hd eI Á s σ H (λv H'=>v=.ref fl/\H'=H) I ⟨_,LG,rfl,rfl⟩) λf s1=>?_);rintro⟨v,H1,I1,r1,z1,z2⟩;subst z1 z2;cases(show f=Value.ref fl from r1);have D1:s1.heap.get? fl=some o:=(I1.hok fl _ ho).1;refine callWith_F0 (by obtain⟨oc,od,dt,sl⟩:=o;exact⟨oc,od,fd,sl,by rw[D1];exact congrArg some (by rw[show dt=Data.func fd from mB])⟩) ?_;obtain⟨c,oc,ws,t,ec,hc,LH,hw⟩:=L.cd;have UE:s1.heap.CodeRec fd.code fd.qualname:=⟨c,oc,ws,t,ec,(I1.hok c _ hc).1,LH,hw⟩;refine wpAny_call (codeAny_mono (Ji (k:=k) Z hr I1.env0 D1 mB UE (λb ob e=>⟨fr b ob e,λhm=>?_⟩) cell val hl (kF s1) q) λr s' hq=>?_);.have:=I1.stkFree b hm;rw[fr b ob e]at this;cases this
 .cases r with|error e=>exact Kh W hx Á σ _ s1 e s' I1 hq;|ok iF=>cases iF with|ret u=>exact I1.after hq;|next=>exact False.elim hq;|brk=>exact False.elim hq;|cont=>exact False.elim hq
def G8(H:Hp)(c:Addr)(q:Str):Prop:=∃oc vs t,H c=some (held oc)/\oc.data=.fields vs/\vs[1]?=some (.str q t)
def û(H:Hp)(P:Addr)(q:Str):Prop:=∃ps,H P=some (.tbl ps)/\TriplesOk ps.toList/\∀l,codeAmong l ps.toList=none\/∃c,codeAmong l ps.toList=some (.ref c)/\G8 H c q
theorem û.keep(x:û H P q)(kp:∀ps,H P=some (.tbl ps)->H' P=some (.tbl ps))(kh:∀b o,H b=some (held o)->H' b=some (held o)):û H' P q:=by
 obtain⟨ps,e,t,h⟩:=x;refine⟨ps,kp ps e,t,λl=>?_⟩;rcases h l with z|⟨c,z,oc,vs,t',y,r⟩;.exact .inl z
 .exact .inr ⟨c,z,oc,vs,t',kh _ _ y,r⟩
theorem û.same(x:û H P q)(s:À H H'):û H' P q:=x.keep (λ_=>s _ _) λ_ _=>s _ _
theorem Do:∀a,TriplesOk a->codeAmong l (a++r)=(codeAmong l a).orElse λ_=>codeAmong l r:=λa h=>by fun_induction TriplesOk a with
 |case1=>simp[codeAmong];|case2 x t y u z rest ih=>
  simp only[List.cons_append,codeAmong];split;.rfl
  .exact ih h;|case3 a h1 h2=>exact h.elim
section
variable{T c fl:Addr}
theorem mG(e:h.get? b=some o):Ú P w H h b (held o):=⟨e,trivial,⟨o,e⟩,λ_ _ _ _=>trivial⟩
theorem Od(hT:H T=some (.tbl ps))(ok:ą P w H h)(k:∀b o,b≠T->h.get? b=some o->h'.get? b=some o)(hp:h'.get? T=some (tabObj (ps++more)))(hc:h.objs.size<=c)(hf:h.objs.size<=fl)(hcf:c≠fl)(ec:h'.get? c=some oc)(ef:h'.get? fl=some ob):Un fs [] H (upd (upd (upd H T (.tbl (ps++more))) c (held oc)) fl (held ob)) h h'/\ą P w (upd (upd (upd H T (.tbl (ps++more))) c (held oc)) fl (held ob)) h':=by
 have nc:=ok.fresh hc;have nf:=ok.fresh hf;have lt:∀b u,H b=some u->b≠c/\b≠fl:=λb u e=>⟨aB e nc,aB e nf⟩;have kK:∀b u,b≠T->H b=some u->upd (upd (upd H T (.tbl (ps++more))) c (held oc)) fl (held ob) b=some u:=λb u n e=>by rw[aq (lt b u e).2,aq (lt b u e).1,aq n];exact e
 have atT:upd (upd (upd H T (.tbl (ps++more))) c (held oc)) fl (held ob) T=some (.tbl (ps++more)):=by rw[aq (lt T _ hT).2,aq (lt T _ hT).1,aj]
 have old:∀b o,h.get? b=some o->b≠c/\b≠fl:=λb o e=>⟨Ĩ (Ł (ÿ e) hc),Ĩ (Ł (ÿ e) hf)⟩;refine⟨⟨λb o e n _ _=>k b o (λz=>(by rw[z,hT]at n;cases n)) e,λb o e n _ _=>⟨o.slots,k b o (λz=>(by rw[z,hT]at n;cases n)) e⟩,λb o e n _=>?_,λb o e _=>?_,λb xs e=>kK b _ (λz=>(by rw[z,hT]at e;cases e)) e,λb o u e=>kK b _ (λz=>(by rw[z,hT]at e;cases e)) e,λb qs e=>?_⟩,λb u e=>?_⟩;.rw[aq (old b o e).2,aq (old b o e).1,aq λz=>(by rw[z,hT]at n;cases n)];exact n
 .by_cases z:b=T;.rw[z];exact⟨_,hp⟩
  .exact⟨o,k b o z e⟩
 .by_cases z:b=T;.subst z;rw[hT]at e;cases e;exact⟨more,atT⟩
  .exact⟨#[],by rw[Array.append_empty];exact kK b _ z e⟩
 .by_cases z1:b=fl;.subst z1;rw[aj]at e;cases e;exact mG ef
  .rw[aq z1]at e;by_cases z2:b=c;.subst z2;rw[aj]at e;cases e;exact mG ec
   .rw[aq z2]at e;by_cases z3:b=T;.subst z3;rw[aj]at e;cases e;exact hp
    .rw[aq z3]at e;refine(ok b u e).stay (λd v hd q=>k d v (λy=>?_) q) (λd q=>kK d _ (λy=>(by rw[y,hT]at q;cases q)) q) λd xs q=>kK d _ (λy=>(by rw[y,hT]at q;cases q)) q;subst y;rcases hd with y|y;.exact z3 y.symm
     .rw[hT]at y;cases y
end
def tMk(T:Addr)(q:Str)(params:Arguments)(body:Expr)(scope:Scope)(cl:List (Str×Addr))(N:ó):TE:=λ_ H Q=>û H T q/\∀fl pm cv ct H1,(∀b o,b≠T->H b=some o->H1 b=some o)->û H1 T q->H fl=none->Ų H1 fl (kla_fn "<lambda>" q params body scope cl pm cv ct)->ő (kla_fn "<lambda>" q params body scope cl pm cv ct) body N->Q (.ref fl) H1
structure Z0t(X:Cx)(params:Arguments)(body:Expr)(scope:Scope)(N:ó):Prop where
 df:defaultsOf params X.env=([],[])kd:scope.kind=.function
 co:scope.isCoroutine=false
 ge:scope.isGenerator=false
 fr:∀p∈scope.names,p.2≠.cell
 fl:∀p∈scope.names,p.2=NameKind.free->X.env.kindOf p.1=some .cell\/X.env.kindOf p.1=some .free
 ba:∀qual cl pm cv ct,bindArgs (kla_fn "<lambda>" qual params body scope cl pm cv ct) ⟨[],[]⟩=pure []nm:∀x∈N,scope.names.lookup x=some .free
theorem G9(Z:Z0t X params body scope N)(fE:X.env.code=.ref cc)(hC:CodeHd X.base cc T)(hB:X.base.BuiltinsAt X.mg T):PE X (.Lambda params body scope bP) (tMk T (X.env.qual++"<lambda>") params body scope (cY X.env.cells scope.names []) N):=by
 intro Á s σ H Q I h;obtain⟨⟨ps,hT,tr,am⟩,q⟩:=h;have hs:∀p∈scope.names,p.2=NameKind.free->(X.env.cells.lookup p.1).isSome=true:=λp hp e=>by obtain⟨c,z⟩:=I.ok.has p.1 (Z.fl p hp e);rw[z];rfl
 have lam:∀qual pm cv ct,ő (kla_fn "<lambda>" qual params body scope (cY X.env.cells scope.names []) pm cv ct) body N:=λqual pm cv ct=>⟨rfl,rfl,rfl,Z.kd,Z.co,Z.ge,Z.fr,λx hx=>lQ _ _ (.inl ⟨_,PySem.mem_of_lookup hx,rfl⟩),λx y c h1 h2=>by
   rcases ju _ _ hs h1 with z|z;.cases z
   .rcases ju _ _ hs h2 with z2|z2;.cases z2
    .exact I.ok.inj x y c z z2,Z.ba _ _ _ _ _,Z.nm⟩;have hg:=I.mod.glob.keeps I.bk;have hP:s.heap.get? T=some (tabObj ps):=I.hok T _ hT;have UG:mainGlobals≠T:=λz=>by obtain⟨o,es,ep,e,_⟩:=I.mod.glob;have:=(I.bs _ _ e).2;rw[z,hT]at this;cases this
 have hb:s.heap.BuiltinsAt X.mg T:=by obtain⟨bm,o,b1,b2,b3,b4,b5,r⟩:=hB;exact⟨bm,o,b1,b2,b3,b4,I.bk _ _ b5,r⟩
 refine kla_eval Z.df ?_;rcases am bP with hn|⟨c,hf,oc,vs,t,hc,hd,hv⟩
 .refine kla_makeFunction (mg:=X.mg) (oU hs) I.ok.glob hg fE (hC.keeps I.bk) hP tr hn UG hb λc' rg h' tk hx kH ax LI D2=>?_;obtain⟨c₂,oc,vs,t,e2,Fn,hd,hv⟩:=LI;cases e2;obtain⟨un,ok⟩:=Od (P:=X.prog) (w:=X.w) (fs:=ė X.stack) (h':=h'.push (kla_obj "<lambda>" (X.env.qual++"<lambda>") params body scope (cY X.env.cells scope.names []) ((X.mg "__name__").getD .none) c' rg)) (fl:=h'.objs.size) hT I.hok (λb o n e=>č _ (hx b o n e)) (č _ D2) kH (ŝ kH (Za6 ax)) (Ĩ ax) (č _ Fn) (ı _ rfl);have J:=I.call (ch:=[]) (g':=s.gens) (t':=tk) (d':=s.drawn) un ok I.bare λb z=>absurd z Ù;have nc:H c'=none:=I.hok.fresh kH;have nf:H h'.objs.size=none:=I.hok.fresh (ŝ kH (Za6 ax));have kp:∀b o,b≠T->H b=some o->upd (upd (upd H T (.tbl (ps++#[rawInt bP.line,rawInt bP.col,.ref c']))) c' (held oc)) h'.objs.size (held (kla_obj "<lambda>" (X.env.qual++"<lambda>") params body scope (cY X.env.cells scope.names []) ((X.mg "__name__").getD .none) c' rg)) b=some o:=λb o n e=>by rw[aq (aB e nf),aq (aB e nc),aq n];exact e
  have cd:G8 (upd (upd (upd H T (.tbl (ps++#[rawInt bP.line,rawInt bP.col,.ref c']))) c' (held oc)) h'.objs.size (held (kla_obj "<lambda>" (X.env.qual++"<lambda>") params body scope (cY X.env.cells scope.names []) ((X.mg "__name__").getD .none) c' rg))) c' (X.env.qual++"<lambda>"):=⟨oc,vs,t,by rw[aq (Ĩ ax),aj],hd,hv⟩;refine⟨.ref h'.objs.size,_,J,rfl,q _ ((X.mg "__name__").getD .none) (.ref c') rg _ kp ⟨ps++#[rawInt bP.line,rawInt bP.col,.ref c'],?_,?_,λl=>?_⟩ nf ⟨⟨_,aj,rfl⟩,?_⟩ (lam _ _ _ _)⟩;.rw[aq (aB hT nf),aq (aB hT nc),aj]
  .rw[ϫ];exact TriplesOk_snoc _ _ _ _ tr
  .rw[ϫ,Do _ tr];rcases am l with z|⟨c,z,UH,LB,t2,y,r⟩
   .rw[z];show codeAmong l [rawInt bP.line,rawInt bP.col,.ref c']=none\/_;simp only[codeAmong,rawInt];by_cases e:((bP.line:Int)==(l.line:Int)&&(bP.col:Int)==(l.col:Int))=true;.refine .inr ⟨c',?_,cd⟩;show codeAmong l [rawInt bP.line,rawInt bP.col,.ref c']=some (.ref c');simp only[codeAmong,rawInt];rw[Í e]
    .refine .inl ?_;rw[Ë e]
   .rw[z];exact .inr ⟨c,rfl,UH,LB,t2,kp _ _ (λw'=>by rw[w',hT]at y;cases y) y,r⟩
  .obtain⟨UI,UJ,t3,a1,a2,a3⟩:=cd;exact⟨c',UI,UJ,t3,rfl,a1,a2,a3⟩
 .refine kla_makeFunctionHit (mg:=X.mg) (oU hs) I.ok.glob hg fE (hC.keeps I.bk) hP tr hf hb λrg h' tk hk hsz=>?_;have J:=I.laid (a:=h'.objs.size) (o:=held (kla_obj "<lambda>" (X.env.qual++"<lambda>") params body scope (cY X.env.cells scope.names []) ((X.mg "__name__").getD .none) c rg)) (h':=h'.push (kla_obj "<lambda>" (X.env.qual++"<lambda>") params body scope (cY X.env.cells scope.names []) ((X.mg "__name__").getD .none) c rg)) (t':=tk) (λb u e=>č _ (hk b u e)) hsz (mG (ı _ rfl));have nf:H h'.objs.size=none:=I.hok.fresh hsz;have kp:À H (upd H h'.objs.size (held (kla_obj "<lambda>" (X.env.qual++"<lambda>") params body scope (cY X.env.cells scope.names []) ((X.mg "__name__").getD .none) c rg))):=λb o e=>by rw[aq (aB e nf)];exact e
  exact⟨.ref h'.objs.size,_,J,rfl,q _ ((X.mg "__name__").getD .none) (.ref c) rg _ (λb o _ e=>kp b o e) (û.same ⟨ps,hT,tr,am⟩ kp) nf ⟨⟨_,aj,rfl⟩,c,oc,vs,t,rfl,kp _ _ hc,hd,hv⟩ (lam _ _ _ _)⟩
structure ņ(cl:List (Str×Addr))(N:ó)(vs:List V)(H:Hp)(cs:T7):Prop where
 no:∀b o,cs.lookup b=some o->H b=none
 cell:∀x c,cl.lookup x=some c->∃o v,cs.lookup c=some o/\o.data=.cell v
 val:∀(i:Nat)x v,N[i]?=some x->vs[i]?=some v->∃c u o,cl.lookup x=some c/\Ô v u/\cs.lookup c=some o/\o.data=.cell (some u)
theorem Oe:∀{l:T7},l.lookup b=some o->(b,o)∈l|[],e=>by cases e;|(a,x)::r,e=>by rw[Zbe]at e;cases z:b==a with|true=>rw[z]at e;cases e;rw[eq_of_beq z];exact .head _;|false=>rw[z]at e;exact .tail _ (Oe e)
theorem tK:∀{fp:Č},(dY fp h).lookup b=some o->b∈fp/\h.get? b=some o:=λ{fp}e=>nj (p:=(b,o)) (Oe e)
theorem lD(e:h.get? b=some o):∀{fp:Č},b∈fp->(dY fp h).lookup b=some o
 |[],z=>absurd z Ù|a::r,z=>by
  have un:dY (a::r) h=match(h.get? a).map (λo=>(a,o))with|some p=>p::dY r h|none=>dY r h:=by unfold dY;rw[Za2];cases(h.get? a).map (λo=>(a,o))<;>rfl
  rw[un];by_cases y:b=a;.subst y;rw[e];show List.lookup b ((b,o)::dY r h)=_;rw[Zbe,beq_self_eq_true]
  .have ih:=lD e (fp:=r) ((ĩ.mp z).resolve_left y);cases q:h.get? a with|none=>exact ih;|some o'=>show List.lookup b ((a,o')::dY r h)=_;rw[Zbe,show(b==a)=false by simpa using y];exact ih
theorem wY:∀l acc,q∈cY cells l acc->q∈acc\/∃k,(q.1,k)∈l/\k=NameKind.free/\q.2=(cells.lookup q.1).getD 0
 |[],_,h=>.inl h|(n,k)::r,acc,h=>by
  have h':q∈cY cells r (if k=.free then(n,(cells.lookup n).getD 0)::acc else acc):=h;rcases wY r _ h' with e|⟨k',e1,e2⟩
  .by_cases hk:k=.free
   .rw[Í hk]at e;rcases ĩ.mp e with z|z;.cases z;exact .inr ⟨k,Zap,hk,rfl⟩
    .exact .inl z
   .rw[Ë hk]at e;exact .inl e
  .exact .inr ⟨k',Zak _ e1,e2⟩
def Kl(sp:Sp)(N:ó)(ix:List Nat)(cl:List (Str×Addr))(te:TE):TE:=λσ H Q=>te σ H λv H1=>∃vs:List V,vs.length=N.length/\(∀(j i:Nat)u,ix[j]?=some i->vs[j]?=some u->σ[i]?=some (some u))/\∀cs,ņ cl N vs H1 cs->sp [v] (fz H1 cs) (λv H2=>Q v (er H2 cs)) E0
theorem Jj{p pos:Pos}{scope:Scope}(F:Ñ X.prog X.w X.K X.mg X.base ä k f fd [y] sp)(hr:ì k X.A)(hg:Gl X x)(hm:X.mg x=some (.ref f))(hk:PySem.W.keepIn X.K (.ref f)=true)(hb:ø X.K fd [y] [])(hx:X.ex=[])(hp:∀p∈scope.names,p.2=NameKind.free->X.env.kindOf p.1=some .cell/\X.fn p.1=true)(hN:∀(j:Nat)x,N[j]?=some x->∃i,ix[j]?=some i/\X.N[i]?=some x/\scope.names.lookup x=some .free)(ha:PE X arg te)(fk:ź x:=by decide)(he:starEach [arg] X.env=(false,eval arg X.env)::starEach [] X.env:=by rfl)(ff:(backTo pos (starEach [] X.env)).any (·.1)=false:=by rfl):PE X (.Call (.Name x p) [arg] [] pos) (Kl sp N ix (cY X.env.cells scope.names []) te):=by
 intro Á s σ H Q I h;refine wpAny_Call_Name_kw (jL I hg hm ?_ fk);refine PySem.W.callWith_K (h₀:=X.base) I.ok.mod.kin hk (Þ (aK ha ao he pos Á s σ H (λvs H1=>∃ws:List V,ws.length=N.length/\(∀(j i:Nat)(u:V),ix[j]?=some i->ws[j]?=some u->σ[i]?=some (some u))/\∀cs,ņ (cY X.env.cells scope.names []) N ws H1 cs->sp vs (fz H1 cs) (λv H2=>Q v (er H2 cs)) E0) I h) λus s1 z=>?_) he ff;obtain⟨vs,H1,I1,r,ws,hw,fA,q⟩:=z;refine⟨I1.kIn,?_⟩;have hs:∀p∈scope.names,p.2=NameKind.free->(X.env.cells.lookup p.1).isSome=true:=λp iL e=>by obtain⟨c,z⟩:=I1.ok.has p.1 (.inl (hp p iL e).1);rw[z];rfl
 have sub:∀x c,(cY X.env.cells scope.names []).lookup x=some c->X.env.cells.lookup x=some c:=λx c e=>by
  rcases ju _ _ hs e with z|z;.cases z
  .exact z
 have at':∀b∈(cY X.env.cells scope.names []).map (·.2),∃x,X.env.cells.lookup x=some b/\X.fn x=true:=λb dE=>by
  obtain⟨q',LJ,rfl⟩:=ñ.mp dE;rcases wY _ _ LJ with z|⟨k',eB,rfl,e⟩;.cases z
  .obtain⟨c,hc⟩:=Zau.mp (hs _ eB rfl);refine⟨q'.1,?_,(hp _ eB rfl).2⟩;rw[e,show X.env.cells.lookup q'.1=some c from hc];rfl
 obtain⟨cs,FX⟩:∃cs,cs=dY ((cY X.env.cells scope.names []).map (·.2)) s1.heap:=⟨_,rfl⟩;have O0:∀x c,(cY X.env.cells scope.names []).lookup x=some c->c∈(cY X.env.cells scope.names []).map (·.2):=λx c e=>ñ.mpr ⟨(x,c),PySem.mem_of_lookup e,rfl⟩;have L:γ H1 s1.heap (ė X.stack) cs:=λb o e=>by
  rw[FX]at e;obtain⟨dE,e'⟩:=tK e;obtain⟨x',cq,qa⟩:=at' b dE;refine⟨e',I1.freeC x' b cq,λz=>?_⟩;rcases ĩ.mp (I1.stkSub b z)with y'|y';.exact I1.cne x' b cq y'
  .obtain⟨_,o',kB,_⟩:=I1.ok.funs.mem y';exact absurd (Ł (ÿ kB) (I1.ok.cab x' b qa cq)) (η _)
 have C:ņ (cY X.env.cells scope.names []) N ws H1 cs:=by
  refine⟨λb o e=>(L b o e).2.1,λx' c e=>?_,λi x' v e1 e2=>?_⟩;.obtain⟨v,o,ho,hd⟩:=I1.cell x' c (sub x' c e);exact⟨o,v,by rw[FX];exact lD ho (O0 x' c e),hd⟩
  .obtain⟨j,e3,e4,e5⟩:=hN i x' e1;obtain⟨m,hn,hl⟩:=I1.loc;have Pc:=(hp (x',.free) (PySem.mem_of_lookup e5) rfl).1;obtain⟨u,ru,lk⟩:=hl j x' v e4 (fA i j v e3 e2) (.inr (.inl Pc));rcases lk with⟨kl,_⟩|⟨_,c,ec,o,ho,hd⟩;.rw[Pc]at kl;cases kl
   .obtain⟨c',bg⟩:=lQ (cells:=X.env.cells) (x:=x') scope.names [] (.inl ⟨_,PySem.mem_of_lookup e5,rfl⟩);have:=sub x' c' bg;rw[ec]at this;cases this;exact⟨c,u,o,bg,ru,by rw[FX];exact lD ho (O0 x' c bg),hd⟩
 have q:=q cs C;have hok:=I1.hok.fz L;have e0:Ŀ X.prog X.w X.K X.mg X.base X.A X.stack s1 (fz H1 cs):=by
  have e1:=I1.env0;refine⟨e1.frames,e1.mod,λb o e=>⟨(e1.bs b o e).1,?_⟩,e1.bsz,e1.funs,λb dE=>?_,hok,e1.bare⟩;.cases z:cs.lookup b with|none=>rw[eQ z];exact(e1.bs b o e).2;|some o'=>have z':=z;rw[FX]at z';obtain⟨x',cq,qa⟩:=at' b (tK z').1;exact absurd (Ł (ÿ (I1.ok.bs b o e).1) (I1.ok.cab x' b qa cq)) (η _)
  .cases z:cs.lookup b with|none=>rw[eQ z];exact e1.frf b dE;|some o'=>exact absurd dE (L b o' z).2.2
 have hl:(us++[]).length=[y].length:=by rw[Ś,<-r.length];exact F.len _ _ _ _ q
 have DU:=hb s1 us I1.kIn hl;rw[Ś]at DU;refine wpAny_call (codeAny_mono (F.run X.A X.stack s1 (fz H1 cs) ⟨us,[]⟩ us vs _ E0 hr e0 DU r q) λrr s' hq=>?_);cases rr with|error e=>exact(show False from hq).elim;|ok fl=>cases fl with|ret u=>obtain⟨v,H2,os,bare,un,mv,rv,qq⟩:=hq;obtain⟨un',xB,_⟩:=un.held mv L;exact I1.after (Q:=Q) ⟨v,er H2 cs,os,bare,un',xB,rv,qq⟩;|next=>exact False.elim hq;|brk=>exact False.elim hq;|cont=>exact False.elim hq
def Km(scope sc:Scope)(NX N:ó)(ix:List Nat):Bool:=decide (scope.kind=.function)&&!scope.isCoroutine&&!scope.isGenerator&&scope.names.all (λp=>decide (p.2≠NameKind.cell)&&(decide (p.2≠NameKind.free)||decide (sc.names.lookup p.1=some NameKind.cell)))&&(N.zip ix).all (λq=>decide (NX[q.2]?=some q.1)&&decide (scope.names.lookup q.1=some NameKind.free))&&decide (N.length=ix.length)
theorem wZ{p pos bP:Pos}(F:Ñ X.prog X.w X.K X.mg X.base ä k f fd [y] sp)(hr:ì k X.A)(hg:Gl X x)(hm:X.mg x=some (.ref f))(hk:PySem.W.keepIn X.K (.ref f)=true)(hb:ø X.K fd [y] [])(hx:X.ex=[])(qa:∀x,X.fn x=true)(fE:X.env.code=.ref cc)(hC:CodeHd X.base cc T)(hB:X.base.BuiltinsAt X.mg T)(UK:X.env.scope=sc)(UL:X.N=NX)(xw:defaultsOf params X.env=([],[]))(UM:∀qual cl pm cv ct,bindArgs (kla_fn "<lambda>" qual params body scope cl pm cv ct) ⟨[],[]⟩=pure [])(ok:Km scope sc NX N ix=true)(fk:ź x:=by decide)(he:starEach [.Lambda params body scope bP] X.env=(false,eval (.Lambda params body scope bP) X.env)::starEach [] X.env:=by rfl)(ff:(backTo pos (starEach [] X.env)).any (·.1)=false:=by rfl):PE X (.Call (.Name x p) [.Lambda params body scope bP] [] pos) (Kl sp N ix (cY X.env.cells scope.names []) (tMk T (X.env.qual++"<lambda>") params body scope (cY X.env.cells scope.names []) N)):=by
 subst UK UL;unfold Km at ok;simp only[Bool.and_eq_true,Ć,Bool.not_eq_true',List.all_eq_true,Bool.or_eq_true]at ok;obtain⟨⟨⟨⟨⟨kd,co⟩,ge⟩,Pd⟩,zs⟩,hl⟩:=ok;have kc:∀p∈scope.names,p.2=NameKind.free->X.env.kindOf p.1=some .cell:=λp hp e=>by
  rcases(Pd p hp).2 with z|z;.exact absurd e z
  .exact z
 have hz:∀(j:Nat)(x:Str),N[j]?=some x->∃i,ix[j]?=some i/\X.N[i]?=some x/\scope.names.lookup x=some .free:=λj x e=>by have hj:=(ĵ.mp e).1;have e2:ix[j]?=some (ix[j]'Â):=à Â;have:=zs (x,ix[j]'Â) (ŕ (i:=j) (by rw[List.getElem?_zip_eq_some];exact⟨e,e2⟩));exact⟨_,e2,this.1,this.2⟩
 refine Jj F hr hg hm hk hb hx (λp hp e=>⟨kc p hp e,qa _⟩) hz (G9 ⟨xw,kd,co,ge,λp hp=>(Pd p hp).1,λp hp e=>.inl (kc p hp e),UM,λx hx=>?_⟩ fE hC hB) fk he ff;obtain⟨j,e⟩:=List.mem_iff_getElem?.mp hx;obtain⟨_,_,_,z⟩:=hz j x e;exact z
theorem ã.okC{K:Frag}{st:Stmt}{f cc:Addr}{fd:FuncData}{N ps:ó}{k:Nat}{sp:Sp}(F:ã K x qual st f fd)(hc:fd.code=.ref cc)(S:Ã N ps (aD st))(len:∀vs H Q E,sp vs H Q E->vs.length=ps.length)(ay:∀A outer s H vs Q E,ì k (A.deeper (envOfC qual (aD st) s.heap.objs.size f (.ref cc)))->sp vs H Q E->∃t,ľ (jt ä P w K mg base N qual (aD st) f (.ref cc) A outer s H E).nox (cV st) t/\t {nx:=λ_ H'=>Q .non H',rt:=Q} (start N vs) H):Ñ P w K mg base ä (k+1) f fd ps sp:=by obtain⟨oc,od,kV,doc,pm,an,ai,ct,kX,rfl,lk,eI⟩:=F.ex;subst hc;refine Ep lk eI S len λA outer s H vs Q E hr gT=>?_;obtain⟨t,h,q⟩:=ay A outer s H vs Q E hr gT;exact⟨t,h.nox,q⟩
theorem ã.oqC{K:Frag}{st:Stmt}{f cc:Addr}{fd:FuncData}{N ps:ó}{k:Nat}{sp:Sp}(F:ã K x qual st f fd)(hc:fd.code=.ref cc)(S:Ã N ps (aD st))(ay:∀A outer s H vs Q E,ì k (A.deeper (envOfC qual (aD st) s.heap.objs.size f (.ref cc)))->sp vs H Q E->∃t,ľ (jt ä P w K mg base N qual (aD st) f (.ref cc) A outer s H E).nox (cV st) t/\t {nx:=λ_ H'=>Q .non H',rt:=Q} (start N vs) H)(len:Ϛ sp ps:=by exact{}):Ñ P w K mg base ä (k+1) f fd ps sp:=F.okC hc S len.h ay
section
mutual
theorem Ó.kp(k:∀b o,(∀ps,o≠HO.tbl ps)->(∀ob u,o≠HO.frz ob u)->H b=some o->H' b=some o)(hS:∀b o,(∀ps,o≠HO.tbl ps)->(∀ob u,o≠HO.frz ob u)->S b->H b=some o->S' b):∀{v:V}{d:PyData},Ó S H v d->Ó S' H' v d|_,_,.non=>.non|_,_,.bl b=>.bl b|_,_,.int i=>.int i|_,_,.str x=>.str x|_,_,.lst s e r=>.lst (hS _ _ (λ_ z=>by cases z) (λ_ _ z=>by cases z) s e) (k _ _ (λ_ z=>by cases z) (λ_ _ z=>by cases z) e) (Ä.kp k hS r)|_,_,.tup e r=>.tup (k _ _ (λ_ z=>by cases z) (λ_ _ z=>by cases z) e) (Ä.kp k hS r)|_,_,.dct s e=>.dct (hS _ _ (λ_ z=>by cases z) (λ_ _ z=>by cases z) s e) (k _ _ (λ_ z=>by cases z) (λ_ _ z=>by cases z) e)
theorem Ä.kp(k:∀b o,(∀ps,o≠HO.tbl ps)->(∀ob u,o≠HO.frz ob u)->H b=some o->H' b=some o)(hS:∀b o,(∀ps,o≠HO.tbl ps)->(∀ob u,o≠HO.frz ob u)->S b->H b=some o->S' b):∀{vs:List V}{ds:ģ},Ä S H vs ds->Ä S' H' vs ds|_,_,.nil=>.nil|_,_,.cons h t=>.cons (Ó.kp k hS h) (Ä.kp k hS t)
end
theorem Ó.tbl(h:Ó S H v d)(t:û H T q)(k:∀b o,b≠T->H b=some o->H' b=some o):Ó S H' v d:=h.kp (λb o n1 _ e=>k b o (λz=>by obtain⟨ps,y,_⟩:=t;rw[z,y]at e;cases e;exact n1 _ rfl) e) λ_ _ _ _ s _=>s
theorem Og(no:NoC cs H):er (fz H cs) cs=H:=by funext b;cases q:cs.lookup b with|some o=>rw[mF q,no b o q];|none=>rw[gJ q,eQ q]
theorem À.fz(s:À H H'):À (L2.fz H cs) (L2.fz H' cs):=λb o e=>by cases q:cs.lookup b with|some u=>rw[tH q]at e⊢;exact e;|none=>rw[eQ q]at e⊢;exact s b o e
theorem Av(s:À (fz H cs) H1)(n:∀ob u,o≠HO.frz ob u)(e:H1 b=some o):er H1 cs b=some o:=by cases q:cs.lookup b with|some u=>rw[s b _ (tH q)]at e;cases e;exact absurd rfl (n _ _);|none=>rw[gJ q];exact e
theorem À.er(s:À (L2.fz H cs) H1)(no:NoC cs H):À H (L2.er H1 cs):=λb o e=>by cases q:cs.lookup b with|some u=>rw[no b u q]at e;cases e;|none=>rw[gJ q];exact s b o (by rw[eQ q];exact e)
end
theorem Dp{K:Frag}{sp:Sp}{s₁:Shared}{vs:ā}{ns:WF}(KX:K.In s₁.heap)(LL:s₁.heap.Ns mainGlobals mg)(hb:s₁.heap.Ns builtinsNs mb)(UN:∀x:Str,x≠"__name__"->mb x=bootBuiltins x)(LM:s₁.heap.NoLimit)(hg:s₁.gens=#[])(hC:CodeHd s₁.heap c T)(hT:s₁.heap.get? T=some (tabObj #[]))(hK:noTabs K=true)(bmain:∃bm ob,mg "__builtins__"=some (.ref bm)/\bm≠builtinsNs/\s₁.heap.get? bm=some ob/\ob.cls=.type "module"/\ob.dict=some builtinsNs/\ob.data=.plain)(ha:s₁.heap.get? a=some {cls:=.type "list",data:=.seq vs.toArray})(hi:IntsAre vs ns)(hl:ns.length<=sizeLine)(hr:ì k callerA)(F:∀base,K.In base->base.Ns mainGlobals mg->CodeHd base c T->base.BuiltinsAt mg T->Ñ P w K mg base CX k fa fd [x] sp)(D3:∀s u,BindsTo s fd ⟨[u],[]⟩ [(x,u)])(gT:∀H,Ê K H a (ns.map V.int)->û H T qn->sp [.ref a] H (λv _=>v=.bl true) λ_ _ _=>False)(LN:∀H e s',CX [] H s₁ (λ_ _ _=>False) e s'->False):codeAny (model P w) callerA (.call (.ref fa) ⟨[.ref a],[]⟩) (λr s'=>r=.ok (.ret (.bool true))/\OldK s₁.heap s'.heap/\s'.os=s₁.os/\AllBare s'.gens) s₁:=by
 have rv:=nF hi;have LO:=hi.length;have neT:a≠T:=λz=>by rw[z,hT]at ha;cases ha
 have UO:K.lookup T=none:=by cases e:K.lookup T with|none=>rfl;|some o=>have h1:=KX _ _ e;rw[hT]at h1;cases h1;have h2:=ō.mp hK _ (mem_of_lookupK e);exact absurd (show false=true from h2) Ř
 have core:∀H:Hp,H T=some (.tbl #[])->(∀b,b≠T->H b=none\/∃o xs,H b=some (.frz o (.lst xs)))->Ê K H a (ns.map V.int)->ą P w H s₁.heap->(∀b,H b≠none->b=a\/b=T)->(H a≠none->K.lookup a=none)->codeAny (model P w) callerA (.call (.ref fa) ⟨[.ref a],[]⟩) (λr s'=>r=.ok (.ret (.bool true))/\OldK s₁.heap s'.heap/\s'.os=s₁.os/\AllBare s'.gens) s₁:=by
  intro H eT hO hS hok hA UP;have eC:∀{b:Addr}{o:Obj},s₁.heap.get? b=some o->H b=none->(pH s₁.heap H).get? b=some o:=λe n=>Ed e n;have apart:∀{b:Addr}{o:Obj},s₁.heap.get? b=some o->(∀Æ n,o.data≠.seq Æ n)->o.cls≠.none->H b=none:=λ{b o}e h1 h2=>by grind
  have Ct:∀{b:Addr}{o:Obj}{es:Array DictEntry}{ep:Nat},s₁.heap.get? b=some o->o.data=.dict es ep->H b=none:=λ{b o es ep}e d=>by cases q:H b with|none=>rfl;|some u=>
    rcases hA b (by rw[q];simp)with z|z;.rw[z,ha]at e;cases e;cases d
    .rw[z,hT]at e;cases e;cases d
  have FY:∀{b:Addr}{m:TX},s₁.heap.Ns b m->(pH s₁.heap H).Ns b m:=λ{b m}⟨o,es,ep,e,d,r⟩=>⟨o,es,ep,eC e (Ct e d),d,r⟩;have Pe:K.In (pH s₁.heap H):=λb o e=>eC (KX b o e) (by cases q:H b with|none=>rfl;|some u=>
    rcases hA b (by rw[q];simp)with z|z;.subst z;rw[UP (by rw[q];simp)]at e;cases e
    .rw[z,UO]at e;cases e);have hM:Mod K mg (pH s₁.heap H):=⟨Pe,FY LL,⟨mb,FY hb,UN⟩,let⟨mc,h1,h2⟩:=LM;⟨mc,FY h1,h2⟩⟩;have e0:Ŀ P w K mg (pH s₁.heap H) callerA [] s₁ H:=⟨rfl,hM,λb o e=>Ib e,Nat.le_of_eq (Cg _ _),trivial,λb hb=>absurd (show b∈([]:Č)from hb) Ù,hok,.of_eq hg⟩;have UQ:CodeHd (pH s₁.heap H) c T:=by obtain⟨o,UR,file,tf,flags,tg,DA,text,tt,e,h1,h2,r⟩:=hC;exact⟨o,UR,file,tf,flags,tg,DA,text,tt,eC e (apart e (λÆ n z=>by rw[h2]at z;cases z) λz=>by rw[h1]at z;cases z),h1,h2,r⟩
  have US:(pH s₁.heap H).BuiltinsAt mg T:=by
   obtain⟨bm,ob,b1,b2,b3,b4,b5,b6⟩:=bmain;refine⟨bm,ob,b1,b2,λz=>?_,λz=>?_,eC b3 (apart b3 (λÆ n z=>by rw[b6]at z;cases z) λz=>by rw[b4]at z;cases z),b4,b5,b6⟩;.obtain⟨o,es,ep,e,d,_⟩:=LL;rw[z,e]at b3;cases b3;rw[d]at b6;cases b6
   .rw[z,hT]at b3;cases b3;cases b4
  refine codeAny_mono ((F _ Pe (FY LL) UQ US).run callerA [] s₁ H ⟨[.ref a],[]⟩ [.ref a] [.ref a] _ _ hr e0 (D3 s₁ (.ref a)) (.cons rfl .nil) (gT H hS ⟨#[],eT,trivial,λl=>.inl rfl⟩)) λr s' h=>?_;cases r with|error e=>exact(LN H e s' h).elim;|ok fl=>cases fl with|next=>exact False.elim h;|brk=>exact False.elim h;|cont=>exact False.elim h;|ret u=>
    obtain⟨v,H',os,bare,un,D4,r',q⟩:=h;have q':v=.bl true:=q;subst q';obtain rfl:u=Value.bool true:=r';have kept:∀b o,b≠T->s₁.heap.get? b=some o->s'.heap.get? b=some o:=λb o nb e=>by
     rcases hO b nb with z|⟨ob,xs,z⟩;.exact un.keep b o e z (by intro z;exact absurd (show b∈([]:Č)from z) Ù) Ù
     .have z2:=un.frzs b ob _ z;obtain⟨e1,_⟩:=hok b _ z;obtain⟨e2,_⟩:=D4 b _ z2;rw[e]at e1;cases e1;exact e2
    obtain⟨more,UT⟩:=un.tbls T #[] eT;have Pf:s'.heap.get? T=some (tabObj (#[]++more)):=D4 T _ UT;refine⟨rfl,⟨λb o e=>?_,λb o e=>?_⟩,os,bare⟩
    .by_cases z:b=T;.subst z;rw[hT]at e;cases e;exact .inr (.inl ⟨(hC.tab hT).isCodeTable,rfl,#[],more,rfl,Pf⟩)
     .exact .inl (kept b o z e)
    .by_cases z:b=T;.rw[z];exact⟨_,Pf⟩
     .exact⟨o,kept b o z e⟩
 cases hk:K.lookup a with|some o=>
  have e:=KX a o hk;rw[ha]at e;cases e;refine core (λb=>if b=T then some (.tbl #[])else none) (Í rfl) (λb nb=>.inl (Ë nb)) (.inr ⟨_,vs.toArray,_,hk,rfl,rfl,rfl,by rw[ē,LO];exact hl,by simpa using rv⟩) (λb u z=>?_) (λb z=>?_) λz=>absurd (Ë neT) z
  .by_cases dE:b=T;.have z':=(Í dE).symm.trans z;cases z';subst dE;exact hT
   .have z':=(Ë dE).symm.trans z;cases z'
  .by_cases dE:b=T;.exact .inr dE
   .exact absurd (Ë dE) z;|none=>
  refine core (λb=>if b=T then some (.tbl #[])else if b=a then some (.frz {cls:=.type "list",data:=.seq vs.toArray} (.lst (ns.map V.int)))else none) (Í rfl) (λb nb=>?_) (.inl (.inr ⟨{cls:=.type "list",data:=.seq vs.toArray},(Ë neT).trans (Í rfl)⟩)) (λb u z=>?_) (λb z=>?_) λ_=>hk
  .by_cases dE:b=a;.exact .inr ⟨_,_,(Ë nb).trans (Í dE)⟩
   .exact .inl ((Ë nb).trans (Ë dE))
  .by_cases ki:b=T;.have z':=(Í ki).symm.trans z;cases z';subst ki;exact hT
   .by_cases dE:b=a;.have z':=((Ë ki).trans (Í dE)).symm.trans z;cases z';subst dE;exact⟨ha,by rw[Ø];exact hl,vs,_,rv,ha⟩
    .have z':=((Ë ki).trans (Ë dE)).symm.trans z;cases z'
  .by_cases ki:b=T;.exact .inr ki
   .by_cases dE:b=a;.exact .inl dE
    .exact absurd ((Ë ki).trans (Ë dE)) z
theorem walk_ofT{l:PySem.W.OpenLaw}{K:Params->Frag}{CX:World->CXT}{sp:World->Sp}{x nm qn:Str}{c T:Addr}(hn:l.most=some n)(CY:n<=sizeLine)(xw:d.params.defaults=[])(hr:ì k callerA)(hY:∀w h,YP w h->(K w.params).In h)(LP:(recsOf q).find? (λe=>e.name==nm)=some dr)(D2:∀p,tabIn (K p) nm=some (c,T))(LS:∀p,noTabs (K p)=true)(F:∀w mg fa h,(K w.params).In h->h.Ns mainGlobals mg->mg d.name=some (.ref fa)->∃fd,(∀s u,BindsTo s fd ⟨[u],[]⟩ [(x,u)])/\∀base,(K w.params).In base->base.Ns mainGlobals mg->CodeHd base c T->base.BuiltinsAt mg T->Ñ l.prog w (K w.params) mg base (CX w) k fa fd [x] (sp w))(gT:∀w H a(ns:WF),ns.length<=n->Ê (K w.params) H a (ns.map V.int)->û H T qn->sp w [.ref a] H (λv _=>v=.bl true) λ_ _ _=>False)(LN:∀w H s e s',CX w [] H s (λ_ _ _=>False) e s'->False):PySem.W.WalkO q loose XP YP l.row.toRowW d [] (λf vs=>PySem.call f vs):=by refine Att.attach_call hn xw λw s₀ s₁ mg mb fa o pm cd doc a vs ns G Y ho hd eI hmg xy hints hlen hg=>?_;have KX:=hY w _ Y;obtain⟨fd,hb,hF⟩:=F w mg fa _ KX G.T.g hmg;obtain⟨hC,hT⟩:=tab_of G.T KX LP (D2 w.params);exact Dp KX G.T.g G.T.b G.T.builtins G.T.nolimit hg hC hT (LS w.params) G.T.bmain xy hints (ŝ hlen CY) hr hF hb (λH hS UU=>gT w H a ns hlen hS UU) λH e s'=>LN w H s₁ e s'
open PySem PySem.Spec PyProof.Rows PySem.SeqAt
theorem Ga(hu:X.A.units+64<cLine):Ġ X (compareOp .NotEq) (λx y H Q=>∃d,Ó S H x d/\Ó S H y d/\shaped d=true/\noMix d d=true/\Q (.bl false) H):=by intro Á s σ H x y v u Q I rx ry h;obtain⟨d,t1,t2,sh,nm,q⟩:=h;obtain⟨as,r1,_⟩:=t1.reads I rx;obtain⟨bs,r2,_⟩:=t2.reads I ry;refine ne_dataH_same r1 r2 sh sh hu nm ⟨.bl false,H,I,?_,q⟩;rw[Spec.same_self];rfl
end L2
namespace L2.DI
open PySem PySem.Spec PyProof.Rows PySem.Calls PySem.W
section
theorem Dq:typeLookup (.type "list") "keys"=pure none:=by rw[typeLookup_type,builtinLookup_eq_fast];kernel_rfl
theorem Jk(hx:s.heap.get? a=some {cls:=.type "list",dict:=none,data:=.seq xs k,slots:=#[]})(hA:A.handled=none)(q:∀h' tk,(∀b o,s.heap.get? b=some o->h'.get? b=some o)->Q none {s with heap:=h',toks:=tk}):wpAny (model prog w) A (getAttr? (.ref a) "keys") Q E s:=by
 obtain⟨hp,g,d,tk,os⟩:=s;have hT:∀F0,(⟨hp,g,d,F0,os⟩:Shared).TypeIs (.ref a) "list":=λ_=>⟨_,hx,rfl⟩;have f3:=F.slot_list_getattribute.lookup;have f4:=F.slot_list_getattribute.bind (.ref a);have f5:=am_list_getattr_none;have f1:=sub_AttributeError;unfold getAttr? getAttrBy? getAttrBy;repeat(any_goals(first|assumption|exact hT _|((with_reducible show wpAny _ _ (call (Value.builtin "list.__getattribute__") _ _) _ _ _);refine call_meets F.slot_list_getattribute (hT _) am_entry_list_getattribute (F.args_list_getattribute_2 _ _) (meets_getattribute_miss_list a xs k #[] "keys" _ Dq z04 (by size_fits)) ⟨hx,hA,λh' F0 e cq=>?_⟩)|wp_step))
 obtain⟨t',u',he⟩:=cq.there;show wpAny _ _ (getattributeRaised _ _ _ _ _ _ _) _ _ _;unfold getattributeRaised;repeat(any_goals(first|assumption|wp_step))
 exact q _ _ cq.of.keeps
end
theorem tL:entryFor table "dict.update.loop"=some Builtin.«dict.update.loop»:=entryFor_of_tree (by kernel_rfl)
theorem jT:plainId "dict.update.loop"=true:=by decide+kernel
theorem Jl{KK:Type}[DecidableEq KK]{xs:List (KK×Addr×Value)}{k:KK}(h:∀x∈xs,x.1≠k):atKey xs k=none:=by unfold atKey;rw[List.find?_eq_none.mpr λx hx=>by simpa using h x hx];rfl
section
variable{KK:Type}[DecidableEq KK]{knd:HeapKind prog w KK}{s:Shared}{R:Result->Shared->Prop}{n I l:Addr}{xs:List (KK×Addr×Value)}{as:Č}{h₀:Heap}
theorem Z0s(hh:A.handled=none)(hu:knd.room A.in1)(hz:xs.length<=sizeLine)(nd:(xs.map (·.1)).Nodup)(mono:∀x∈xs,∀h,(∀c o,h₀.get? c=some o->h.get? c=some o)->knd.is h x.1 x.2.1)(eL:h₀.IsList l (as.map Value.ref).toArray)(la:as.length=xs.length)(eP:∀(j:Nat)a x,as[j]?=some a->xs[j]?=some x->∃o n,h₀.get? a=some o/\o.cls=.type "tuple"/\o.data=.seq #[.ref x.2.1,x.2.2] n)(nn:h₀.get? n=none)(nI:h₀.get? I=none)(LU:n≠I)(hR:∀h' tk,(∀c o,h₀.get? c=some o->h'.get? c=some o)->h'.DictOfH knd n xs->R (.ok (.ret .none)) {s with heap:=h',toks:=tk}):∀m i h tk,xs.length-i=m->i<=xs.length->h.IsListIter I l i->(∀c o,h₀.get? c=some o->h.get? c=some o)->h.DictOfH knd n (xs.take i)->codeAny (model prog w) A (.builtin "dict.update.loop" ⟨[.ref n,.ref I,rawInt i,.none],[]⟩) R {s with heap:=h,toks:=tk}:=by
 have sI:∀{h h':Heap},Heap.ExtBut I h h'->(∀c o,h₀.get? c=some o->h.get? c=some o)->∀c o,h₀.get? c=some o->h'.get? c=some o:=λx k c o e=>x c o (λz=>by rw[z,nI]at e;cases e) (k c o e);intro m
 induction m with|zero=>
  intro i h tk hm hi it kp dd;refine codeAny_builtin tL ?_;rw[Around.under_plainId jT _];show wpAny (model prog w) A.in1 (pyNext (.ref I)>>=_) _ _ _;refine Å (wpAny_pyNext_list_end (s:={s with heap:=h,toks:=tk}) (A:=A.in1) hh it (eL.at λo e=>kp _ o e) (by rw[List.getElem?_toArray,Zaj (by rw[Ø];lia)]) λh' x=>?_);have js:h'.DictOfH knd n xs:=by rw[Ϭ Â]at dd;obtain⟨o,es,ep,g1,g2,g3,g4,g5,g6⟩:=dd;exact⟨o,es,ep,x _ _ LU g1,g2,g3,g4,λy hy=>mono y hy h' (sI x kp),g6⟩
  exact Å (Ý (Ý (hR h' tk (sI x kp) js)));|succ m ih=>
  intro i h tk hm hi it kp dd;have ax:i<xs.length:=Â;have yY:i<as.length:=Â;refine codeAny_builtin tL ?_;rw[Around.under_plainId jT _];show wpAny (model prog w) A.in1 (pyNext (.ref I)>>=_) _ _ _;refine Å (wpAny_pyNext_list_item (s:={s with heap:=h,toks:=tk}) (A:=A.in1) (x:=.ref as[i]) it (eL.at λo e=>kp _ o e) (by rw[List.getElem?_toArray,ċ,à yY];rfl) λh₁ it₁ sb=>?_);have ko:=sI sb.extBut kp;obtain⟨oT,_,eT,cT,dT⟩:=eP i as[i] xs[i] (à yY) (à ax);have eT:=ko _ _ eT;have ty:Shared.TypeIs {s with heap:=h₁,toks:=tk} (.ref as[i]) "tuple":=⟨_,eT,cT⟩;have D5:h₁.DictOfH knd n (xs.take i):=by obtain⟨o,es,ep,g1,g2,g3,g4,g5,g6⟩:=dd;exact⟨o,es,ep,sb.extBut _ _ LU g1,g2,g3,g4,λy hy=>mono y (Zaq hy) h₁ ko,g6⟩
  refine Å (wpAny_holding (Å (wpAny_tryCatch ?_)));unfold Builtin.Dict.pairItems;refine Å (wpAny_typeOf ty ?_);rw[Í Û];refine Å (wpAny_seqItems eT dT (Ý ?_));show wpAny (model prog w) A.in1 (holding [Value.ref xs[i].2.1,xs[i].2.2] (dictSet n (.ref xs[i].2.1) xs[i].2.2)) _ _ _;refine wpAny_holding (wpAny_dictSet_heap (hsz:=by rw[Ĵ];lia) hu (mono _ (Ě ax) h₁ ko) D5 λiA tS tT=>?_);have e2:storedH (xs.take i) xs[i].1 xs[i].2.1 xs[i].2.2=xs.take (i+1):=by
   rw[storedH_new (Jl λx hx z=>?_),ī,à ax];.rfl
   .obtain⟨j,hj,e⟩:=Zao hx;rw[Ĵ]at hj;rw[List.getElem_take]at e;have l1:j<(xs.map (·.1)).length:=by rw[Ø];lia
    have l2:i<(xs.map (·.1)).length:=by rw[Ø];exact ax
    have:j=i:=(List.getElem_inj (h₀:=l1) (h₁:=l2) nd).mp (by simp only[List.getElem_map];rw[e];exact z);lia
  rw[e2]at tS;refine Ý ⟨plainId_quiet jT _,?_⟩;have:=ih (i+1) iA (tk+knd.draws xs[i].1) Â ax (it₁.at λo e=>tT.extBut _ _ (Ne.symm LU) e) (λc o e=>tT.extBut c o (λz=>by rw[z,nn]at e;cases e) (ko c o e)) tS;rw[show rawInt ((i+1:Nat):Int)=rawInt ((i:Int)+1)from rfl]at this;exact this
end
section
variable{KK:Type}[DecidableEq KK]{knd:HeapKind prog w KK}{l:Addr}{xs:List (KK×Addr×Value)}{as:Č}
theorem Oh(hh:A.handled=none)(hu:knd.room A.in1.in1)(hz:xs.length<=sizeLine)(nd:(xs.map (·.1)).Nodup)(mono:∀x∈xs,∀h,(∀c o,s.heap.get? c=some o->h.get? c=some o)->knd.is h x.1 x.2.1)(eL:s.heap.get? l=some {cls:=.type "list",dict:=none,data:=.seq (as.map Value.ref).toArray c,slots:=#[]})(la:as.length=xs.length)(eP:∀(j:Nat)a x,as[j]?=some a->xs[j]?=some x->∃o n,s.heap.get? a=some o/\o.cls=.type "tuple"/\o.data=.seq #[.ref x.2.1,x.2.2] n)(hQ:∀h' tk,(∀c o,s.heap.get? c=some o->h'.get? c=some o)->h'.DictOfH knd s.heap.objs.size xs->Q (.ref s.heap.objs.size) {s with heap:=h',toks:=tk}):wpAny (model prog w) A (call (.type "dict") [.ref l]) Q E s:=by refine callType_codes (Q₁:=λobj s₁=>obj=.ref s.heap.objs.size/\s₁={s with heap:=s.heap.push {cls:=.type "dict",data:=.dict #[]}}) F.kt_called_dict (F.kt_typeCall_dict_1 _) F.entry_dict_init (kt_code_dict_new _ ⟨rfl,rfl⟩) ?_;rintro obj s₁⟨rfl,rfl⟩;have dn:(s.heap.push {cls:=.type "dict",data:=.dict #[]}).DictOfH knd s.heap.objs.size []:=Heap.DictOfH.new s.heap;have nn:s.heap.get? s.heap.objs.size=none:=Heap.get?_none_of_le (ß _);refine⟨dn.typeIs,F.args_dict_init_2 _ _,?_⟩;have up:∀b o,s.heap.get? b=some o->(s.heap.push {cls:=.type "dict",data:=.dict #[]}).get? b=some o:=λb o e=>č _ e;have zz:(s.heap.push {cls:=.type "dict",data:=.dict #[]}).objs.size=s.heap.objs.size+1:=Heap.size_push ..;generalize s.heap.push {cls:=.type "dict",data:=.dict #[]}=g at dn up zz⊢;unfold Builtin.«dict.__init__»;refine Å ?_;unfold Builtin.Dict.selfAndRest;refine Å (wpAny_notOrdered_dict dn.typeIs ?_);show wpAny (model prog w) A.in1.in1 (pure (s.heap.objs.size,[Value.ref l])) _ _ _;refine Ý ?_;show wpAny (model prog w) A.in1.in1 (Builtin.Dict.updateFrom "dict.__init__" s.heap.objs.size (.ref l) [] .none) _ _ _;unfold Builtin.Dict.updateFrom;refine Å (wpAny_typeOf (s:={s with heap:=g}) (T:="list") ⟨_,up _ _ eL,rfl⟩ ?_);rw[Í Û];refine Å (Jk (s:={s with heap:=g}) (A:=A.in1.in1) (up _ _ eL) hh λh₁ tk kp=>?_);simp only[Option.isNone_none,if_true];obtain⟨o,es,ep,d1,d2,d3,d4,d5,d6⟩:=dn;have Pl:=kp _ _ d1;have ln:s.heap.objs.size<h₁.objs.size:=ÿ Pl;have hl:h₁.IsList l (as.map Value.ref).toArray:=⟨_,kp _ _ (up _ _ eL),rfl,_,rfl⟩;refine Å (wpAny_rule (Å (wpAny_pyIter_list (s:={s with heap:=h₁,toks:=tk}) hl (Ý ⟨plainId_quiet jT _,?_⟩))));exact Z0s (A:=A.in1) (s:=s) (h₀:=s.heap) hh hu hz nd mono ⟨_,eL,rfl,_,rfl⟩ la eP nn (Heap.get?_none_of_le (Za6 ln)) (Ĩ ln) (λh' F0 k' dd=>⟨rfl,hQ h' F0 k' dd⟩) xs.length 0 _ tk (Nat.sub_zero _) (ĥ _) ⟨_,ı _ rfl,rfl,rfl⟩ (λc o e=>č _ (kp _ _ (up _ _ e))) ⟨o,es,ep,č _ Pl,d2,d3,d4,(λ_ hx=>nomatch hx),d6⟩
end
section
theorem Jm(r:KT H kvs xs):kvs.map (·.1)=xs.map (·.1):=by induction r with|nil=>rfl;|cons h _ ih=>rw[Ī,Ī,h.1,ih]
theorem M6(r:KT H kvs xs):∀x∈xs,H x.2.1=some (.tup (x.1.map kV)):=by induction r with|nil=>intro x hx;cases hx;|cons h _ ih=>
  intro x hx;rcases ĩ.mp hx with z|z;.rw[z];rw[<-h.1];exact h.2.1
  .exact ih x z
theorem xf{σ:L2.St}(I:Ç X Á σ H s):∀kvs(l:Č),(∀(j:Nat)kv,kvs[j]?=some kv->∃a b,l[j]?=some a/\H a=some (.tup [.ref b,kv.2])/\H b=some (.tup (kv.1.map kV)))->∃xs,KT H kvs xs/\∀(j:Nat)(a:Addr)(x:List Key×Addr×Value),l[j]?=some a->xs[j]?=some x->∃o n,s.heap.get? a=some o/\o.cls=.type "tuple"/\o.data=.seq #[.ref x.2.1,x.2.2] n
 |[],l,_=>⟨[],.nil,λj a x _ h=>by simp at h⟩|(k,v)::kvs,l,h=>by
  obtain⟨a,b,h1,h2,h3⟩:=h 0 (k,v) rfl;obtain⟨_,Æ,rv,o,ho,hc,c,hd⟩:=(I.hok a _ h2);obtain⟨u1,u2,rfl,r1,r2⟩:=ň rv;cases r1;obtain⟨a',l,rfl⟩:∃b l',l=b::l':=by cases l with|nil=>simp at h1;|cons b l=>exact⟨b,l,rfl⟩
  have e:a'=a:=by simpa using h1
  subst e;obtain⟨xs,kt,hr⟩:=xf I kvs l λj kv hj=>h (j+1) kv (by simpa using hj);refine⟨(k,b,u2)::xs,.cons ⟨rfl,h3,r2⟩ kt,λj a x ha hx=>?_⟩;cases j with|zero=>cases(show a'=a by simpa using ha);cases(show(k,b,u2)=x by simpa using hx);exact⟨o,c,ho,hc,hd⟩;|succ j=>exact hr j a x (by simpa using ha) (by simpa using hx)
theorem call_dictT(hc:X.calm=true)(hu:X.A.units+64<cLine):eO X (.type "dict") (λxs H Q=>∃(p:Addr)(l:Č)(kvs:List (List Key×V)),xs=[.ref p]/\H p=some (.lst (l.map V.ref))/\l.length=kvs.length/\(kvs.map (·.1)).Nodup/\(∀(j:Nat)kv,kvs[j]?=some kv->∃a b,l[j]?=some a/\H a=some (.tup [.ref b,kv.2])/\H b=some (.tup (kv.1.map kV)))/\∀q,H q=none->q≠sysModules->Q (.ref q) (upd H q (.dT kvs))):=by
 intro Á s σ H xs us Q I r h;obtain⟨p,l,kvs,rfl,hp,hl,nd,rows,q⟩:=h;obtain⟨u,rfl,ru⟩:=ü r;cases ru;obtain⟨z,Æ,n,rv,hlen,e⟩:=I.lstM hp;rw[Ø]at z;have ei:=nP rv;subst ei;obtain⟨xs,kt,hx⟩:=xf I kvs l rows;have zk:=kt.len;have nd2:(xs.map (·.1)).Nodup:=by have:xs.map (·.1)=kvs.map (·.1):=(Jm kt).symm;rw[this];exact nd
 refine Oh (knd:=tupleKind (bF X.prog X.w)) (xs:=xs) (as:=l) (I.ok.hd hc) (show X.A.units+1+1<cLine by lia) Â nd2 (λx KI g kg=>?_) e Â hx λh' tk kp dd=>?_;.obtain⟨o,Æ,n,a1,a2,a3,a4⟩:=q9 I.hok (M6 kt x KI);exact⟨o,Æ,n,kg _ _ a1,a2,a3,a4⟩
 .have hn:H s.heap.objs.size=none:=I.hok.fresh (ß _);have ns:s.heap.objs.size≠sysModules:=Ne.symm (Ĩ I.big);obtain⟨o2,Lm,UW,b1,b2,b3,b4,_,b6⟩:=dd;refine⟨.ref s.heap.objs.size,_,I.laid (a:=s.heap.objs.size) (o:=.dT kvs) (t':=tk) kp (ß _) ⟨Â,beq_eq_false_iff_ne.mpr ns,xs,kt.keeps λb ys e=>?_,o2,Lm,UW,b1,b2,b3,b4,b6⟩,rfl,q _ hn ns⟩;rw[aq (aB e hn)];exact e
end
end L2.DI
namespace K51
open PySem L2
def top(i:Nat):Stmt:=PySem.Challenge.pw_woolyears_k51_by_when_all_is_met.main.body.getD i (.Pass ⟨0,0,0,0⟩)
def bB(d:PyData):Bool:=nH d&&!lV d
def items:PyData->ģ|.tuple ds=>ds|_=>[]
def í:PyData->Int|.int i=>i|_=>0
def bM(d:PyData)(f m:Int):Bool:=cD d&&(decide (f<=(items d).length)&&decide (((items d).length:Int)<=m))
def bK(d:PyData)(n:Int):Bool:=bM d n n&&(items d).all bB
def kI(d:PyData):Bool:=bK d 3&&(items d).all λx=>decide (0<=í x)&&decide (í x<=999)
def iR(d:PyData):Bool:=bM d 1 20&&(items d).all kI
def at_(d:PyData)(i:Nat):Int:=í ((items d).getD i .none)
def lE(a b c d e f:Int):Bool:=(decide (0<=a)&&decide (a<8))&&((decide (0<=b)&&decide (b<3))&&((decide (0<=c)&&(decide (c<=d)&&decide (d<=19)))&&((decide (1<=e)&&decide (e<=99))&&(decide (0<=f)&&decide (f<=1000000)))))
def iZ(d:PyData):Bool:=bK d 6&&lE (at_ d 0) (at_ d 1) (at_ d 2) (at_ d 3) (at_ d 4) (at_ d 5)
def fW(d:PyData):Bool:=bM d 0 10&&(items d).all iZ
theorem ϧ(x:Str):([x]:ó).Nodup:=by simp
theorem Gb(d:PyData):1<=sz d:=by cases d<;>simp[sz]
theorem oZ:∀ds,ds.length<=ù ds|[]=>ĥ _|d::ds=>by have:=oZ ds;have:=Gb d;simp only[List.length_cons,ù];lia
theorem ph:∀{ds:ģ}{d:PyData},d∈ds->sz d<=ù ds
 |x::ds,d,h=>by
  simp only[ù];rcases ĩ.mp h with e|e;.rw[e];lia
  .have:=ph e;lia
theorem gj(h:d∈ds)(hz:sz (.tuple ds)<=4000):sz d<=4000:=by have:=ph h;simp only[sz]at hz;lia
theorem dC(r:Ä S H xs ds)(hz:sz (.tuple ds)<=4000):xs.length<sizeLine:=by have:=oZ ds;have:=r.length;simp only[sz]at hz;rw[sizeLine_eq];lia
def Ĕ(f:PyData->Bool):Sp:=λvs H Q _=>∃S v d,vs=[v]/\Ó S H v d/\sz d<=4000/\∀H',À H H'->Q (.bl (f d)) H'
inductive Z0e(f:PyData->Int->Bool)(vs:List V)(H:Hp)(Q:VK):Prop|mk:∀S v d n,(vs=[v,.int n])->(Ó S H v d)->(sz d<=4000)->(∀H',À H H'->Q (.bl (f d n)) H')->Z0e f vs H Q
def Jo(f:PyData->Int->Bool):Sp:=λvs H Q _=>Z0e f vs H Q
def jX(f:PyData->Int->Int->Bool):Sp:=λvs H Q _=>∃S v d n m,vs=[v,.int n,.int m]/\Ó S H v d/\sz d<=4000/\∀H',À H H'->Q (.bl (f d n m)) H'
structure Mg(mg:TX):Prop where
 isinstance:mg "isinstance"=none
 int:mg "int"=none
 bool:mg "bool"=none
 tuple:mg "tuple"=none
 len:mg "len"=none
 all:mg "all"=none
theorem Ō:bootBuiltins "int"=some (.type "int"):=by decide+kernel
theorem Š:bootBuiltins "bool"=some (.type "bool"):=by decide+kernel
theorem Ò:bootBuiltins "tuple"=some (.type "tuple"):=by decide+kernel
theorem É:bootBuiltins "isinstance"=some (.builtin "isinstance"):=by decide+kernel
theorem æ:bootBuiltins "all"=some (.builtin "all"):=by decide+kernel
theorem cH(f:PyData->Bool)(fA:σ[i]?=some (some (.ref a)))(ea:H a=some (.tup xs))(r:Ä S H xs ds)(hl:xs.length<sizeLine)(kF:∀v d H1 Q1,d∈ds->À H H1->Ó S H1 v d->(∀H',À H1 H'->Q1 (.bl (f d)) H')->te ((ļ σ src).set j (some v)) H1 Q1)(q:∀H',À H H'->Q (.bl (ds.all f)) H'):tCB (λxs H Q=>∃(p:Addr)(bs:List Bool),xs=[.ref p]/\Ê K H p (bs.map V.bl)/\Q (.bl (bs.all id)) H) (fP (Ex (Nf K (vK i)) src (bO j) uC te) pN) σ H Q:=by
 refine⟨_,fA,a,rfl,⟨xs,Î.of ea⟩,wy (j:=j) f ea r hl kF λH2 s2 D hD=>⟨D,ds.map f,rfl,?_,?_⟩⟩;.rw[<-Fe];exact Ê.of aj
 .rw[Ls];exact q _ (s2.updR hD)
structure Nums(mg:TX):Prop where sorts:∃t,mg "SORTS"=some (.int 3 t)holders:∃t,mg "HOLDERS"=some (.int 8 t)year:∃t,mg "LAST_YEAR"=some (.int 19 t)clips:∃t,mg "MOST_CLIPS"=some (.int 20 t)proms:∃t,mg "MOST_PROMISES"=some (.int 10 t)wool:∃t,mg "MOST_WOOL"=some (.int 999 t)sacks:∃t,mg "MOST_SACKS"=some (.int 99 t)price:∃t,mg "MOST_PRICE"=some (.int 1000000 t)
theorem nQ(h:bK d n=true):bM d n n=true/\∀x∈items d,bB x=true:=by unfold bK at h;rw[ġ]at h;exact⟨h.1,ō.mp h.2⟩
theorem j0(h:Ó S H v d)(e:bB d=true):∃i,v=.int i/\d=.int i:=by cases h with|int i=>exact⟨i,rfl,rfl⟩;|_=>cases e
theorem mH{α:Type}{l:List α}(h:l.length=n+1):∃a t,l=a::t/\t.length=n:=by cases l with|nil=>cases h;|cons a t=>exact⟨a,t,rfl,Nat.succ.inj h⟩
theorem Oi{α:Type}{l:List α}(h:l.length=5):∃a b c d e,l=[a,b,c,d,e]:=by obtain⟨a,l1,e1,h1⟩:=mH h;obtain⟨b,l2,e2,h2⟩:=mH h1;obtain⟨c,l3,e3,h3⟩:=mH h2;obtain⟨d,l4,e4,h4⟩:=mH h3;obtain⟨e,l5,e5,h5⟩:=mH h4;exact⟨a,b,c,d,e,by rw[e1,e2,e3,e4,e5,Zbj.mp h5]⟩
theorem M7{α:Type}{l:List α}(h:l.length=6):∃a b c d e f,l=[a,b,c,d,e,f]:=by obtain⟨a,l1,e1,h1⟩:=mH h;obtain⟨b,c,d,e,f,e2⟩:=Oi h1;exact⟨a,b,c,d,e,f,by rw[e1,e2]⟩
theorem j4(r:Ä S H xs (d::ds))(e:bB d=true):∃i t,xs=.int i::t/\d=.int i/\Ä S H t ds:=by cases r with|cons h1 r=>obtain⟨i,rfl,rfl⟩:=j0 h1 e;exact⟨i,_,rfl,rfl,r⟩
theorem qF(r:Ä S H xs (d::ds)):∃v t,xs=v::t/\Ó S H v d/\Ä S H t ds:=by cases r with|cons h1 r=>exact⟨_,_,rfl,h1,r⟩
theorem tM(r:Ä S H xs ds)(hl:ds.length=3):∃v0 v1 v2 d0 d1 d2,xs=[v0,v1,v2]/\ds=[d0,d1,d2]/\Ó S H v0 d0/\Ó S H v1 d1/\Ó S H v2 d2:=by
 obtain⟨d0,l1,e1,h1⟩:=mH hl;obtain⟨d1,l2,e2,h2⟩:=mH h1;obtain⟨d2,l3,e3,h3⟩:=mH h2;have e:ds=[d0,d1,d2]:=by rw[e1,e2,e3,Zbj.mp h3]
 subst e;obtain⟨v0,t0,f0,i0,r0⟩:=qF r;obtain⟨v1,t1,f1,i1,r1⟩:=qF r0;obtain⟨v2,t2,f2,i2,r2⟩:=qF r1;cases r2;exact⟨v0,v1,v2,d0,d1,d2,by rw[f0,f1,f2],rfl,i0,i1,i2⟩
theorem xj(r:Ä S H xs ds)(hl:ds.length=6)(hw:∀x∈ds,bB x=true):∃i1 i2 i3 i4 i5 i6,xs=[.int i1,.int i2,.int i3,.int i4,.int i5,.int i6]/\ds=[.int i1,.int i2,.int i3,.int i4,.int i5,.int i6]:=by obtain⟨d1,d2,d3,d4,d5,d6,rfl⟩:=M7 hl;obtain⟨i1,t1,e1,rfl,r1⟩:=j4 r (hw _ Ù);obtain⟨i2,t2,e2,rfl,r2⟩:=j4 r1 (hw _ Ù);obtain⟨i3,t3,e3,rfl,r3⟩:=j4 r2 (hw _ Ù);obtain⟨i4,t4,e4,rfl,r4⟩:=j4 r3 (hw _ Ù);obtain⟨i5,t5,e5,rfl,r5⟩:=j4 r4 (hw _ Ù);obtain⟨i6,t6,e6,rfl,r6⟩:=j4 r5 (hw _ Ù);cases r6;exact⟨i1,i2,i3,i4,i5,i6,by rw[e1,e2,e3,e4,e5,e6],rfl⟩
theorem Ds(h:bM (.tuple ds) n m=true):n<=(ds.length:Int)/\(ds.length:Int)<=m:=by have h:(true&&(decide (n<=(ds.length:Int))&&decide ((ds.length:Int)<=m)))=true:=h;rw[Zba,ġ]at h;exact⟨ŭ h.1,ŭ h.2⟩
def å(P:Program)(w:World)(K:Frag)(mg:TX)(base:Heap)(k:Nat)(x:Str)(ps:ó)(sp:Sp):Prop:=∃f fd,Ñ P w K mg base ä k f fd ps sp/\mg x=some (.ref f)/\PySem.W.keepIn K (.ref f)=true/\ø K fd ps []
theorem aH{p pos:Pos}(c:å X.prog X.w X.K X.mg X.base j x ps sp)(hr:ì k X.A)(ha:PA X (e::es) t)(hjk:j<=k:=by decide)(hg:Gl X x:=by exact rfl)(fk:ź x:=by decide)(he:Qa8 X e es:=by rfl)(ff:Qa9 X pos es:=by rfl):PE X (.Call (.Name x p) (e::es) [] pos) (vO sp [] E0 t):=by obtain⟨f,fd,F,hm,hk,hb⟩:=c;exact zQ F (hr.mono hjk) hg hm hk hb .nil Nv ha fk he ff
theorem sc1:Ã ["thing"] ["thing"] (aD (top 20)):=ö
theorem xm(F:ã K "is_whole" "is_whole" (top 20) f fd)(T:Mg mg):Ñ P w K mg base ä 1 f fd ["thing"] (Ĕ bB):=by refine F.oq sc1 λai A outer s H vs Q E hr h=>?_;obtain⟨S,v,d,rfl,th,hz,q⟩:=h;refine⟨_,aF (aQ (cO (aG bZ rfl T.isinstance É (aK (pv 0) (aK (dM rfl T.int Ō (v:=.ty "int") rfl) ao))) (fD (Ef (aG bZ rfl T.isinstance É (aK (pv 0) (aK (dM rfl T.bool Š (v:=.ty "bool") rfl) ao))))))),?_⟩;refine⟨_,rfl,v,_,"int",nH d,rfl,th.ty,zZ d,_,rfl,?_⟩;have fin:=q H (À.refl H);unfold bB at fin;cases e:nH d with|false=>rw[e]at fin;exact bA fin;|true=>rw[e]at fin;exact bx ⟨_,rfl,v,_,"bool",lV d,rfl,th.ty,wk d,_,rfl,fin⟩
theorem sc2:Ã ["thing","fewest","most"] ["thing","fewest","most"] (aD (top 22)):=ö
theorem qG(F:ã K "is_tuple_of" "is_tuple_of" (top 22) f fd)(T:Mg mg):Ñ P w K mg base ä 1 f fd ["thing","fewest","most"] (jX bM):=by refine F.oq sc2 λai A outer s H vs Q E hr h=>?_;obtain⟨S,v,d,n,m,rfl,th,hz,q⟩:=h;refine⟨_,aF (aQ (cO (aG bZ rfl T.isinstance É (aK (pv 0) (aK (dM rfl T.tuple Ò (v:=.ty "tuple") rfl) ao))) (fD (dH bY bY (pv 1) (aG aX rfl T.len PySem.boot_len (aK (pv 0) ao)) (pv 2))))),?_⟩;refine⟨_,rfl,v,_,"tuple",cD d,rfl,th.ty,gw d,_,rfl,?_⟩;have fin:=q H (À.refl H);unfold bM at fin;cases e:cD d with|false=>rw[e]at fin;exact bA fin;|true=>rw[e]at fin;refine bx ?_;cases th with
 |@tup a xs ds ea r=>have hl:=r.length;refine⟨_,rfl,_,rfl,a,xs,rfl,.inr (Î.of ea),_,_,rfl,rfl,_,rfl,?_⟩;rw[hl];have fin:Q (.bl (true&&(decide (n<=(ds.length:Int))&&decide ((ds.length:Int)<=m)))) H:=fin;cases e1:decide (n<=(ds.length:Int))with|false=>rw[e1]at fin;exact bA fin;|true=>rw[e1]at fin;exact bx ⟨_,rfl,_,_,rfl,rfl,fin⟩
  |_=>cases e
theorem sc3:Ã ["thing","many"] ["thing","many"] (aD (top 23)):=ö
theorem rN(F:ã K "are_wholes" "are_wholes" (top 23) f fd)(T:Mg mg)(c1:å P w K mg base 1 "is_whole" ["thing"] (Ĕ bB))(c2:å P w K mg base 1 "is_tuple_of" ["thing","fewest","most"] (jX bM)):Ñ P w K mg base ä 2 f fd ["thing","many"] (Jo bK):=by
 refine F.oq sc3 λai A outer s H vs Q E hr h=>?_;obtain⟨S,v,d,n,rfl,th,hz,q⟩:=h;refine⟨_,aF (aQ (cO (aH c2 hr (aK (pv 0) (aK (pv 1) (aK (pv 1) ao)))) (fD (aG (dh rfl) rfl T.all æ (aK (bD ["part"] [none] rfl (dI (pv 0)) (λC fp Á s₂ Õ=>⟨bJ (i:=0) (ϧ _) rfl (Or.inl rfl),bG,aH c1 hr (aK (pv 0) ao)⟩) (λC=>trivial) ⟨rfl,rfl,rfl,rfl⟩) ao))))),?_⟩;refine⟨_,rfl,_,rfl,_,rfl,S,v,d,n,n,rfl,th,hz,λH1 s1=>⟨_,rfl,?_⟩⟩;have fh:=th.same s1
 cases e:bM d n n with|false=>refine bA ?_;have fin:=q H1 s1;unfold bK at fin;rw[e]at fin;exact fin;|true=>refine bx ?_;cases fh with|@tup a xs ds ea r=>
   have ew:bK (.tuple ds) n=ds.all bB:=by unfold bK;rw[e];rfl
   refine cH bB rfl ea r (dC r hz) (λv d H2 Q2 hm s2 t2 q2=>⟨_,rfl,S,v,d,rfl,t2,gj hm hz,q2⟩) λH2 s2=>?_;rw[<-ew];exact q _ (s1.trans s2);|_=>cases e
theorem Z07:Ã ["thing"] ["thing"] (aD (top 34)):=ö
theorem yU(F:ã K "is_clip" "is_clip" (top 34) f fd)(T:Mg mg)(N:Nums mg)(c1:å P w K mg base 2 "are_wholes" ["thing","many"] (Jo bK)):Ñ P w K mg base ä 3 f fd ["thing"] (Ĕ kI):=by refine F.oq Z07 λai A outer s H vs Q E hr h=>?_;obtain⟨S,v,d,rfl,th,hz,q⟩:=h;obtain⟨t3,e3⟩:=N.sorts;obtain⟨t9,e9⟩:=N.wool;refine⟨_,aF (aQ (cO (aH c1 hr (aK (pv 0) (aK (cg (v:=.int 3) rfl e3 ⟨_,rfl⟩) ao))) (fD (aG (dh rfl) rfl T.all æ (aK (bD ["sacks"] [none] rfl (dI (pv 0)) (λC fp Á s₂ Õ=>⟨bJ (i:=0) (ϧ _) rfl (Or.inl rfl),bG,dH bY bY az (pv 0) (cg (v:=.int 999) rfl e9 ⟨_,rfl⟩)⟩) (λC=>trivial) ⟨rfl,rfl,rfl,rfl⟩) ao))))),?_⟩;refine⟨_,rfl,S,v,d,3,rfl,th,hz,λH1 s1=>⟨_,rfl,?_⟩⟩;have fh:=th.same s1;have fin:=λH'(s:À H H')=>q H' s;unfold kI at fin;cases e:bK d 3 with|false=>rw[e]at fin;exact bA (fin _ s1);|true=>rw[e]at fin;refine bx ?_;obtain⟨e1,e2⟩:=nQ e;cases fh with
 |@tup a xs ds ea r=>refine cH (λx=>decide (0<=í x)&&decide (í x<=999)) rfl ea r (dC r hz) (λv d H2 Q2 hm s2 t2 q2=>?_) λH2 s2=>fin _ (s1.trans s2);obtain⟨i,rfl,rfl⟩:=j0 t2 (e2 d hm);refine⟨_,rfl,_,_,rfl,rfl,_,rfl,?_⟩;have q3:=q2 H2 (À.refl _);show if decide ((0:Int)<=i)=true then _ else _;cases e5:decide ((0:Int)<=i)with|false=>refine bA ?_;have q3:Q2 (.bl (decide ((0:Int)<=i)&&decide (i<=999))) H2:=q3;rw[e5]at q3;exact q3;|true=>refine bx ⟨_,_,rfl,rfl,?_⟩;have q3:Q2 (.bl (decide ((0:Int)<=i)&&decide (i<=999))) H2:=q3;rw[e5]at q3;exact q3
  |_=>cases e1
theorem Γ:Ã ["thing"] ["thing"] (aD (top 35)):=ö
theorem uU(F:ã K "are_clips" "are_clips" (top 35) f fd)(T:Mg mg)(N:Nums mg)(c1:å P w K mg base 3 "is_clip" ["thing"] (Ĕ kI))(c2:å P w K mg base 1 "is_tuple_of" ["thing","fewest","most"] (jX bM)):Ñ P w K mg base ä 4 f fd ["thing"] (Ĕ iR):=by refine F.oq Γ λai A outer s H vs Q E hr h=>?_;obtain⟨S,v,d,rfl,th,hz,q⟩:=h;obtain⟨t3,e3⟩:=N.clips;refine⟨_,aF (aQ (cO (aH c2 hr (aK (pv 0) (aK az (aK (cg (v:=.int 20) rfl e3 ⟨_,rfl⟩) ao)))) (fD (aG (dh rfl) rfl T.all æ (aK (bD ["part"] [none] rfl (dI (pv 0)) (λC fp Á s₂ Õ=>⟨bJ (i:=0) (ϧ _) rfl (Or.inl rfl),bG,aH c1 hr (aK (pv 0) ao)⟩) (λC=>trivial) ⟨rfl,rfl,rfl,rfl⟩) ao))))),?_⟩;refine⟨_,rfl,S,v,d,1,20,rfl,th,hz,λH1 s1=>⟨_,rfl,?_⟩⟩;have fh:=th.same s1;have fin:=λH'(s:À H H')=>q H' s;unfold iR at fin;cases e:bM d 1 20 with|false=>rw[e]at fin;exact bA (fin _ s1);|true=>rw[e]at fin;refine bx ?_;cases fh with|@tup a xs ds ea r=>exact cH kI rfl ea r (dC r hz) (λv d H2 Q2 hm s2 t2 q2=>⟨_,rfl,S,v,d,rfl,t2,gj hm hz,q2⟩) λH2 s2=>fin _ (s1.trans s2);|_=>cases e
theorem Ű:Ã ["thing","holder","sort","first","last","sacks","price"] ["thing"] (aD (top 36)):=ö
theorem rO(F:ã K "is_promise" "is_promise" (top 36) f fd)(T:Mg mg)(N:Nums mg)(c1:å P w K mg base 2 "are_wholes" ["thing","many"] (Jo bK)):Ñ P w K mg base ä 3 f fd ["thing"] (Ĕ iZ):=by
 refine F.oq Ű λai A outer s H vs Q E hr h=>?_;obtain⟨S,v,d,rfl,th,hz,q⟩:=h;obtain⟨t1,e1⟩:=N.holders;obtain⟨t2,e2⟩:=N.sorts;obtain⟨t3,e3⟩:=N.year;obtain⟨t4,e4⟩:=N.sacks;obtain⟨t5,e5⟩:=N.price;refine⟨_,aC (bU (bH (cA (aH c1 hr (aK (pv 0) (aK az ao))))) (aF (aQ gD)) bj) (aC (d7 (pv 0) (cj rfl (aA (Ö 1 Ű.nd) (aA (Ö 2 Ű.nd) (aA (Ö 3 Ű.nd) (aA (Ö 4 Ű.nd) (aA (Ö 5 Ű.nd) (aA (Ö 6 Ű.nd) aY)))))))) (aF (aQ (cO (dH bY lO az (pv 1) (cg (v:=.int 8) rfl e1 ⟨_,rfl⟩)) (cO (dH bY lO az (pv 2) (cg (v:=.int 3) rfl e2 ⟨_,rfl⟩)) (cO (Cz bY bY bY az (pv 3) (pv 4) (cg (v:=.int 19) rfl e3 ⟨_,rfl⟩)) (cO (dH bY bY az (pv 5) (cg (v:=.int 99) rfl e4 ⟨_,rfl⟩)) (fD (dH bY bY az (pv 6) (cg (v:=.int 1000000) rfl e5 ⟨_,rfl⟩)))))))))),?_⟩
 refine⟨_,rfl,S,v,d,6,rfl,th,hz,λH1 s1=>⟨_,rfl,?_⟩⟩;have fh:=th.same s1;have fin:=λH'(s:À H H')=>q H' s;unfold iZ at fin;cases e:bK d 6 with|false=>rw[e]at fin;exact bx (fin _ s1);|true=>rw[e]at fin;refine bA ?_;obtain⟨z1,z2⟩:=nQ e;cases fh with|@tup a xs ds ea r=>
   have hl:ds.length=6:=by have:=Ds z1;lia
   obtain⟨i1,i2,i3,i4,i5,i6,rfl,rfl⟩:=xj r hl z2;refine⟨_,rfl,a,_,rfl,Î.of ea,rfl,_,_,rfl,_,_,rfl,_,_,rfl,_,_,rfl,_,_,rfl,_,_,rfl,rfl,?_⟩;refine jh (cC fO (dZ rfl) fO) (λ_=>jh (cC fO (dZ rfl) fO) λ_=>jh (CG fO (dZ rfl) (dZ rfl) fO) λ_=>jh (cC fO (dZ rfl) fO) λ_=>cC fO (dZ rfl) fO) _ ?_;exact fin H1 s1;|_=>cases z1
theorem Qf:Ã ["thing"] ["thing"] (aD (top 37)):=ö
theorem oM(F:ã K "are_promises" "are_promises" (top 37) f fd)(T:Mg mg)(N:Nums mg)(c1:å P w K mg base 3 "is_promise" ["thing"] (Ĕ iZ))(c2:å P w K mg base 1 "is_tuple_of" ["thing","fewest","most"] (jX bM)):Ñ P w K mg base ä 4 f fd ["thing"] (Ĕ fW):=by refine F.oq Qf λai A outer s H vs Q E hr h=>?_;obtain⟨S,v,d,rfl,th,hz,q⟩:=h;obtain⟨t3,e3⟩:=N.proms;refine⟨_,aF (aQ (cO (aH c2 hr (aK (pv 0) (aK az (aK (cg (v:=.int 10) rfl e3 ⟨_,rfl⟩) ao)))) (fD (aG (dh rfl) rfl T.all æ (aK (bD ["part"] [none] rfl (dI (pv 0)) (λC fp Á s₂ Õ=>⟨bJ (i:=0) (ϧ _) rfl (Or.inl rfl),bG,aH c1 hr (aK (pv 0) ao)⟩) (λC=>trivial) ⟨rfl,rfl,rfl,rfl⟩) ao))))),?_⟩;refine⟨_,rfl,S,v,d,0,10,rfl,th,hz,λH1 s1=>⟨_,rfl,?_⟩⟩;have fh:=th.same s1;have fin:=λH'(s:À H H')=>q H' s;unfold fW at fin;cases e:bM d 0 10 with|false=>rw[e]at fin;exact bA (fin _ s1);|true=>rw[e]at fin;refine bx ?_;cases fh with|@tup a xs ds ea r=>exact cH iZ rfl ea r (dC r hz) (λv d H2 Q2 hm s2 t2 q2=>⟨_,rfl,S,v,d,rfl,t2,gj hm hz,q2⟩) λH2 s2=>fin _ (s1.trans s2);|_=>cases e
def gh(d:PyData)(lo hi:Int):Bool:=bB d&&(decide (lo<=í d)&&decide (í d<=hi))
def iT(d:PyData):Bool:=cD d&&(decide ((items d).length=3)&&(items d).all λx=>gh x 0 999)
def iD(d:PyData):Bool:=cD d&&((decide (1<=(items d).length)&&decide ((items d).length<=20))&&(items d).all iT)
def bounds:ģ:=[.tuple [.int 0,.int 7],.tuple [.int 0,.int 2],.tuple [.int 0,.int 19],.tuple [.int 0,.int 19],.tuple [.int 1,.int 99],.tuple [.int 0,.int 1000000]]
def uV(d e:PyData):Bool:=gh d (at_ e 0) (at_ e 1)
def iU(d:PyData):Bool:=cD d&&(decide ((items d).length=6)&&((List.zipWith uV (items d) bounds).all id&&decide (at_ d 2<=at_ d 3)))
def iG(d:PyData):Bool:=cD d&&(decide ((items d).length<=10)&&(items d).all iU)
theorem M8(h:Ó S H z (.tuple [.int lo,.int hi])):∃t,z=.ref t/\H t=some (.tup [.int lo,.int hi]):=by cases h with|@tup a xs ds e r=>cases r with|cons h1 r=>cases r with|cons h2 r=>cases r;cases h1;cases h2;exact⟨a,rfl,e⟩
theorem Dt(h:e∈bounds):∃lo hi,e=.tuple [.int lo,.int hi]:=by simp only[bounds,List.mem_cons,List.not_mem_nil,or_false]at h;rcases h with z|z|z|z|z|z<;>exact⟨_,_,z⟩
theorem Qg:Ã [Ā] [Ā] (aD (top 87)):=ö
theorem Du(F:ã K ABa ABa (top 87) f fd)(T:Mg mg):Ñ P w K mg base ä 1 f fd [Ā] (Ĕ bB):=by refine F.oq Qg λai A outer s H vs Q E hr h=>?_;obtain⟨S,v,d,rfl,th,hz,q⟩:=h;refine⟨_,aF (aQ (cO (aG bZ rfl T.isinstance É (aK (pv 0) (aK (dM rfl T.int Ō (v:=.ty "int") rfl) ao))) (fD (Ef (aG bZ rfl T.isinstance É (aK (pv 0) (aK (dM rfl T.bool Š (v:=.ty "bool") rfl) ao))))))),?_⟩;exact jh (b:=nH d) (c:=!lV d) (λQ h=>⟨_,rfl,v,_,"int",nH d,rfl,th.ty,zZ d,h⟩) (λ_ Q h=>⟨_,rfl,v,_,"bool",lV d,rfl,th.ty,wk d,_,rfl,h⟩) _ (q H (À.refl H))
theorem Qh:Ã [Ā,AAw,AAu] [Ā,AAw,AAu] (aD (top 88)):=ö
theorem xn(F:ã K ABb ABb (top 88) f fd)(c1:å P w K mg base 1 ABa [Ā] (Ĕ bB)):Ñ P w K mg base ä 2 f fd [Ā,AAw,AAu] (jX gh):=by refine F.oq Qh λai A outer s H vs Q E hr h=>?_;obtain⟨S,v,d,n,m,rfl,th,hz,q⟩:=h;refine⟨_,aF (aQ (cO (aH c1 hr (aK (pv 0) ao)) (fD (dH bY bY (pv 1) (pv 0) (pv 2))))),?_⟩;refine⟨_,rfl,S,v,d,rfl,th,hz,λH1 s1=>⟨_,rfl,?_⟩⟩;have fin:=q H1 s1;unfold gh at fin;cases e:bB d with|false=>rw[e]at fin;exact bA fin;|true=>rw[e]at fin;obtain⟨i,rfl,rfl⟩:=j0 th e;exact bx (cC (dZ rfl) (dZ rfl) (dZ rfl) _ fin)
theorem Qi:Ã [Ā] [Ā] (aD (top 89)):=ö
theorem xu(F:ã K "_law_is_clip" "_law_is_clip" (top 89) f fd)(T:Mg mg)(c1:å P w K mg base 2 ABb [Ā,AAw,AAu] (jX gh)):Ñ P w K mg base ä 3 f fd [Ā] (Ĕ iT):=by refine F.oq Qi λai A outer s H vs Q E hr h=>?_;obtain⟨S,v,d,rfl,th,hz,q⟩:=h;refine⟨_,aC (bU (PW.pt (gU (bH (cA (aG bZ rfl T.isinstance É (aK (pv 0) (aK (dM rfl T.tuple Ò (v:=.ty "tuple") rfl) ao))))) (gO (aZ rZ (aG aX rfl T.len PySem.boot_len (aK (pv 0) ao)) az (bf _))))) (aF (aQ gD)) bj) (aF (aQ (aG (dh rfl) rfl T.all æ (aK (bD [ř] [none] rfl (dI (pv 0)) (λC fp Á s₂ Õ=>⟨bJ (i:=0) (ϧ _) rfl (Or.inl rfl),bG,aH c1 hr (aK (pv 0) (aK az (aK az ao)))⟩) (λC=>trivial) ⟨rfl,rfl,rfl,rfl⟩) ao)))),?_⟩;have fin:=λH'(s:À H H')=>q H' s;unfold iT at fin;refine⟨_,rfl,v,_,"tuple",cD d,rfl,th.ty,gw d,_,rfl,?_⟩;cases e:cD d with|false=>rw[e]at fin;exact bx (bx (fin H (À.refl H)));|true=>
 rw[e]at fin;refine bA ?_;cases th with|@tup a xs ds ea r=>
   have hl:=r.length;refine⟨_,rfl,a,xs,rfl,.inr (Î.of ea),rfl,_,rfl,?_⟩;have fin:∀H',À H H'->Q (.bl (true&&(decide (ds.length=3)&&ds.all λx=>gh x 0 999))) H':=fin;by_cases e3:ds.length=3;.refine Et (by rw[hl,e3]<;>rfl) ?_;rw[ð e3]at fin;exact cH (λx=>gh x 0 999) rfl ea r (dC r hz) (λv d H2 Q2 hm s2 t2 q2=>⟨_,rfl,S,v,d,0,999,rfl,t2,gj hm hz,q2⟩) fin
   .rw[Ĝ e3]at fin;have ne:¬(V.int (xs.length:Int)=V.int 3):=λz=>by injection z with z;lia
    rw[Ĝ ne];exact bx (fin H (À.refl H));|_=>cases e
theorem Qj:Ã [Ā] [Ā] (aD (top 90)):=ö
theorem rP(F:ã K ABk ABk (top 90) f fd)(T:Mg mg)(c1:å P w K mg base 3 "_law_is_clip" [Ā] (Ĕ iT)):Ñ P w K mg base ä 4 f fd [Ā] (Ĕ iD):=by refine F.oq Qj λai A outer s H vs Q E hr h=>?_;obtain⟨S,v,d,rfl,th,hz,q⟩:=h;refine⟨_,aC (bU (PW.pt (gU (bH (cA (aG bZ rfl T.isinstance É (aK (pv 0) (aK (dM rfl T.tuple Ò (v:=.ty "tuple") rfl) ao))))) (gO (bH (gF bY bY az (aG aX rfl T.len PySem.boot_len (aK (pv 0) ao)) az))))) (aF (aQ gD)) bj) (aF (aQ (aG (dh rfl) rfl T.all æ (aK (bD [ř] [none] rfl (dI (pv 0)) (λC fp Á s₂ Õ=>⟨bJ (i:=0) (ϧ _) rfl (Or.inl rfl),bG,aH c1 hr (aK (pv 0) ao)⟩) (λC=>trivial) ⟨rfl,rfl,rfl,rfl⟩) ao)))),?_⟩;have fin:=λH'(s:À H H')=>q H' s;unfold iD at fin;refine⟨_,rfl,v,_,"tuple",cD d,rfl,th.ty,gw d,_,rfl,?_⟩;cases e:cD d with|false=>rw[e]at fin;exact bx (bx (fin H (À.refl H)));|true=>rw[e]at fin;refine bA ?_;cases th with
 |@tup a xs ds ea r=>
   have hl:=r.length;have fin:∀H',À H H'->Q (.bl (true&&((decide (1<=ds.length)&&decide (ds.length<=20))&&ds.all iT))) H':=fin;refine cC (p:=λi j=>decide (i<=j)) (q:=λi j=>decide (i<=j)) (j:=(xs.length:Int)) fO (λQ h=>⟨_,rfl,a,xs,rfl,.inr (Î.of ea),h⟩) fO _ ⟨_,rfl,?_⟩;have ee:(decide ((1:Int)<=(xs.length:Int))&&decide ((xs.length:Int)<=20))=(decide (1<=ds.length)&&decide (ds.length<=20)):=by
    rw[hl];congr 1;.exact decide_eq_decide.mpr Â
    .exact decide_eq_decide.mpr Â
   rw[ee];cases e2:(decide (1<=ds.length)&&decide (ds.length<=20))with|false=>rw[e2]at fin;exact bx (fin H (À.refl H));|true=>rw[e2]at fin;refine bA ?_;exact cH iT rfl ea r (dC r hz) (λv d H2 Q2 hm s2 t2 q2=>⟨_,rfl,S,v,d,rfl,t2,gj hm hz,q2⟩) fin
  |_=>cases e
theorem sc27:Ã [Ā,"_law_tops"] [Ā] (aD (top 91)):=ö
theorem nd3:([ř,AAw,AAu]:ó).Nodup:=by decide+kernel
theorem qH(F:ã K ABe ABe (top 91) f fd)(T:Mg mg)(Tz:mg "zip"=none)(c1:å P w K mg base 2 ABb [Ā,AAw,AAu] (jX gh)):Ñ P w K mg base ä 3 f fd [Ā] (Ĕ iU):=by refine F.oq sc27 λai A outer s H vs Q E hr h=>?_;obtain⟨S,v,d,rfl,th,hz,q⟩:=h;refine⟨_,jZ (aM ⟨bU (PW.pt (gU (bH (cA (aG bZ rfl T.isinstance É (au (pv 0) (au (dM rfl T.tuple Ò (v:=.ty "tuple") rfl) ao))))) (gO (aZ rZ (aG aX rfl T.len PySem.boot_len (au (pv 0) ao)) az (bf _))))) (aF (aQ gD)) bj⟩ (aM (fV 1 sc27.nd (eF (bh qm (bh qm (bh qm (bh qm (bh qm (bh IW bC)))))))) (aM ⟨bU (bH (cA (aG (dh rfl) rfl T.all æ (au (bD (g:=lN K 2 (cN (bO 0) (cN (lN K 2 (cN (bO 1) (cN (bO 2) mX))) mX))) [ř,AAw,AAu] [none,none,none] rfl (ZT.pi_zip true false rfl Tz (au (pv 0) (au (pv 1) ao))) (λC fp Á s₂ Õ=>⟨fu rfl rfl (aA (Ö 0 nd3) (aA (fu rfl rfl (aA (Ö 1 nd3) (aA (Ö 2 nd3) aY))) aY)),bG,aH c1 hr (au (pv 0) (au (pv 1) (au (pv 2) ao)))⟩) (λC=>trivial) ⟨rfl,rfl,rfl,rfl⟩) ao)))) (aF (aQ gD)) bj⟩ (cF ⟨aQ (gW bY (pX bQ (pv 0) az) (pX bQ (pv 0) az) (bf _))⟩)))),?_⟩;have fin:=λH'(s:À H H')=>q H' s;unfold iU at fin;refine⟨_,rfl,v,_,"tuple",cD d,rfl,th.ty,gw d,_,rfl,?_⟩;cases e:cD d with|false=>rw[e]at fin;exact bx (bx (fin H (À.refl H)));|true=>
 rw[e]at fin;refine bA ?_;cases th with|@tup a xs ds ea r=>
   have hl:=r.length;refine⟨_,rfl,a,xs,rfl,.inr (Î.of ea),rfl,_,rfl,?_⟩;have fin:∀H',À H H'->Q (.bl (true&&(decide (ds.length=6)&&((List.zipWith uV ds bounds).all id&&decide (at_ (.tuple ds) 2<=at_ (.tuple ds) 3))))) H':=fin;by_cases e3:ds.length=6
   .refine Et (by rw[hl,e3]<;>rfl) ?_;rw[ð e3]at fin;have two:∀{i j:Int}{σ:St},Ϥ (λ_=>False) σ H (rm (wA [i,j])) (.tuple [.int i,.int j]):=λ{i j σ}=>jA (J1 [i,j]) (by show 2<=4000;decide);have LV:∀{σ:St},Ϥ (λ_=>False) σ H (rm (fP (tC (.int 0)) (fP (Ÿ (rI El λi j=>.int (i^j.toNat)) (tC (.int 10)) (tC (.int 6))) pN))) (.tuple [.int 0,.int 1000000]):=λ{σ}=>jA (bw jz (bw (Fq (i:=1000000) λH'=>Fi (g:=λi j=>V.int (i^j.toNat)) fO fO ⟨by decide,by decide,by decide⟩) gR)) (by show 2<=4000;decide);refine cZ ?_;dsimp only;refine aP (aW ?_);refine lC ?_;refine bw two (bw two (bw two (bw two (bw two (bw LV gR))))) H (À.refl H) _ λzs H1 s1 t1=>?_;have t1:Ä (λ_=>False) H1 zs bounds:=t1;refine⟨by rw[t1.length];show 6<=sizeLine;decide,λl fe=>?_⟩;have s2:À H (upd H1 l (.lst zs)):=s1.updR fe;have rh:=s2 _ _ ea;refine⟨_,rfl,_,rfl,a,l,xs,zs,rfl,Î.of rh,Ê.of aj,Fv uV (λσ=>Xe3 λx y z=>σ=[x,y,z]) ⟨_,_,_,rfl⟩ rh aj (r.same s2) (t1.same (À.upd fe)) e3 (dC r hz) ?_ λH3 s3 D hD=>⟨D,List.zipWith uV ds bounds,rfl,Ê.of aj,_,rfl,?_⟩⟩;.rintro T x z dx dz σ H3 R hd he⟨y1,y2,y3,rfl⟩s3 eT tx tz hR;obtain⟨lo,hi,rfl⟩:=Dt he;obtain⟨t,rfl,et⟩:=M8 tz;refine⟨T,_,rfl,Î.of eT,rfl,_,_,rfl,_,_,rfl,⟨t,_,rfl,Î.of et,rfl,_,_,rfl,_,_,rfl,rfl,rfl,?_⟩⟩;exact⟨_,rfl,_,rfl,_,rfl,S,x,dx,lo,hi,rfl,tx,gj hd hz,λH4 s4=>hR _ _ ⟨_,_,_,rfl⟩ s4⟩
    .have s4:À H (upd H3 D (.lst ((List.zipWith uV ds bounds).map V.bl))):=(s2.trans s3).updR hD;cases e5:(List.zipWith uV ds bounds).all id with|false=>rw[e5]at fin;exact bx (fin _ s4);|true=>
      rw[e5]at fin;refine bA ?_;have hw:∀x∈ds,bB x=true:=λx hx=>by
       obtain⟨i,hi,rfl⟩:=Zao hx;have hb:i<bounds.length:=by rw[e3]at hi;exact hi
       have:=ō.mp e5 (uV ds[i] bounds[i]) (ŕ (i:=i) (by rw[List.getElem?_zipWith,à hi,à hb]));have this:(bB ds[i]&&_)=true:=this;rw[ġ]at this;exact this.1
      obtain⟨i1,i2,i3,i4,i5,i6,rfl,rfl⟩:=xj r e3 hw;have AW:=s4 _ _ ea;refine⟨_,rfl,a,_,2,.int i3,rfl,rfl,Î.of AW,rfl,_,rfl,a,_,3,.int i4,rfl,rfl,Î.of AW,rfl,_,_,rfl,rfl,fin _ s4⟩
   .rw[Ĝ e3]at fin;have ne:¬(V.int (xs.length:Int)=V.int 6):=λz=>by injection z with z;lia
    rw[Ĝ ne];exact bx (fin H (À.refl H));|_=>cases e
theorem Qk:Ã [Ā] [Ā] (aD (top 92)):=ö
theorem nR(F:ã K AAz AAz (top 92) f fd)(T:Mg mg)(c1:å P w K mg base 3 ABe [Ā] (Ĕ iU)):Ñ P w K mg base ä 4 f fd [Ā] (Ĕ iG):=by refine F.oq Qk λai A outer s H vs Q E hr h=>?_;obtain⟨S,v,d,rfl,th,hz,q⟩:=h;refine⟨_,aC (bU (PW.pt (gU (bH (cA (aG bZ rfl T.isinstance É (au (pv 0) (au (dM rfl T.tuple Ò (v:=.ty "tuple") rfl) ao))))) (gO (aZ jr (aG aX rfl T.len PySem.boot_len (au (pv 0) ao)) az (bf _))))) (aF (aQ gD)) bj) (aF (aQ (aG (dh rfl) rfl T.all æ (au (bD [ř] [none] rfl (dI (pv 0)) (λC fp Á s₂ Õ=>⟨bJ (i:=0) (ϧ _) rfl (Or.inl rfl),bG,aH c1 hr (au (pv 0) ao)⟩) (λC=>trivial) ⟨rfl,rfl,rfl,rfl⟩) ao)))),?_⟩;have fin:=λH'(s:À H H')=>q H' s;unfold iG at fin;refine⟨_,rfl,v,_,"tuple",cD d,rfl,th.ty,gw d,_,rfl,?_⟩;cases e:cD d with
 |false=>rw[e]at fin;exact bx (bx (fin H (À.refl H)))
 |true=>rw[e]at fin;refine bA ?_;cases th with|@tup a xs ds ea r=>
   have hl:=r.length;refine⟨_,rfl,a,xs,rfl,.inr (Î.of ea),_,_,rfl,rfl,_,rfl,?_⟩;have fin:∀H',À H H'->Q (.bl (true&&(decide (ds.length<=10)&&ds.all iU))) H':=fin;by_cases e3:ds.length<=10;.rw[ð e3]at fin;rw[Ĝ Â];refine bA ?_;exact cH iU rfl ea r (dC r hz) (λv d H2 Q2 hm s2 t2 q2=>⟨_,rfl,S,v,d,rfl,t2,gj hm hz,q2⟩) fin
   .rw[Ĝ e3]at fin;rw[ð Â];exact bx (fin H (À.refl H));|_=>cases e
theorem Aw{α:Type}(p q:α->Bool):∀l:List α,(l.all λx=>p x&&q x)=(l.all p&&l.all q)|[]=>rfl|x::l=>by rw[List.all_cons,List.all_cons,List.all_cons,Aw p q l];cases p x<;>cases q x<;>cases l.all p<;>cases l.all q<;>rfl
theorem oR(d:PyData):kI d=iT d:=by
 cases d with|tuple ds=>
  have e1:kI (.tuple ds)=((((decide ((3:Int)<=(ds.length:Int))&&decide ((ds.length:Int)<=3)))&&ds.all bB)&&ds.all λx=>decide (0<=í x)&&decide (í x<=999)):=rfl;have e2:iT (.tuple ds)=(decide (ds.length=3)&&ds.all λx=>bB x&&(decide (0<=í x)&&decide (í x<=999))):=rfl;rw[e1,e2,Aw bB];have e3:(decide ((3:Int)<=(ds.length:Int))&&decide ((ds.length:Int)<=3))=decide (ds.length=3):=by rw[<-Bool.decide_and];exact decide_eq_decide.mpr z03
  rw[e3,Bool.and_assoc];|_=>rfl
theorem Gd(d:PyData):iR d=iD d:=by
 cases d with|tuple ds=>
  have e1:iR (.tuple ds)=((decide ((1:Int)<=(ds.length:Int))&&decide ((ds.length:Int)<=20))&&ds.all kI):=rfl;have e2:iD (.tuple ds)=((decide (1<=ds.length)&&decide (ds.length<=20))&&ds.all iT):=rfl;rw[e1,e2];have e3:(decide ((1:Int)<=(ds.length:Int))&&decide ((ds.length:Int)<=20))=(decide (1<=ds.length)&&decide (ds.length<=20)):=by rw[<-Bool.decide_and,<-Bool.decide_and];exact decide_eq_decide.mpr z03
  rw[e3,show kI=iT from funext oR];|_=>rfl
theorem fM(d:PyData):(∃i,d=.int i)\/bB d=false:=by cases d with|int i=>exact .inl ⟨i,rfl⟩;|_=>exact .inr rfl
theorem Jp(d:PyData):iZ d=iU d:=by cases d with|tuple ds=>
  have e1:iZ (.tuple ds)=(((decide ((6:Int)<=(ds.length:Int))&&decide ((ds.length:Int)<=6))&&ds.all bB)&&lE (at_ (.tuple ds) 0) (at_ (.tuple ds) 1) (at_ (.tuple ds) 2) (at_ (.tuple ds) 3) (at_ (.tuple ds) 4) (at_ (.tuple ds) 5)):=rfl;have e2:iU (.tuple ds)=(decide (ds.length=6)&&((List.zipWith uV ds bounds).all id&&decide (at_ (.tuple ds) 2<=at_ (.tuple ds) 3))):=rfl;rw[e1,e2];have e3:(decide ((6:Int)<=(ds.length:Int))&&decide ((ds.length:Int)<=6))=decide (ds.length=6):=by rw[<-Bool.decide_and];exact decide_eq_decide.mpr z03
  rw[e3];by_cases hl:ds.length=6
  .rw[ð hl,Zba,Zba];obtain⟨d1,d2,d3,d4,d5,d6,rfl⟩:=M7 hl;have e4:(List.zipWith uV [d1,d2,d3,d4,d5,d6] bounds).all id=(gh d1 0 7&&(gh d2 0 2&&(gh d3 0 19&&(gh d4 0 19&&(gh d5 1 99&&(gh d6 0 1000000&&true)))))):=rfl;have e5:[d1,d2,d3,d4,d5,d6].all bB=(bB d1&&(bB d2&&(bB d3&&(bB d4&&(bB d5&&(bB d6&&true)))))):=rfl;rw[e4,e5];unfold gh;rcases fM d1 with⟨i1,rfl⟩|z
   .rcases fM d2 with⟨i2,rfl⟩|z
    .rcases fM d3 with⟨i3,rfl⟩|z
     .rcases fM d4 with⟨i4,rfl⟩|z
      .rcases fM d5 with⟨i5,rfl⟩|z
       .rcases fM d6 with⟨i6,rfl⟩|z;.show(true&&lE i1 i2 i3 i4 i5 i6)=((true&&(decide (0<=i1)&&decide (i1<=7)))&&((true&&(decide (0<=i2)&&decide (i2<=2)))&&((true&&(decide (0<=i3)&&decide (i3<=19)))&&((true&&(decide (0<=i4)&&decide (i4<=19)))&&((true&&(decide (1<=i5)&&decide (i5<=99)))&&((true&&(decide (0<=i6)&&decide (i6<=1000000)))&&true)))))&&decide (i3<=i4));unfold lE;simp only[Bool.true_and,Bool.and_true];apply Zas.mpr;simp only[Bool.and_eq_true,Ć];omega
        .rw[z];simp
       .rw[z];simp
      .rw[z];simp
     .rw[z];simp
    .rw[z];simp
   .rw[z];simp
  .rw[Ĝ hl,Bool.false_and,Bool.false_and,Bool.false_and];|_=>rfl
theorem xx(d:PyData):fW d=iG d:=by
 cases d with|tuple ds=>
  have e1:fW (.tuple ds)=((decide ((0:Int)<=(ds.length:Int))&&decide ((ds.length:Int)<=10))&&ds.all iZ):=rfl;have e2:iG (.tuple ds)=(decide (ds.length<=10)&&ds.all iU):=rfl;rw[e1,e2];have e3:(decide ((0:Int)<=(ds.length:Int))&&decide ((ds.length:Int)<=10))=decide (ds.length<=10):=by rw[<-Bool.decide_and];exact decide_eq_decide.mpr z03
  rw[e3,show iZ=iU from funext Jp];|_=>rfl
def iy(H:Hp)(st:Addr):Prop:=∃a b,H st=some (.lst [.int a,.int b])/\0<=a/\0<=b/\b<4294967296
def Ż(st:Addr)(H H':Hp):Prop:=∀b o,H b=some o->b≠st->H' b=some o
inductive ϖ(K:Frag)(vs:List V)(H:Hp)(Q:VK):Prop|mk:∀a(ns:WF)k,(vs=[.ref a,.int k])->(Ê K H a (ns.map V.int))->(0<=k)->(∀i,Q (.int i) H)->ϖ K vs H Q
def Ge(K:Frag):Sp:=λvs H Q _=>ϖ K vs H Q
inductive Ζ(K:Frag)(vs:List V)(H:Hp)(Q:VK):Prop|mk:∀a(ns:WF)k,(vs=[.ref a,.int k])->(Ê K H a (ns.map V.int))->(0<=k)->(∀p x y,H p=none->0<=x->0<=y->y<4294967296->Q (.ref p) (upd H p (.lst [.int x,.int y])))->Ζ K vs H Q
def Ax(K:Frag):Sp:=λvs H Q _=>Ζ K vs H Q
inductive ϋ(vs:List V)(H:Hp)(Q:VK):Prop|mk:∀st n,(vs=[.ref st,.int n])->(iy H st)->(1<=n)->(n<1073741824)->(∀r a' b',0<=r->r<n->0<=a'->0<=b'->b'<4294967296->Q (.int r) (upd H st (.lst [.int a',.int b'])))->ϋ  vs H Q
def jB:Sp:=λvs H Q _=>ϋ  vs H Q
theorem Ql:Ã [ż,AAv] [ż,AAv] (aD (top 70)):=ö
theorem Jq(F:ã K "_law_cell_at" "_law_cell_at" (top 70) f fd)(T:Mg mg):Ñ P w K mg base ä 1 f fd [ż,AAv] (Ge K):=by
 refine F.oq Ql λai A outer s H vs Q E hr h=>?_;obtain⟨a,ns,k,rfl,hS,h0,q⟩:=h;refine⟨_,aC (bU (aZ lO (pv 1) (aG aX rfl T.len PySem.boot_len (aK (pv 0) ao)) (bf _)) (aF (aQ (pX bT (pv 0) (pv 1)))) bj) (aF (aQ az)),?_⟩;refine⟨_,rfl,_,rfl,a,_,rfl,.inl hS,_,_,rfl,rfl,_,rfl,?_⟩;refine jW (λc=>?_) (λ_=>q 0);have c:=ŭ c;rw[Ø]at c;have hk:k.toNat<ns.length:=Â;refine⟨_,rfl,_,rfl,a,_,k,.int ns[k.toNat],rfl,rfl,hS,?_,q _⟩;have e:(ns.map V.int)[k.toNat]?=some (.int ns[k.toNat]):=by rw[ċ,à hk];rfl
 have:=fj e;rw[show((k.toNat:Nat):Int)=k by lia]at this;exact this
theorem Z06:Ã [ż,AAv,"_law_cell"] [ż,AAv] (aD (top 71)):=ö
theorem Gf(F:ã K "_law_state" "_law_state" (top 71) f fd)(c1:å P w K mg base 1 "_law_cell_at" [ż,AAv] (Ge K)):Ñ P w K mg base ä 2 f fd [ż,AAv] (Ax K):=by
 refine F.oq Z06 λai A outer s H vs Q E hr h=>?_;obtain⟨a,ns,k,rfl,hS,h0,q⟩:=h;refine⟨_,aC (ĕ 2 Z06.nd (aH c1 hr (aK (pv 0) (aK (pv 1) ao)))) (aC (bU (aZ vN (pv 2) (aV nu az az) (bf _)) (aF (aQ (cX (au (aV dG (pv 2) (aV nu az az)) (au (aV cu (aV iJ (pv 2) az) az) ao))))) bj) (aF (aQ (cX (au az (au (aV cu (aV iJ (pv 2) az) az) ao)))))),?_⟩;refine⟨_,rfl,_,rfl,a,ns,k,rfl,hS,h0,λc=>?_⟩;refine⟨_,rfl,_,_,rfl,rfl,⟨by decide,by decide,by decide⟩,_,_,rfl,rfl,_,rfl,?_⟩;refine jW (λhc=>?_) (λ_=>?_)
 .have hc:=ŭ hc;refine⟨_,rfl,_,_,rfl,rfl,⟨by decide,by decide,by decide⟩,_,_,rfl,rfl,_,rfl,_,_,rfl,rfl,(by show(0:Int)<2147483629;decide),_,_,rfl,rfl,zL,λp hp=>?_⟩;refine q p _ _ hp ?_ ?_ ?_;.show 0<=c-(10:Int)^18;have hc:(10:Int)^18<=c:=hc;lia
  .show 0<=c%2147483629+1;lia
  .show c%2147483629+1<4294967296;lia
 .refine⟨_,rfl,_,_,rfl,rfl,(by show(0:Int)<2147483647;decide),_,_,rfl,rfl,zL,λp hp=>?_⟩;refine q p _ _ hp (ϵ 0) ?_ ?_;.show 0<=c%2147483647+1;lia
  .show c%2147483647+1<4294967296;lia
theorem Z05:Ã [ĉ,AAn,ϝ,"_law_stirred"] [ĉ,AAn] (aD (top 72)):=ö
theorem Jr(F:ã K AAq AAq (top 72) f fd):Ñ P w K mg base ä 1 f fd [ĉ,AAn] jB:=by
 refine F.oq Z05 λai A outer s H vs Q E hr h=>?_;obtain⟨st,n,rfl,⟨a,b,es,ha,hb,iE⟩,h1,h2,q⟩:=h;refine⟨_,aC (bU (aZ jr (pX bT (pv 0) az) az (bf _)) (aC (ĕ 2 Z05.nd (aV iJ (pX bT (pv 0) az) (pv 1))) (aC (d7 (aV jN (pX bT (pv 0) az) (pv 1)) (mY (pv 0) az ă)) (aF (aQ (pv 2))))) bj) (aC (d7 (aV iJ (aV cu (aV gP (pX bT (pv 0) az) az) az) az) (mY (pv 0) az ă)) (aC (ĕ 3 Z05.nd (aV iJ (aV cu (aV cu (aV gP (pX bT (pv 0) az) (pX bT (pv 0) az)) (aV gP az (pX bT (pv 0) az))) az) az)) (aC (ĕ 3 Z05.nd (aV iJ (aV cu (aV cu (aV gP (pv 3) (pv 3)) (aV gP az (pv 3))) az) az)) (aF (aQ (aV iJ (aV jN (pv 3) az) (pv 1))))))),?_⟩;refine⟨_,rfl,st,_,0,.int a,rfl,rfl,Ê.of es,rfl,_,_,rfl,rfl,_,rfl,?_⟩;refine jW (λhc=>?_) (λ_=>?_);.refine⟨_,rfl,st,_,0,.int a,rfl,rfl,Ê.of es,rfl,_,rfl,_,_,rfl,rfl,(by show 0<n;lia),?_⟩;refine⟨_,rfl,st,_,0,.int a,rfl,rfl,Ê.of es,rfl,_,rfl,_,_,rfl,rfl,⟨Â,h2⟩,_,rfl,st,_,0,0,rfl,rfl,es,rfl,_,rfl,?_⟩;exact q (a%n) (a/n) b (Zbi a Â) (Za5 a Â) (Int.ediv_nonneg ha Â) hb iE
 .refine⟨_,rfl,st,_,1,.int b,rfl,rfl,Ê.of es,rfl,_,_,rfl,rfl,.inl ⟨Â,Â⟩,_,_,rfl,rfl,_,_,rfl,rfl,(by show(0:Int)<2147483647;decide),_,rfl,st,_,1,1,rfl,rfl,es,rfl,?_⟩;have Pm:0<=(b*48271+29)%2147483647:=Zbi _ Û;have UX:(b*48271+29)%2147483647<2147483647:=Za5 _ Û;obtain⟨m,hm⟩:∃m,m=(b*48271+29)%2147483647:=⟨_,rfl⟩;rw[<-hm]at Pm UX;have eL:([V.int a,V.int b].set 1 ((λi j:Int=>V.int (i%j)) (b*48271+29) 2147483647))=[V.int a,V.int m]:=by rw[hm];rfl
  rw[eL];have gN:upd H st (.lst [.int a,.int m]) st=some (.lst [.int a,.int m]):=aj;refine⟨_,rfl,st,_,1,.int m,rfl,rfl,Ê.of gN,rfl,_,rfl,st,_,1,.int m,rfl,rfl,Ê.of gN,rfl,_,_,rfl,rfl,.inl ⟨Â,Â⟩,_,rfl,st,_,1,.int m,rfl,rfl,Ê.of gN,rfl,_,_,rfl,rfl,.inl ⟨by decide,by decide⟩,_,_,rfl,rfl,_,_,rfl,rfl,_,_,rfl,rfl,(by show(0:Int)<2147483629;decide),?_⟩;have LW:0<=(m*m+39373*m+7)%2147483629:=Zbi _ Û;have ua:(m*m+39373*m+7)%2147483629<2147483629:=Za5 _ Û;refine⟨_,rfl,_,rfl,_,_,rfl,rfl,.inl ⟨Int.lt_of_lt_of_le Û LW,Int.lt_trans ua Û⟩,_,rfl,_,_,rfl,rfl,.inl ⟨by decide,by decide⟩,_,_,rfl,rfl,_,_,rfl,rfl,_,_,rfl,rfl,(by show(0:Int)<2147483587;decide),?_⟩;refine⟨_,rfl,_,_,rfl,rfl,⟨by decide,by decide⟩,_,rfl,_,_,rfl,rfl,(by show 0<n;lia),?_⟩;exact q _ a m (Zbi _ Â) (Za5 _ Â) ha Pm Â
theorem jk:bootBuiltins "repr"=some (.builtin "repr"):=by decide+kernel
inductive Ϗ(vs:List V)(H:Hp)(Q:VK):Prop|mk:∀S v u d e,(vs=[v,u])->(¬S sysModules)->(Ó S H v d)->(Ó S H u e)->(Ă d=true)->(Ă e=true)->(sz d<=1000)->(sz e<=1000)->(Q (.bl (decide (V.str d.shown=V.str e.shown))) H)->Ϗ  vs H Q
def Gg:Sp:=λvs H Q _=>Ϗ  vs H Q
theorem pq(hr:ì k A)(hk:60<=k)(h:sz d<=1000):A.units+(sz d+1)<cLine:=by have:=hr.un;lia
theorem Qm:Ã [ϝ,ABm] [ϝ,ABm] (aD (top 98)):=ö
theorem Js(F:ã K "_law_same" "_law_same" (top 98) f fd)(Tr:mg "repr"=none):Ñ P w K mg base ä 61 f fd [ϝ,ABm] Gg:=by refine F.oq Qm λai A outer s H vs Q E hr h=>?_;obtain⟨S,v,u,d,e,rfl,hS,t1,t2,m1,m2,z1,z2,q⟩:=h;refine⟨_,aF (aQ (gW ig (aG (jO (S:=S) hr.gd hS) rfl Tr jk (aK (pv 0) ao)) (aG (jO (S:=S) hr.gd hS) rfl Tr jk (aK (pv 1) ao)) (bf _))),?_⟩;exact⟨_,rfl,v,d,rfl,t1,m1,Â,pq hr (ß _) z1,_,rfl,u,e,rfl,t2,m2,Â,pq hr (ß _) z2,rfl,q⟩
mutual
def tm(B:Nat):PyData->Bool|.none=>true|.bool _=>true|.int i=>decide (i.natAbs<B)|.str x=>decide (x.length<=10)&&x.cps.toList.all λc=>decide (c<16^8)|.list xs=>ε B xs|.tuple xs=>ε B xs|.dict kvs=>eU B kvs
def ε(B:Nat):ģ->Bool|[]=>true|x::xs=>tm B x&&ε B xs
def eU(B:Nat):List (PyData×PyData)->Bool|[]=>true|(.int i,.int j)::r=>decide (i.natAbs<B)&&decide (j.natAbs<B)&&eU B r|_::_=>false
end
theorem Ay(h:B<=C):∀kvs,eU B kvs=true->eU C kvs=true|[],_=>rfl|(.int i,.int j)::r,e=>by have e:(decide (i.natAbs<B)&&decide (j.natAbs<B)&&eU B r)=true:=e;simp only[Bool.and_eq_true,Ć]at e;show(decide (i.natAbs<C)&&decide (j.natAbs<C)&&eU C r)=true;rw[Ay h r e.2,ð (by lia:i.natAbs<C),ð (by lia:j.natAbs<C)];rfl;|(.none,_)::_,h=>by simp[eU]at h;|(.bool _,_)::_,h=>by simp[eU]at h;|(.str _,_)::_,h=>by simp[eU]at h;|(.list _,_)::_,h=>by simp[eU]at h;|(.tuple _,_)::_,h=>by simp[eU]at h;|(.dict _,_)::_,h=>by simp[eU]at h;|(.int _,.none)::_,h=>by simp[eU]at h;|(.int _,.bool _)::_,h=>by simp[eU]at h;|(.int _,.str _)::_,h=>by simp[eU]at h;|(.int _,.list _)::_,h=>by simp[eU]at h;|(.int _,.tuple _)::_,h=>by simp[eU]at h;|(.int _,.dict _)::_,h=>by simp[eU]at h
mutual
theorem ž(h:B<=C):∀d,tm B d=true->tm C d=true|.none,_=>rfl|.bool _,_=>rfl|.int i,e=>by have e:decide (i.natAbs<B)=true:=e;rw[Ć]at e;exact ð (show i.natAbs<C by lia);|.str _,e=>e|.list xs,e=>uW h xs e|.tuple xs,e=>uW h xs e|.dict kvs,e=>Ay h kvs e
theorem uW(h:B<=C):∀ds,ε B ds=true->ε C ds=true|[],_=>rfl|d::ds,e=>by have e:(tm B d&&ε B ds)=true:=e;rw[ġ]at e;show(tm C d&&ε C ds)=true;rw[ž h d e.1,uW h ds e.2];rfl
end
theorem tO:∀kvs,eU (2^128) kvs=true->ik kvs=true|[],_=>rfl|(.int i,.int j)::r,e=>by have e:(decide (i.natAbs<2^128)&&decide (j.natAbs<2^128)&&eU (2^128) r)=true:=e;rw[ġ]at e;show(decide (i.natAbs<2^128)&&decide (j.natAbs<2^128)&&ik r)=true;rw[e.1,tO r e.2];rfl;|(.none,_)::_,h=>by simp[eU]at h;|(.bool _,_)::_,h=>by simp[eU]at h;|(.str _,_)::_,h=>by simp[eU]at h;|(.list _,_)::_,h=>by simp[eU]at h;|(.tuple _,_)::_,h=>by simp[eU]at h;|(.dict _,_)::_,h=>by simp[eU]at h;|(.int _,.none)::_,h=>by simp[eU]at h;|(.int _,.bool _)::_,h=>by simp[eU]at h;|(.int _,.str _)::_,h=>by simp[eU]at h;|(.int _,.list _)::_,h=>by simp[eU]at h;|(.int _,.tuple _)::_,h=>by simp[eU]at h;|(.int _,.dict _)::_,h=>by simp[eU]at h
mutual
theorem Az:∀d,tm (2^128) d=true->Ă d=true|.none,_=>rfl|.bool _,_=>rfl|.int i,e=>e|.str _,e=>e|.list xs,e=>qI xs e|.tuple xs,e=>qI xs e|.dict kvs,e=>tO kvs e
theorem qI:∀ds,ε (2^128) ds=true->jw ds=true|[],_=>rfl|d::ds,e=>by have e:(tm (2^128) d&&ε (2^128) ds)=true:=e;rw[ġ]at e;show(Ă d&&jw ds)=true;rw[Az d e.1,qI ds e.2];rfl
end
theorem Jt(h:tm B d=true)(hB:B<=2^128):Ă d=true:=Az d (ž hB d h)
theorem ç:∀{ds:ģ},ε B ds=true↔∀d∈ds,tm B d=true|[]=>Iff.intro (λ_ _ h=>absurd h List.not_mem_nil) (λ_=>rfl)|x::ds=>by show(tm B x&&ε B ds)=true↔_;rw[ġ,ç (ds:=ds)];exact⟨λ⟨h1,h2⟩d hd=>(ĩ.mp hd).elim (λe=>e▸h1) (h2 d),λh=>⟨h x Zap,λd hd=>h d (Zak _ hd)⟩⟩
theorem uX:∀ds es,ù (ds++es)=ù ds+ù es|[],es=>by show ù es=0+ù es;lia;|d::ds,es=>by show sz d+ù (ds++es)=sz d+ù ds+ù es;rw[uX ds es];lia
theorem Ba(ds:ģ)(i:Nat)(e:PyData):ù (ds.take i++e::ds.drop i)=ù ds+sz e:=by
 have h:ù (ds.take i++ds.drop i)=ù ds:=by rw[zBe]
 rw[uX]at h⊢;show ù (ds.take i)+(sz e+ù (ds.drop i))=_;lia
theorem uY:∀{ds:ģ}{i:Nat}{d:PyData},ds[i]?=some d->ù (ds.eraseIdx i)+sz d=ù ds
 |x::ds,0,d,h=>by
  have:x=d:=by simpa using h
  subst this;show ù ds+sz x=sz x+ù ds;lia;|x::ds,i+1,d,h=>by have:=uY (ds:=ds) (i:=i) (d:=d) (by simpa using h);show sz x+ù (ds.eraseIdx i)+sz d=sz x+ù ds;lia
theorem Bb:∀{ds:ģ}{i:Nat}{d e:PyData},ds[i]?=some d->ù (ds.set i e)+sz d=ù ds+sz e
 |x::ds,0,d,e,h=>by
  have:x=d:=by simpa using h
  subst this;show sz e+ù ds+sz x=sz x+ù ds+sz e;lia;|x::ds,i+1,d,e,h=>by have:=Bb (ds:=ds) (i:=i) (d:=d) (e:=e) (by simpa using h);show sz x+ù (ds.set i e)+sz d=sz x+ù ds+sz e;lia
def Ju:ģ:=[.none,.bool true,.bool false,.int 0,.int 1,.int (-1),.int (10^29),.str "",.str "a",.str "0/0/0",.tuple [],.list [],.dict [],.tuple [.int 0],.list [.int 0],.tuple [.none],.tuple [.tuple []]]
def Jv:ģ:=[.str "-",.dict [(.int 0,.int 1)],.tuple [.int 0,.int 0,.int 0]]
theorem Gh:∀d∈Ju++Jv,tm (2^100) d=true/\sz d<=6:=by
 have h:((Ju++Jv).all λd=>tm (2^100) d&&decide (sz d<=6))=true:=by decide+kernel
 intro d hd;have:=ō.mp h d hd;rw[ġ,Ć]at this;exact this
def Z09(st:Addr)(H:Hp)(n:Nat)(v:V)(H':Hp):Prop:=∃d,Ż st H H'/\iy H' st/\Ó (λa=>H a=none/\a≠sysModules) H' v d/\tm (2^100) d=true/\sz d<=n
inductive Ϸ(vs:List V)(H:Hp)(Q:VK):Prop|mk:∀st,(vs=[.ref st])->(iy H st)->(∀v H',Z09 st H 6 v H'->Q v H')->Ϸ  vs H Q
def Ko:Sp:=λvs H Q _=>Ϸ  vs H Q
theorem sc29:Ã [ĉ,"_law_some"] [ĉ] (aD (top 96)):=ö
theorem M9(F:ã K "_law_odd" "_law_odd" (top 96) f fd)(c1:å P w K mg base 1 AAq [ĉ,AAn] jB):Ñ P w K mg base ä 2 f fd [ĉ] Ko:=by
 refine F.oq sc29 λai A outer s H vs Q E hr h=>?_;obtain⟨st,rfl,cE,q⟩:=h;refine⟨_,jZ (aM (fV 1 sc29.nd (eF (bh yK (bh oE (bh oE (bh gm (bh gm (bh ql (bh Fj (bh cU (bh cU (bh cU (bh (fG bC) (bh (Ae bC) (bh Fl (bh (fG (bh gm bC)) (bh (Ae (bh gm bC)) (bh (fG (bh yK bC)) (bh (fG (bh (fG bC) bC)) bC))))))))))))))))))) (cF (gQ (qp bT (km jc ⟨pv 1⟩ (eF (bh cU (bh Fo (bh (fG (bh gm (bh gm (bh gm bC)))) bC))))) ⟨aH c1 hr (au (pv 0) (au az ao))⟩ (λ_ _=>rfl))))),?_⟩;have hS:∀H0,À H H0->∀p,H0 p=none->p≠sysModules->(H p=none/\p≠sysModules):=λH0 s0 p hp np=>⟨s0.free hp,np⟩;have z0:∀{n:Nat},n<=3->n<=4000:=λh=>by lia
 refine aP (aW ?_);refine lC ?_;refine(bw Fp (bw Kf (bw Kf (bw jz (bw jz (bw (Fq (i:=-1) λH' Q h=>⟨1,rfl,h⟩) (bw (Fq (i:=10^29) λH'=>Fi (g:=λi j=>V.int (i^j.toNat)) fO fO ⟨by decide,by decide,by decide⟩) (bw uM (bw uM (bw uM (bw (jA gR Û) (bw (Af gR Û hS) (bw (J3 hS) (bw (jA (bw jz gR) Û) (bw (Af (bw jz gR) Û hS) (bw (jA (bw Fp gR) Û) (bw (jA (bw (jA gR Û) gR) Û) gR))))))))))))))))) H (À.refl H) _ λxs H1 s1 t1=>?_;have t1:Ä (λa=>H a=none/\a≠sysModules) H1 xs Ju:=t1;refine⟨by rw[t1.length];show 17<=sizeLine;decide,λp hp=>?_⟩;refine aJ ?_;dsimp only;refine uN ?_;have s2:À H (upd H1 p (.lst xs)):=s1.updR hp;refine⟨_,rfl,?_⟩;refine(bw uM (bw (Ft hS) (bw (jA (bw jz (bw jz (bw jz gR))) Û) gR))) (upd H1 p (.lst xs)) s2 _ λys H2 s3 t2=>?_;have t2:Ä (λa=>H a=none/\a≠sysModules) H2 ys Jv:=t2;refine⟨by rw[t2.length];show 3<=sizeLine;decide,λp2 hJ=>?_⟩;have s4:À (upd H1 p (.lst xs)) (upd H2 p2 (.lst ys)):=s3.updR hJ;refine⟨p,p2,xs,ys,rfl,rfl,s4 _ _ aj,aj,by rw[t1.length,t2.length];show 20<=sizeLine;decide,λl hl=>?_⟩;have s5:À H (upd (upd H2 p2 (.lst ys)) l (.lst (xs++ys))):=(s2.trans s4).updR hl;obtain⟨a,b,es,h1,h2,h3⟩:=cE;refine⟨_,rfl,st,20,rfl,⟨a,b,s5 _ _ es,h1,h2,h3⟩,by decide,by decide,λr a' b' r0 r1 g1 g2 g3=>?_⟩;have nl:l≠st:=λz=>by have:=(s2.trans s4) _ _ es;rw[z,this]at hl;cases hl
 have t3:Ä (λa=>H a=none/\a≠sysModules) (upd (upd H2 p2 (.lst ys)) l (.lst (xs++ys))) (xs++ys) (Ju++Jv):=(((t1.same (À.upd hp)).same s4).same (À.upd hl)).append ((t2.same (À.upd hJ)).same (À.upd hl));have hlen:(xs++ys).length=20:=by rw[t3.length];rfl
 have gI:r.toNat<(xs++ys).length:=Â;have e:(xs++ys)[r.toNat]?=some ((xs++ys)[r.toNat]):=à gI;obtain⟨d,hd,td⟩:=t3.get e;have fm:Ņ (xs++ys) r=some ((xs++ys)[r.toNat]):=by have:=fj e;rw[show((r.toNat:Nat):Int)=r by lia]at this;exact this
 refine⟨l,_,r,_,rfl,rfl,Ê.of (by rw[aq nl];exact aj),fm,q _ _ ⟨d,λb' o' e' ne=>?_,⟨a',b',aj,g1,g2,g3⟩,?_,(Gh d (ŕ hd)).1,(Gh d (ŕ hd)).2⟩⟩;.rw[aq ne];exact s5 _ _ e'
 .refine td.keep (λc l' e'=>?_) (λc o' hc e'=>?_) λ_ _ z _=>z
  .have:c≠st:=λz=>by rw[z,s5 _ _ es]at e';cases e'
   rw[aq this];exact e'
  .have:c≠st:=λz=>by rw[z,es]at hc;cases hc.1
   rw[aq this];exact e'
theorem xF(hK:X.K=K):IxR X (Nr K):=by subst hK;exact bT
theorem Qn:([ϭ,ĉ,"_law_wide"]:ó).Nodup:=by decide+kernel
theorem Z04:Ã [ĉ,Ŭ,"_law_wide",ϝ,"_law_turn"] [ĉ,Ŭ] (aD (top 73)):=ö
structure Mk3(st p3:Addr)(xs:List V)(ds:ģ)(H H':Hp):Prop where
 bt:Ż st H H'
 sa:iy H' st
 e3:H' p3=some (.lst xs)ts:Ä (λ_=>False) H' xs ds
theorem Mk3.take(g:Mk3 st p3 xs ds H H')(np:p3≠st)(h1:0<=a)(h2:0<=b)(h3:b<4294967296):Mk3 st p3 xs ds H (upd H' st (.lst [.int a,.int b])):=by
 refine⟨λb' o' e' ne=>?_,⟨a,b,aj,h1,h2,h3⟩,by rw[aq np];exact g.e3,g.ts.keep (λc l e=>?_) (λ_ _ z _=>z.elim) λ_ _ z _=>z.elim⟩;.rw[aq ne];exact g.bt b' o' e' ne
 .obtain⟨x,y,e7,_⟩:=g.sa;have:c≠st:=λz=>by rw[z,e7]at e;cases e
  rw[aq this];exact e
theorem Mk3.new(g:Mk3 st p3 xs ds H H')(hp:H' p=none):Mk3 st p3 xs ds H (upd H' p o):=by obtain⟨x,y,e7,k⟩:=g.sa;exact⟨λb' o' e' ne=>À.upd hp _ _ (g.bt b' o' e' ne),⟨x,y,À.upd hp _ _ e7,k⟩,À.upd hp _ _ g.e3,g.ts.same (À.upd hp)⟩
theorem į:bootBuiltins "min"=some (.builtin "min"):=by decide+kernel
theorem μ:Ã [ĉ,Ŭ,AAp,ϝ,"_law_wide","_law_turn","_law_first","_law_last","_law_price",AAx] [ĉ,Ŭ,AAp] (aD (top 74)):=ö
structure Dr(st:Addr)(H H':Hp):Prop where
 bt:Ż st H H'
 sa:iy H' st
theorem Ż.refl:Ż st H H:=λ_ _ e _=>e
theorem Dr.same(g:Dr st H H1)(s:À H1 H2):Dr st H H2:=by obtain⟨a,b,e,k⟩:=g.sa;exact⟨λb' o' e' ne=>s _ _ (g.bt b' o' e' ne),a,b,s _ _ e,k⟩
theorem Dr.trans(g:Dr st H H1)(g':Dr st H1 H2):Dr st H H2:=⟨λb' o' e' ne=>g'.bt _ _ (g.bt b' o' e' ne) ne,g'.sa⟩
theorem Dr.take(g:Dr st H H1)(h1:0<=a)(h2:0<=b)(h3:b<4294967296):Dr st H (upd H1 st (.lst [.int a,.int b])):=⟨λb' o' e' ne=>by rw[aq ne];exact g.bt b' o' e' ne,a,b,aj,h1,h2,h3⟩
theorem Dr.new(g:Dr st H H1)(hp:H1 p=none):Dr st H (upd H1 p o):=g.same (À.upd hp)
theorem Dr.ne(g:Dr st H H1)(hp:H1 p=none):p≠st:=λz=>by obtain⟨a,b,e,_⟩:=g.sa;rw[z,e]at hp;cases hp
theorem Dr.free(g:Dr st H H1)(hp:H1 p=none):H p=none:=by cases e:H p with|none=>rfl;|some o=>rw[g.bt _ _ e (g.ne hp)]at hp;cases hp
theorem Dr.put(g:Dr st H H1)(hp:H p=none)(np:p≠st):Dr st H (upd H1 p o):=by obtain⟨a,b,e,k⟩:=g.sa;refine⟨λb' o' e' ne=>?_,a,b,by rw[aq np.symm];exact e,k⟩;rw[aq (aB e' hp)];exact g.bt b' o' e' ne
theorem Dr.th{F:Addr->Prop}(g:Dr st H H1)(h0:iy H st)(hF:F st)(t:Ó (λa=>¬F a) H v d):Ó (λa=>¬F a) H1 v d:=by obtain⟨a,b,e,_⟩:=h0;refine t.keep (λc l e'=>g.bt _ _ e' λz=>?_) (λc o hc e'=>g.bt _ _ e' λz=>hc (z▸hF)) λ_ _ z _=>z;rw[z,e]at e';cases e'
theorem Dr.ths{F:Addr->Prop}(g:Dr st H H1)(h0:iy H st)(hF:F st)(t:Ä (λa=>¬F a) H v d):Ä (λa=>¬F a) H1 v d:=by obtain⟨a,b,e,_⟩:=h0;refine t.keep (λc l e'=>g.bt _ _ e' λz=>?_) (λc o hc e'=>g.bt _ _ e' λz=>hc (z▸hF)) λ_ _ z _=>z;rw[z,e]at e';cases e'
structure Fb(F:Addr->Prop)(st:Addr)(H:Hp):Prop where
 st:F st
 sys:F sysModules
 new:∀a,F a->H a=none->a=sysModules
theorem Fb.dr{st:Addr}(f:Fb F st H)(g:Dr st H H1):Fb F st H1:=⟨f.st,f.sys,λa ha hn=>f.new a ha (g.free hn)⟩
theorem Fb.with{st p:Addr}(f:Fb F st H)(hp:H p=some o):Fb (λa=>F a\/a=p) st H:=⟨.inl f.st,.inl f.sys,λa ha hn=>ha.elim (λz=>f.new a z hn) λz=>by rw[z,hp]at hn;cases hn⟩
theorem Z09.dr(m:Z09 st H n v H')(f:Fb F st H):∃d,Dr st H H'/\Ó (λa=>¬F a) H' v d/\tm (2^100) d=true/\sz d<=n:=by obtain⟨d,bt,sa,t,m1,z⟩:=m;exact⟨d,⟨bt,sa⟩,t.keep (λ_ _ e=>e) (λ_ _ _ e=>e) λa o ha _ hF=>ha.2 (f.new a hF ha.1),m1,z⟩
inductive š(k:Int)(vs:List V)(H:Hp)(Q:VK):Prop|mk:∀F st v d deep B,(vs=[.ref st,v,.int deep])->(iy H st)->(Fb F st H)->(0<=deep)->(deep<k)->(Ó (λa=>¬F a) H v d)->(tm B d=true)->(2^100<=B)->(sz d<=1000)->(∀v' H' d',Dr st H H'->Ó (λa=>¬F a) H' v' d'->tm (B+1000000) d'=true->sz d'<=2*sz d+10->Q v' H')->š k vs H Q
def mJ(k:Int):Sp:=λvs H Q _=>š k vs H Q
theorem Jw(hr:ì k A):A.units<cLine:=by have:=hr.un;lia
theorem lG:bootBuiltins "list"=some (.type "list"):=by decide+kernel
theorem sc30:Ã [ĉ,Ā,AAy,"_law_at","_law_kind_here",ABc] [ĉ,Ā,AAy] (aD (top 97)):=ö
theorem j5(F:ã K ABi ABi (top 97) f fd)(T:Mg mg)(Tl:mg "list"=none)(c1:å P w K mg base 1 AAq [ĉ,AAn] jB)(c2:å P w K mg base 1 ABa [Ā] (Ĕ bB))(c3:å P w K mg base 2 "_law_odd" [ĉ] Ko)(c4:å P w K mg base (3+k) ABi [ĉ,Ā,AAy] (mJ k)):Ñ P w K mg base ä (3+k+1) f fd [ĉ,Ā,AAy] (mJ (k+1:Nat)):=by
 refine F.oq sc30 λai A outer s H vs Q E hr h=>?_;obtain⟨F,st,v,d,deep,B,rfl,cE,fb,d0,d1,th,y8,hB,hz,q⟩:=h;refine⟨_,aC (bU (PW.pt (pJ (cA (aH (hjk:=Â) c2 hr (au (pv 1) ao))) (lK (aZ jr (aH (hjk:=Â) c1 hr (au (pv 0) (au az ao))) az (bf _))))) (aF (aQ (aV cu (pv 1) (pX bT (uK (lB az (lB (rY nA az) (lB az (lB (rY nA az) (lB az (lB (aV nu az az) bC))))))) (aH (hjk:=Â) c1 hr (au (pv 0) (au az ao))))))) bj) (aC (bU (PW.pt (gU (bH (cA (aG bZ rfl T.isinstance É (au (pv 1) (au (dM rfl T.tuple Ò (v:=.ty "tuple") rfl) ao))))) (gU (aZ (Cy (Jw hr)) (pv 1) (Ad bC) (bf _)) (gO (aZ ig (pv 2) az (bf _)))))) (aF (aQ (aH (hjk:=Â) c3 hr (au (pv 0) ao)))) bj) (aC (Ag (i:=3) (j:=4) (k:=5) rfl sc30.nd rfl rfl rfl Û Û Û rfl rfl rfl (au (aH (hjk:=Â) c1 hr (au (pv 0) (au (aG aX rfl T.len PySem.boot_len (au (pv 1) ao)) ao))) (au (aH (hjk:=Â) c1 hr (au (pv 0) (au az ao))) (au (bN iQ rfl Tl lG (au (pv 1) ao)) ao))) rfl) (aC (bU (aZ ig (pv 4) az (bf _)) (aF (cB (fQ Ŷ PySem.F.slot_list_insert PySem.F.type_list_insert tu (pv 5) (au (pv 3) (au (aH (hjk:=Â) c3 hr (au (pv 0) ao)) ao))))) (aF (bU (aZ ig (pv 4) az (bf _)) (aF (cB (fQ Ŷ PySem.F.slot_list_pop PySem.F.type_list_pop vQ (pv 5) (au (pv 3) ao)))) (aF (bU (aZ ig (pv 4) az (bf _)) (aF (cB (fQ Ŷ PySem.F.slot_list_insert PySem.F.type_list_insert tu (pv 5) (au (pv 3) (au (pX bT (pv 5) (pv 3)) ao))))) (aF (bU (aZ ig (pv 4) az (bf _)) (aF (aQ (pv 5))) (aF (bU (aZ ig (pv 4) az (bf _)) (aF (cB (fQ Ŷ Ϯ ϯ d9 (pv 5) (au (fQ Ŷ PySem.F.slot_list_pop PySem.F.type_list_pop vQ (pv 5) (au (pv 3) ao)) ao)))) (aF (d7 (aH (hjk:=Â) c4 hr (au (pv 0) (au (pX bT (pv 5) (pv 3)) (au (aV dG (pv 2) az) ao)))) (mY (pv 5) (pv 3) ă)))))))))))) (aF (aQ (bN bR rfl T.tuple Ò (au (pv 5) ao))))))),?_⟩;have UY:sz d<=4000:=Â;have g0:Dr st H H:=⟨Ż.refl,cE⟩;refine aP ?_;refine⟨_,rfl,_,v,d,rfl,th,UY,λH1 s1=>⟨_,rfl,?_⟩⟩;have g1:Dr st H H1:=g0.same s1;have odd:∀H2 v' H',Dr st H H2->Z09 st H2 6 v' H'->Q v' H':=λH2 v' H' g2 m=>by obtain⟨d',g3,t3,m3,z3⟩:=m.dr (fb.dr g2);exact q v' H' d' (g2.trans g3) t3 (ž Â _ m3) Â
 cases ew:bB d with|true=>
  obtain⟨i,rfl,rfl⟩:=j0 th ew;refine bx ?_;refine⟨_,rfl,st,4,rfl,g1.sa,by decide,by decide,λr a1 b1 r0 r1 k1 k2 k3=>⟨_,_,rfl,rfl,_,rfl,?_⟩⟩;have g2:=g1.take k1 k2 k3;refine jW (λ_=>?_) (λ_=>?_)
  .refine⟨_,rfl,1,rfl,5,rfl,_,_,rfl,rfl,⟨by decide,by decide,by decide⟩,zL,λp hp=>?_⟩;have g3:=g2.new (o:=.lst [V.int 1,V.int (-1),V.int 5,V.int (-5),V.int 1000,V.int (10^(6:Int).toNat)]) hp;refine⟨_,rfl,st,6,rfl,g3.sa,by decide,by decide,λr2 a2 b2 x0 x1 y1 y2 y3=>?_⟩;obtain⟨wd,hw,w1,w2⟩:∃wd:Int,Ņ [V.int 1,V.int (-1),V.int 5,V.int (-5),V.int 1000,V.int (10^(6:Int).toNat)] r2=some (.int wd)/\-5<=wd/\wd<=1000000:=by
    have:r2=0\/r2=1\/r2=2\/r2=3\/r2=4\/r2=5:=Â;rcases this with rfl|rfl|rfl|rfl|rfl|rfl;.exact⟨1,rfl,by decide,by decide⟩
    .exact⟨-1,rfl,by decide,by decide⟩
    .exact⟨5,rfl,by decide,by decide⟩
    .exact⟨-5,rfl,by decide,by decide⟩
    .exact⟨1000,rfl,by decide,by decide⟩
    .exact⟨_,rfl,by decide,by decide⟩
   refine⟨p,_,r2,.int wd,rfl,rfl,Ê.of (by rw[aq (g2.ne hp)];exact aj),hw,i,wd,rfl,rfl,?_⟩;have y8:decide (i.natAbs<B)=true:=y8;rw[Ć]at y8;exact q _ _ (.int (i+wd)) (g3.take y1 y2 y3) (.int _) (ð (show(i+wd).natAbs<B+1000000 by lia)) (by show 1<=2*1+10;decide)
  .refine⟨_,rfl,.int i,_,"tuple",false,rfl,(Ó.int (S:=λ_=>False) i).ty,gw (.int i),_,rfl,?_⟩;exact bx (bx ⟨_,rfl,st,rfl,g2.sa,λv' H' m=>odd _ _ _ g2 m⟩);|false=>refine bA (cZ ?_);dsimp only;refine aP ?_;refine⟨_,rfl,v,_,"tuple",cD d,rfl,(g1.th cE fb.st th).ty,gw d,_,rfl,?_⟩;cases et:cD d with|false=>exact bx (bx ⟨_,rfl,st,rfl,g1.sa,λv' H' m=>odd _ _ _ g1 m⟩);|true=>refine bA ?_;cases th with
 |@tup a xs ds ea r=>
    have hl:=r.length;have LX:=oZ ds;have DJ:1+ù ds<=1000:=hz;have na:a≠st:=λz=>by obtain⟨x,y,e,_⟩:=cE;rw[z,e]at ea;cases ea
    refine⟨_,rfl,zL,λp0 Po=>⟨a,p0,xs,rfl,rfl,Î.of (À.upd Po _ _ (s1 _ _ ea)),Î.of aj,_,rfl,?_⟩⟩;have g2:=g1.new (o:=.tup []) Po;cases hx:xs.isEmpty with|true=>exact bx (bx ⟨_,rfl,st,rfl,g2.sa,λv' H' m=>odd _ _ _ g2 m⟩);|false=>
     refine bA ?_;refine⟨_,rfl,rfl,_,rfl,?_⟩;by_cases Pp:deep=0;.subst Pp;exact bx ⟨_,rfl,st,rfl,g2.sa,λv' H' m=>odd _ _ _ g2 m⟩
     .rw[Ĝ (λz:V.int deep=V.int 0=>Pp (by injection z))];refine bA (cZ ?_);dsimp only;refine aP ?_;have ua:1<=xs.length:=by cases xs with|nil=>cases hx;|cons _ _=>exact Nat.le_add_left 1 _
      have rh:=g2.bt _ _ ea na;refine⟨_,rfl,_,rfl,a,xs,rfl,.inr (Î.of rh),st,_,rfl,g2.sa,Â,Â,λr1 a1 b1 r0 rn k1 k2 k3=>?_⟩;have g3:=g2.take k1 k2 k3;refine⟨_,rfl,st,10,rfl,g3.sa,by decide,by decide,λkd a2 b2 _ _ k4 k5 k6=>?_⟩;have g4:=g3.take k4 k5 k6;refine⟨_,rfl,a,xs,rfl,Î.of (g4.bt _ _ ea na),λp hp np=>⟨_,_,_,rfl,?_⟩⟩;have p0:=g4.free hp;have ui:=g4.ne hp;have g5:=g4.new (o:=.lst xs) hp;generalize Pt:upd (upd (upd (upd H1 _ _) st _) st _) p (.lst xs)=H5 at g5⊢;have e5:H5 p=some (.lst xs):=by rw[<-Pt];exact aj
      clear Pt;have F1:Fb (λa=>F a\/a=p) st H5:=(fb.dr g5).with e5;have r5:Ä (λa=>¬(F a\/a=p)) H5 xs ds:=r.keep (λc l e'=>g5.bt _ _ e' λz=>by obtain⟨x,y,e,_⟩:=cE;rw[z,e]at e';cases e') (λc o hc e'=>g5.bt _ _ e' λz=>hc (z▸fb.st)) λc o hc e'=>λz=>z.elim hc λz=>by rw[z,p0]at e';cases e'
      have put:∀{Hc:Hp}{ys zs ws:List V}{es:ģ},Hc p=some (.lst ys)->Ä (λa=>¬(F a\/a=p)) Hc ws es->Ä (λa=>¬(F a\/a=p)) (upd Hc p (.lst zs)) ws es:=λ{Hc ys zs ws es}e t=>t.keep (λc l e'=>by
        have:c≠p:=λz=>by rw[z,e]at e';cases e'
        rw[aq this];exact e') (λc o hc e'=>by have:c≠p:=λz=>hc (.inr z);rw[aq this];exact e') λ_ _ z _=>z;have LY:∀{Hc:Hp}{ys zs:List V}{w:V}{e1:PyData},Hc p=some (.lst ys)->Ó (λa=>¬(F a\/a=p)) Hc w e1->Ó (λa=>¬(F a\/a=p)) (upd Hc p (.lst zs)) w e1:=λ{Hc ys zs w e1}e t=>by have:=put (zs:=zs) e (.cons t .nil);cases this with|cons h _=>exact h
      have fin:∀{Hc:Hp}{ys:List V}{es:ģ}{l:Addr},Dr st H Hc->Hc p=some (.lst ys)->Ä (λa=>¬(F a\/a=p)) Hc ys es->ε (B+1000000) es=true->1+ù es<=2*(1+ù ds)+10->Hc l=none->Q (.ref l) (upd Hc l (.tup ys)):=λ{Hc ys es l}g e t h1 h2 hn=>q _ _ (.tuple es) (g.new hn) (.tup aj ((t.same (À.upd hn)).keep (λ_ _ e=>e) (λ_ _ _ e=>e) λ_ _ z _ zF=>z (.inl zF))) h1 h2;have UZ:r1.toNat<xs.length:=Â;have er:xs[r1.toNat]?=some xs[r1.toNat]:=à UZ;obtain⟨di,D6,ti⟩:=r5.get er;have fm:Ņ xs r1=some xs[r1.toNat]:=by have:=fj er;rw[show((r1.toNat:Nat):Int)=r1 by lia]at this;exact this
      have F2:υ xs.length r1=some r1.toNat:=by unfold υ;rw[Í r0,Í Â]
      have Pw:=uv F2;have y8:ε B ds=true:=y8;have uj:ε (B+1000000) ds=true:=uW Â _ y8;have PD:tm B di=true:=ç.mp y8 di (ŕ D6);have D7:tm (B+1000000) di=true:=ž Â _ PD;have zi:=ph (ŕ D6);have F3:xs.length<sizeLine:=by rw[sizeLine_eq];lia
      refine aP ?_;refine⟨_,rfl,rfl,_,rfl,jW (λ_=>?_) λ_=>⟨_,rfl,rfl,_,rfl,jW (λ_=>?_) λ_=>⟨_,rfl,rfl,_,rfl,jW (λ_=>?_) λ_=>⟨_,rfl,rfl,_,rfl,jW (λ_=>?_) λ_=>⟨_,rfl,rfl,_,rfl,jW (λ_=>?_) λ_=>?_⟩⟩⟩⟩⟩
      .refine⟨_,rfl,.inl ⟨rfl,_,Ê.of e5⟩,_,rfl,_,rfl,st,rfl,g5.sa,λv' H6 m=>?_⟩;obtain⟨d',g6,t6,m6,z6⟩:=m.dr F1;have e6:=g6.bt _ _ e5 ui;refine⟨p,xs,r1,v',rfl,rfl,e6,r0,Â,F3,?_⟩;refine⟨_,rfl,p,_,rfl,.inl ⟨Ê.of aj,λl fe=>fin (es:=ds.take r1.toNat++d'::ds.drop r1.toNat) ((g5.trans g6).put p0 ui) aj ?_ ?_ ?_ fe⟩⟩;.have r6:=g6.ths g5.sa F1.st r5;exact put e6 ((r6.take _).append (.cons t6 (r6.drop _)))
       .refine ç.mpr λx hx=>?_;rcases Ę.mp hx with z|z;.exact ç.mp uj x (Zaq z)
        .rcases ĩ.mp z with z|z;.rw[z];exact ž Â _ m6
         .exact ç.mp uj x (List.mem_of_mem_drop z)
       .rw[Ba];lia
      .refine⟨_,rfl,.inl ⟨rfl,_,Ê.of e5⟩,_,rfl,?_⟩;refine⟨p,xs,r1,r1.toNat,_,rfl,rfl,e5,Â,Â,Pw.1,er,?_⟩;refine⟨_,rfl,p,_,rfl,.inl ⟨Ê.of aj,λl fe=>fin (es:=ds.eraseIdx r1.toNat) (g5.put p0 ui) aj (put e5 (r5.erase _)) ?_ ?_ fe⟩⟩;.exact ç.mpr λx hx=>ç.mp uj x (List.mem_of_mem_eraseIdx hx)
       .have:=uY D6;lia
      .refine⟨_,rfl,.inl ⟨rfl,_,Ê.of e5⟩,_,rfl,_,rfl,_,rfl,p,xs,r1,_,rfl,rfl,Ê.of e5,fm,?_⟩;refine⟨p,xs,r1,_,rfl,rfl,e5,r0,Â,F3,?_⟩;refine⟨_,rfl,p,_,rfl,.inl ⟨Ê.of aj,λl fe=>fin (es:=ds.take r1.toNat++di::ds.drop r1.toNat) (g5.put p0 ui) aj (put e5 ((r5.take _).append (.cons ti (r5.drop _)))) ?_ ?_ fe⟩⟩
       .refine ç.mpr λx hx=>?_;rcases Ę.mp hx with z|z;.exact ç.mp uj x (Zaq z)
        .rcases ĩ.mp z with z|z;.rw[z];exact D7
         .exact ç.mp uj x (List.mem_of_mem_drop z)
       .rw[Ba];lia
      .refine⟨_,rfl,?_⟩;refine q _ _ (.list ds) g5 (.lst (λz=>np (fb.new p z p0)) e5 (r5.keep (λ_ _ e=>e) (λ_ _ _ e=>e) λ_ _ z _ zF=>z (.inl zF))) uj ?_;show 1+ù ds<=2*(1+ù ds)+10;lia
      .refine⟨_,rfl,.inl ⟨rfl,_,Ê.of e5⟩,_,rfl,.inl ⟨rfl,_,Ê.of e5⟩,_,rfl,?_⟩;refine⟨p,xs,r1,r1.toNat,_,rfl,rfl,e5,Â,Â,Pw.1,er,?_⟩;have hle:=nC xs r1.toNat;refine⟨p,_,_,rfl,rfl,aj,Â,?_⟩;refine⟨_,rfl,p,_,rfl,.inl ⟨Ê.of aj,λl fe=>fin (es:=ds.eraseIdx r1.toNat++[di]) ((g5.put p0 ui).put p0 ui) aj (put aj ((put e5 (r5.erase _)).append (.cons (LY e5 ti) .nil))) ?_ ?_ fe⟩⟩
       .refine ç.mpr λx hx=>?_;rcases Ę.mp hx with z|z;.exact ç.mp uj x (List.mem_of_mem_eraseIdx z)
        .rw[ű.mp z];exact D7
       .have:=uY D6;rw[uX];show 1+(ù (ds.eraseIdx r1.toNat)+(sz di+0))<=_;lia
      .refine⟨_,rfl,_,rfl,_,rfl,p,xs,r1,_,rfl,rfl,Ê.of e5,fm,_,rfl,_,_,rfl,rfl,?_⟩;refine⟨_,st,_,di,deep-1,B,rfl,g5.sa,F1,Â,Â,ti,PD,hB,Â,λv' H6 d' g6 t6 m6 z6=>?_⟩;have e6:=g6.bt _ _ e5 ui;refine⟨_,rfl,_,rfl,p,xs,r1,r1.toNat,rfl,rfl,e6,F2,?_⟩;refine⟨_,rfl,p,_,rfl,.inl ⟨Ê.of aj,λl fe=>fin (es:=ds.set r1.toNat d') ((g5.trans g6).put p0 ui) aj (put e6 ((g6.ths g5.sa F1.st r5).set t6 _)) ?_ ?_ fe⟩⟩
       .refine ç.mpr λx hx=>?_;rcases List.mem_or_eq_of_mem_set hx with z|z;.exact ç.mp uj x z
        .rw[z];exact m6
       .have:=Bb (e:=d') D6;lia
   |_=>cases et
theorem yV:Ñ P w K mg base ä 3 f fd [ĉ,Ā,AAy] (mJ (0:Nat)):=by
 refine⟨λvs H Q E h=>?_,λA outer s H args us vs Q E hr he hb hv h=>?_⟩;.obtain⟨F,st,v,d,deep,B,rfl,_⟩:=h;rfl
 .obtain⟨F,st,v,d,deep,B,rfl,_,_,h0,h1,_⟩:=h;exact absurd h1 Â
def cJ(r:WF):PyData:=.tuple (r.map .int)
def cR(rs:UV):PyData:=.tuple (rs.map cJ)
def fl(r:WF)(i:Nat):Int:=r.getD i 0
def ě(r:WF):Prop:=r.length=6/\(0<=fl r 0/\fl r 0<8)/\(0<=fl r 1/\fl r 1<3)/\(0<=fl r 2/\fl r 2<=fl r 3/\fl r 3<=19)/\(1<=fl r 4/\fl r 4<=99)/\(0<=fl r 5/\fl r 5<=1000000)
def fX(d:PyData):Bool:=bM d 0 12&&(items d).all λx=>bK x 5
def Ü(d:PyData):UV:=(items d).map λx=>(items x).map í
theorem Gi:∀{ds:ģ},(∀x∈ds,bB x=true)->ds=(ds.map í).map PyData.int|[],_=>rfl|d::ds,h=>by rw[Ī,Ī,<-Gi λx hx=>h x (Zak _ hx)];have:=h d Zap;cases d with|int i=>rfl;|_=>cases this
theorem lH{n:Nat}(h:bK x n=true):x=cJ ((items x).map í)/\((items x).map í).length=n:=by obtain⟨h1,h2⟩:=nQ h;unfold bM at h1;rw[ġ,ġ,Ć,Ć]at h1;obtain⟨ht,ej,eR⟩:=h1;cases x with|tuple ds=>have ej:(n:Int)<=ds.length:=ej;have eR:(ds.length:Int)<=n:=eR;refine⟨?_,by show(ds.map í).length=n;rw[Ø];lia⟩;exact congrArg PyData.tuple (Gi h2);|_=>cases ht
theorem Bc{ds:ģ}{n:Nat}(h:∀x∈ds,bK x n=true):ds=(ds.map λx=>(items x).map í).map cJ:=by induction ds with|nil=>rfl;|cons d ds ih=>rw[Ī,Ī,<-ih λx hx=>h x (Zak _ hx),<-(lH (h d Zap)).1]
theorem nU{f m:Int}(h:bM d f m=true):∃ds,d=.tuple ds/\f<=ds.length/\(ds.length:Int)<=m:=by unfold bM at h;rw[ġ,ġ,Ć,Ć]at h;cases d with|tuple ds=>exact⟨ds,rfl,h.2⟩;|_=>cases h.1
theorem tQ(r:WF)(i:Nat)(h:i<r.length):at_ (cJ r) i=fl r i:=by show í ((r.map PyData.int).getD i .none)=r.getD i 0;rw[Ĭ,Ĭ,ċ,à h];rfl
theorem qJ(h:fW d=true):d=cR (Ü d)/\(Ü d).length<=10/\∀r∈Ü d,ě r:=by
 unfold fW at h;rw[ġ]at h;obtain⟨ds,rfl,_,hl⟩:=nU h.1;have h2:∀x∈ds,iZ x=true:=ō.mp h.2;have h3:∀x∈ds,bK x 6=true:=λx hx=>by have:=h2 x hx;unfold iZ at this;rw[ġ]at this;exact this.1
 refine⟨congrArg PyData.tuple (Bc (n:=6) h3),by show(ds.map _).length<=10;rw[Ø];lia,λr hr=>?_⟩;obtain⟨x,hx,rfl⟩:=ñ.mp hr;have hx:x∈ds:=hx;obtain⟨e,F4⟩:=lH (n:=6) (h3 x hx);have:=h2 x hx;unfold iZ at this;rw[ġ]at this;have p:=this.2;rw[e]at p;rw[tQ _ 0 Â,tQ _ 1 Â,tQ _ 2 Â,tQ _ 3 Â,tQ _ 4 Â,tQ _ 5 Â]at p;unfold lE at p;simp only[Bool.and_eq_true,Ć]at p;obtain⟨⟨a1,a2⟩,⟨b1,b2⟩,⟨c1,c2,c3⟩,⟨d1,d2⟩,e1,e2⟩:=p;exact⟨F4,⟨a1,a2⟩,⟨b1,b2⟩,⟨c1,c2,c3⟩,⟨d1,d2⟩,e1,e2⟩
theorem qK(h:fX d=true):d=cR (Ü d)/\(Ü d).length<=12/\∀r∈Ü d,r.length=5:=by unfold fX at h;rw[ġ]at h;obtain⟨ds,rfl,_,hl⟩:=nU h.1;have h3:∀x∈ds,bK x 5=true:=ō.mp h.2;refine⟨congrArg PyData.tuple (Bc (n:=5) h3),by show(ds.map _).length<=12;rw[Ø];lia,λr hr=>?_⟩;obtain⟨x,hx,rfl⟩:=ñ.mp hr;exact(lH (n:=5) (h3 x hx)).2
structure È(H:Hp)(a:Addr)(xs:List V)(rs:UV):Prop where
 e:H a=some (.tup xs)l:xs.length=rs.length
 g:∀(i:Nat)(r:WF),rs[i]?=some r->∃t,xs[i]?=some (V.ref t)/\H t=some (.tup (r.map V.int))
theorem È.keep(h:È H a xs rs)(k:∀b l,H b=some (.tup l)->H' b=some (.tup l)):È H' a xs rs:=⟨k _ _ h.e,h.l,λi r e=>by obtain⟨t,e1,e2⟩:=h.g i r e;exact⟨t,e1,k _ _ e2⟩⟩
theorem È.same(h:È H a xs rs)(s:À H H'):È H' a xs rs:=h.keep λ_ _ e=>s _ _ e
theorem xG:∀{r:WF}{xs:List V},Ä S H xs (r.map .int)->xs=r.map V.int|[],_,.nil=>rfl|i::r,_,.cons h t=>by cases h;rw[xG (r:=r) t];rfl
theorem Ma(h:Ó S H v (cJ r)):∃t,v=V.ref t/\H t=some (.tup (r.map V.int)):=by generalize hd:cJ r=d at h;cases h with|@tup a xs ds e t=>injection hd with hd;subst hd;rw[xG t]at e;exact⟨a,rfl,e⟩;|_=>cases hd
theorem jl(h:Ó S H v (cR rs)):∃a xs,v=.ref a/\È H a xs rs:=by generalize hd:cR rs=d at h;cases h with|@tup a xs ds e t=>injection hd with hd;subst hd;refine⟨a,xs,rfl,e,by rw[t.length,Ø],λi r hr=>?_⟩;have hi:i<rs.length:=(ĵ.mp hr).1;have hx:xs[i]?=some (xs[i]'(by rw[t.length,Ø];exact hi)):=à _;obtain⟨d,h1,h2⟩:=t.get hx;rw[ċ,hr]at h1;injection h1 with h1;subst h1;obtain⟨t',e1,e2⟩:=Ma h2;exact⟨t',by rw[hx,e1],e2⟩;|_=>cases hd
theorem È.th:∀{rs:UV}{xs:List V},È H a xs rs->Ó (λ_=>False) H (.ref a) (cR rs):=by
 intro rs xs h;refine .tup h.e ?_;have gen:∀(rs:UV)(xs:List V),xs.length=rs.length->(∀(i:Nat)(r:WF),rs[i]?=some r->∃t,xs[i]?=some (V.ref t)/\H t=some (.tup (r.map V.int)))->Ä (λ_=>False) H xs (rs.map cJ):=by intro rs;induction rs with|nil=>intro xs hl _;have:xs=[]:=Zbj.mp hl;subst this;exact .nil;|cons r rs ih=>intro xs hl hg;cases xs with|nil=>simp at hl;|cons x xs=>
    obtain⟨t,e1,e2⟩:=hg 0 r rfl;have e1:x=.ref t:=by simpa using e1
    subst e1;exact .cons (.tup e2 (Ä.ints r)) (ih xs (by simpa using hl) λi r' e=>hg (i+1) r' (by simpa using e))
 exact gen rs xs h.l h.g
def lJ(L:WF)(i:Int)(v:Int):WF:=L.set i.toNat (L.getD i.toNat 0+v)
def Ą(n y:Int)(L:WF)(s:WF):WF:=if fl s 0=n/\fl s 4<=y then lJ (lJ L (fl s 1) (-(fl s 3))) (fl s 2) (fl s 3)else L
def ğ(p:WF):WF:=(List.replicate 8 0).set (fl p 0).toNat (fl p 4)
def cz(p:WF)(ss:UV)(n y:Int):WF:=if fl p 2<=y/\y<=fl p 3 then ss.foldl (Ą n y) (ğ p)else List.replicate 8 0
def qL(ps:UV)(s:WF):WF:=ps.getD (fl s 0).toNat []
def rQ(ps:UV)(s:WF):Bool:=(decide (0<=fl s 0)&&decide (fl s 0<ps.length))&&((decide (0<=fl s 1)&&decide (fl s 1<8))&&((decide (0<=fl s 2)&&decide (fl s 2<8))&&((!decide (fl s 1=fl s 2))&&((decide (1<=fl s 3)&&decide (fl s 3<=99))&&(decide (fl (qL ps s) 2<=fl s 4)&&decide (fl s 4<=fl (qL ps s) 3))))))
def years(a b:Int):WF:=(List.range (b+1-a).toNat).map λ(i:Nat)=>a+i
def fH(ps ss:UV)(s:WF):Bool:=rQ ps s&&(years (fl s 4) (fl (qL ps s) 3)).all λy=>decide (fl s 3<=(cz (qL ps s) ss (fl s 0) y).getD (fl s 1).toNat 0)
def un(ps ss:UV):Option Nat:=(List.range ss.length).find? λi=>!fH ps (ss.take i) (ss.getD i [])
theorem jC(L:WF)(i v:Int):(lJ L i v).length=L.length:=by unfold lJ;rw[Za0]
theorem Dv(n y:Int)(L s:WF):(Ą n y L s).length=L.length:=by
 unfold Ą;split;.rw[jC,jC]
 .rfl
theorem gq(p:WF)(ss:UV)(n y:Int):(cz p ss n y).length=8:=by
 unfold cz;split
 .have:∀(ss:UV)(L:WF),L.length=8->(ss.foldl (Ą n y) L).length=8:=by intro ss;induction ss with|nil=>exact λL h=>h;|cons s ss ih=>exact λL h=>ih _ (by rw[Dv];exact h)
  exact this ss _ (by unfold ğ;rw[Za0,Za9])
 .rw[Za9]
theorem jU:N8 X (λx y H Q=>Xe4 λp xs i v=>Xa6 (x=.ref p) (y=.int i) (Ê X.K H p xs) (0<=i) (xs[i.toNat]?=some v) (Q v H)):=by intro Á s σ H x y v u Q I rx ry h;obtain⟨p,xs,i,z,rfl,rfl,hq,h0,he,q⟩:=h;cases rx;obtain⟨t,rfl⟩:=ry;obtain⟨Æ,r,pl,hz⟩:=I.list hq;obtain⟨w,ew,eJ⟩:=r.get he;have hn:=kO;have hl:=r.length;have hi:=(ĵ.mp he).1;exact PySem.wpAny_getItem_list pl.isList h0 Â (by simpa using ew) ⟨z,H,I,eJ,q⟩
theorem fB(h:p.length=6):p=[fl p 0,fl p 1,fl p 2,fl p 3,fl p 4,fl p 5]:=by obtain⟨a,b,c,d,e,f,rfl⟩:=M7 h;rfl
theorem jD(h:p.length=5):p=[fl p 0,fl p 1,fl p 2,fl p 3,fl p 4]:=by obtain⟨a,b,c,d,e,rfl⟩:=Oi h;rfl
theorem uZ(L:WF)(i:Nat)(v:Int):(L.map V.int).set i (.int v)=(L.set i v).map V.int:=by rw[List.map_set]
theorem mK{L:WF}(h:i<L.length):(L.map V.int)[i]?=some (.int (L.getD i 0)):=by rw[ċ,à h,Ĭ,à h];rfl
theorem Be{n:Nat}{i:Int}(h0:0<=i)(h1:i<n):υ n i=some i.toNat:=by unfold υ;rw[Í h0,Í h1]
def ζ(s:WF):Prop:=s.length=5/\(0<=fl s 1/\fl s 1<8)/\(0<=fl s 2/\fl s 2<8)
inductive ϕ(vs:List V)(H:Hp)(Q:VK):Prop|mk:∀ap xp ps ar xs ss n y,(vs=[.ref ap,.ref ar,.int n,.int y])->(È H ap xp ps)->(È H ar xs ss)->(0<=n)->(n<ps.length)->(ě (ps.getD n.toNat []))->(ss.length<=12)->((∀s∈ss,ζ s))->(∀l H',À H H'->H' l=some (.lst ((cz (ps.getD n.toNat []) ss n y).map V.int))->Q (.ref l) H')->ϕ  vs H Q
def yW:Sp:=λvs H Q _=>ϕ  vs H Q
structure MS(mg:TX):Prop where sales:∃t,mg "MOST_SALES"=some (.int 12 t)
theorem Oj:Ã ["thing"] ["thing"] (aD (top 38)):=ö
theorem v5(F:ã K "are_sales" "are_sales" (top 38) f fd)(T:Mg mg)(N:MS mg)(c1:å P w K mg base 2 "are_wholes" ["thing","many"] (Jo bK))(c2:å P w K mg base 1 "is_tuple_of" ["thing","fewest","most"] (jX bM)):Ñ P w K mg base ä 3 f fd ["thing"] (Ĕ fX):=by refine F.oq Oj λai A outer s H vs Q E hr h=>?_;obtain⟨S,v,d,rfl,th,hz,q⟩:=h;obtain⟨t3,e3⟩:=N.sales;refine⟨_,aF (aQ (cO (aH c2 hr (au (pv 0) (au az (au (cg (v:=.int 12) rfl e3 ⟨_,rfl⟩) ao)))) (fD (aG (dh rfl) rfl T.all æ (au (bD ["part"] [none] rfl (dI (pv 0)) (λC fp Á s₂ Õ=>⟨bJ (i:=0) (ϧ _) rfl (Or.inl rfl),bG,aH c1 hr (au (pv 0) (au az ao))⟩) (λC=>trivial) ⟨rfl,rfl,rfl,rfl⟩) ao))))),?_⟩;refine⟨_,rfl,S,v,d,0,12,rfl,th,hz,λH1 s1=>⟨_,rfl,?_⟩⟩;have fh:=th.same s1;have fin:=λH'(s:À H H')=>q H' s;unfold fX at fin;cases e:bM d 0 12 with|false=>rw[e]at fin;exact bA (fin _ s1);|true=>rw[e]at fin;refine bx ?_;cases fh with|@tup a xs ds ea r=>exact cH (λx=>bK x 5) rfl ea r (dC r hz) (λv d H2 Q2 hm s2 t2 q2=>⟨_,rfl,S,v,d,5,rfl,t2,gj hm hz,q2⟩) λH2 s2=>fin _ (s1.trans s2);|_=>cases e
theorem đ:Ã ["promises","sales","number","year","holder","sort","first","last","sacks","price","held","promise","seller","buyer","sold","since"] ["promises","sales","number","year"] (aD (top 39)):=ö
theorem Jx(F:ã K "held_in" "held_in" (top 39) f fd)(N:Nums mg):Ñ P w K mg base ä 1 f fd ["promises","sales","number","year"] yW:=by
 refine F.oq đ λai A outer s H vs Q E hr h=>?_;obtain⟨ap,xp,ps,ar,xs,ss,n,y,rfl,rp,rs,n0,n1,okp,hl,cw,q⟩:=h;obtain⟨t1,e1⟩:=N.holders;refine⟨_,aC (d7 (pX bQ (pv 0) (pv 2)) (cj rfl (aA (Ö 4 đ.nd) (aA (Ö 5 đ.nd) (aA (Ö 6 đ.nd) (aA (Ö 7 đ.nd) (aA (Ö 8 đ.nd) (aA (Ö 9 đ.nd) aY)))))))) (aC (ĕ 10 đ.nd (aV Lg (cX (au az ao)) (cg (v:=.int 8) rfl e1 ⟨_,rfl⟩))) (aC (bU (bH (gF bY bY (pv 6) (pv 3) (pv 7))) (aF (aQ (pv 10))) bj) (aC (d7 (pv 8) (mY (pv 10) (pv 4) ă)) (aC (cP Ĺ rfl (dI (pv 1)) (cj rfl (aA (Ö 11 đ.nd) (aA (Ö 12 đ.nd) (aA (Ö 13 đ.nd) (aA (Ö 14 đ.nd) (aA (Ö 15 đ.nd) aY)))))) (aF (bU (PW.pt (pJ (aZ ig (pv 11) (pv 2) (bf _)) (lK (aZ bY (pv 15) (pv 3) (bf _))))) (aC (uo (pv 10) (pv 12) jU (pv 14) Ek ă) (aF (uo (pv 10) (pv 13) jU (pv 14) Ej ă))) bj))) (aF (aQ (pv 10))))))),?_⟩;obtain⟨p,hp⟩:∃p,ps[n.toNat]?=some p:=⟨_,à Â⟩;have ep:ps.getD n.toNat []=p:=by rw[Ĭ,hp];rfl
 rw[ep]at okp q;obtain⟨t,ex,et⟩:=rp.g _ _ hp;have p6:=fB okp.1;obtain⟨l6,⟨a1,a2⟩,b,⟨c1,c2,c3⟩,⟨d1,d2⟩,ee⟩:=id okp;have fm:Ņ xp n=some (.ref t):=by have:=fj ex;rw[show((n.toNat:Nat):Int)=n by lia]at this;exact this
 rw[p6]at et;refine aP ?_;refine⟨_,rfl,_,rfl,ap,xp,n,.ref t,rfl,rfl,Î.of rp.e,fm,?_⟩;refine⟨t,_,rfl,Î.of et,rfl,_,_,rfl,_,_,rfl,_,_,rfl,_,_,rfl,_,_,rfl,_,_,rfl,rfl,?_⟩;dsimp only;refine aP (aW ?_);refine⟨zL,λl0 PF=>⟨l0,8,_,rfl,rfl,aj,by decide,by decide,zL,λl1 ej=>?_⟩⟩;have s1:À H (upd (upd H l0 (.lst [V.int 0])) l1 (.lst (List.replicate (8:Int).toNat [V.int 0]).flatten)):=(À.upd PF).updR ej;have ń:upd (upd H l0 (.lst [V.int 0])) l1 (.lst (List.replicate (8:Int).toNat [V.int 0]).flatten) l1=some (.lst ((List.replicate 8 (0:Int)).map V.int)):=aj;have y9:H l1=none:=(À.upd PF).free ej;generalize upd (upd H l0 (.lst [V.int 0])) l1 (.lst (List.replicate (8:Int).toNat [V.int 0]).flatten)=H1 at s1 ń⊢;refine aJ ?_;dsimp only;refine aP ?_;refine cC (p:=λi j=>decide (i<=j)) (q:=λi j=>decide (i<=j)) (i:=fl p 2) (j:=y) (k:=fl p 3) (dZ rfl) (dZ rfl) (dZ rfl) _ ⟨_,rfl,?_⟩;by_cases kG:fl p 2<=y/\y<=fl p 3
 .rw[ð kG.1,ð kG.2];refine bA (cZ ?_);dsimp only;refine aP ?_;refine⟨_,rfl,_,rfl,_,rfl,l1,_,fl p 0,(fl p 0).toNat,rfl,rfl,ń,Be a1 (by show fl p 0<8;exact a2),?_⟩;rw[uZ];dsimp only;refine aP ?_;have U0:ar≠l1:=aB rs.e y9;refine⟨_,rfl,ar,rfl,⟨xs,Î.of (by rw[aq U0];exact s1 _ _ rs.e)⟩,?_⟩;have LZ:∀{Hc:Hp}{o:HO},À H Hc->À H (upd Hc l1 o):=λ{Hc o}sm b u e=>by rw[aq (aB e y9)];exact sm _ _ e
  refine Ih (xs:=xs) (λi σ Hc=>Xe5 λlP kM fF fI fN=>Xa3 (σ=[some (.ref ap),some (.ref ar),some (.int n),some (.int y),some (.int (fl p 0)),some (.int (fl p 1)),some (.int (fl p 2)),some (.int (fl p 3)),some (.int (fl p 4)),some (.int (fl p 5)),some (.ref l1),lP,kM,fF,fI,fN]) (À H Hc) (Hc l1=some (.lst (((ss.take i).foldl (Ą n y) (ğ p)).map V.int)))) ?_ ?_ ?_ ?_;.exact⟨none,none,none,none,none,rfl,LZ s1,aj⟩
  .rintro i σ Hc hi⟨lP,kM,fF,fI,fN,rfl,sm,el⟩;exact Î.of (sm _ _ rs.e)
  .rintro i x σ Hc hx⟨lP,kM,fF,fI,fN,rfl,sm,el⟩;have hi:i<ss.length:=by have:=(ĵ.mp hx).1;rw[rs.l]at this;exact this
   obtain⟨tr,fR,fq⟩:=rs.g i ss[i] (à hi);have:x=.ref tr:=by rw[hx]at fR;exact ŗ fR
   subst this;obtain⟨o1,⟨o2,o3⟩,o4,o5⟩:=cw ss[i] (Ě hi);have s5:=jD o1;have cb:ss.take (i+1)=ss.take i++[ss[i]]:=by rw[ī,à hi];rfl
   have D8:(ss.take (i+1)).foldl (Ą n y) (ğ p)=Ą n y ((ss.take i).foldl (Ą n y) (ğ p)) ss[i]:=by rw[cb,List.foldl_append];rfl
   rw[D8];generalize hL:(ss.take i).foldl (Ą n y) (ğ p)=L at el⊢;have lL:L.length=8:=by have:=gq p (ss.take i) n y;unfold cz at this;rw[Í kG,hL]at this;exact this
   generalize ss[i]=r at fq s5 o2 o3 o4 o5⊢;rw[s5]at fq;refine⟨tr,_,rfl,Î.of (sm _ _ fq),rfl,_,_,rfl,_,_,rfl,_,_,rfl,_,_,rfl,_,_,rfl,rfl,?_⟩;refine⟨_,rfl,_,rfl,rfl,_,rfl,?_⟩;by_cases hn:fl r 0=n
   .rw[ð (show V.int (fl r 0)=V.int n by rw[hn])];refine bx ?_;refine⟨_,rfl,_,rfl,_,_,rfl,rfl,_,rfl,?_⟩;by_cases hy:fl r 4<=y
    .rw[ð hy];refine bx ?_;have e1:Ą n y L r=lJ (lJ L (fl r 1) (-(fl r 3))) (fl r 2) (fl r 3):=Í ⟨hn,hy⟩;rw[e1];refine aP ?_;refine⟨_,rfl,_,rfl,l1,_,fl r 1,_,rfl,rfl,Ê.of el,o2,mK Â,_,rfl,_,_,rfl,rfl,l1,_,fl r 1,(fl r 1).toNat,rfl,rfl,el,Be o2 (by rw[Ø];lia),?_⟩;rw[uZ];have e2:L.set (fl r 1).toNat (L.getD (fl r 1).toNat 0-fl r 3)=lJ L (fl r 1) (-(fl r 3)):=by unfold lJ;rw[Int.sub_eq_add_neg]
     rw[e2];generalize U1:lJ L (fl r 1) (-(fl r 3))=L1;have lL1:L1.length=8:=by rw[<-U1,jC];exact lL
     refine⟨_,rfl,_,rfl,l1,_,fl r 2,_,rfl,rfl,Ê.of aj,o4,mK Â,_,rfl,_,_,rfl,rfl,l1,_,fl r 2,(fl r 2).toNat,rfl,rfl,aj,Be o4 (by rw[Ø];lia),?_⟩;rw[uZ];exact⟨_,_,_,_,_,rfl,LZ (LZ sm),aj⟩
    .rw[Ĝ hy];refine bA ?_;have e1:Ą n y L r=L:=Ë λz=>hy z.2;rw[e1];exact⟨_,_,_,_,_,rfl,sm,el⟩
   .rw[Ĝ (λz:V.int (fl r 0)=V.int n=>hn (by injection z))];refine bA (bA ?_);have e1:Ą n y L r=L:=Ë λz=>hn z.1;rw[e1];exact⟨_,_,_,_,_,rfl,sm,el⟩
  .rintro σ Hc⟨lP,kM,fF,fI,fN,rfl,sm,el⟩;rw[rs.l,ł]at el;refine⟨_,rfl,q _ _ sm ?_⟩;unfold cz;rw[Í kG];exact el
 .have hb:(decide (fl p 2<=y)&&decide (y<=fl p 3))=false:=by cases e:(decide (fl p 2<=y)&&decide (y<=fl p 3))with|false=>rfl;|true=>rw[ġ,Ć,Ć]at e;exact absurd e kG
  rw[hb];refine bx ⟨_,rfl,q _ _ s1 ?_⟩;unfold cz;rw[Ë kG];exact ń
theorem xH{Fin:List V->Hp->Prop}(Pv:List V->Hp->Prop)(h0:Pv [] H0)(hz:n<sizeLine)(step:∀i ys H Q,i<n->ys.length=i->Pv ys H->(∀y H',Pv (ys++[y]) H'->Q y H')->te (cS.set j (some (.int (lo+i)))) H Q)(fin:∀ys H,ys.length=n->Pv ys H->Fin ys H):jY (Itr lo n) (bO j) uC te Fin cS H0:=by
 refine⟨λi m ys σ H=>m=n-i/\i<=n/\ys.length=i/\(∀o,σ.set j o=cS.set j o)/\Pv ys H,⟨_,rfl,ĥ _,rfl,λ_=>rfl,h0⟩,?_⟩;rintro i m ys σ H⟨rfl,hi,hy,fA,p⟩;refine⟨Â,?_⟩;by_cases ax:i<n;.refine .inr ⟨ax,λx H' y=>?_⟩;obtain⟨e,e2⟩:=y;subst e;subst e2;show te (σ.set j (some (.int (lo+i)))) H' _;rw[fA];exact step i ys H' _ ax hy p λy H2 p2=>⟨n-(i+1),Â,rfl,ax,by rw[õ,hy];rfl,λo=>by rw[List.set_set],p2⟩
 .have e:i=n:=Â;subst e;exact .inl ⟨ß _,fin ys H hy p⟩
theorem Ol(a:Ev σ H ta (.int i))(b:Ev σ H tb (.int j)):Ev σ H (Ÿ rNe ta tb) (.bl (!decide (i=j))):=λQ q=>a _ (b _ ⟨rfl,by have ed:decide (V.int i=V.int j)=decide (i=j):=decide_eq_decide.mpr ⟨λz=>by injection z,λz=>by rw[z]⟩;rw[ed];exact q⟩)
theorem nW(a b:Int):(years a b).length=(b+1-a).toNat:=by unfold years;rw[Ø,List.length_range]
theorem nY{i:Nat}(h:i<(b+1-a).toNat):(years a b)[i]?=some (a+i):=by unfold years;rw[ċ,Zbh h];rfl
theorem tR{α β:Type}{l:List α}{f:α->β}{ys:List β}{x:α}(ey:ys=(l.take ys.length).map f)(hx:l[ys.length]?=some x):ys++[f x]=(l.take (ys++[f x]).length).map f:=by rw[õ,List.length_singleton,ī,hx,ô,<-ey];rfl
inductive ϗ(vs:List V)(H:Hp)(Q:VK):Prop|mk:∀ap xp ps t s,(vs=[.ref ap,.ref t])->(È H ap xp ps)->((∀r∈ps,ě r))->(H t=some (.tup (s.map V.int)))->(s.length=5)->(Q (.bl (rQ ps s)) H)->ϗ  vs H Q
def Gj:Sp:=λvs H Q _=>ϗ  vs H Q
inductive Λ(vs:List V)(H:Hp)(Q:VK):Prop|mk:∀ap xp ps ar xs ss t s,(vs=[.ref ap,.ref ar,.ref t])->(È H ap xp ps)->((∀r∈ps,ě r))->(È H ar xs ss)->(ss.length<=12)->((∀s∈ss,ζ s))->(H t=some (.tup (s.map V.int)))->(s.length=5)->(∀H',À H H'->Q (.bl (fH ps ss s)) H')->Λ  vs H Q
def Bf:Sp:=λvs H Q _=>Λ  vs H Q
def unV:Option Nat->V|none=>.non|some i=>.int i
inductive Ν(vs:List V)(H:Hp)(Q:VK):Prop|mk:∀S v d S' u e,(vs=[v,u])->(Ó S H v d)->(Ó S' H u e)->(fW d=true)->(fX e=true)->(sz d<=4000)->(sz e<=4000)->(∀H',À H H'->Q (unV (un (Ü d) (Ü e))) H')->Ν  vs H Q
def Bg:Sp:=λvs H Q _=>Ν  vs H Q
theorem gB{ps:UV}{n:Int}(h:∀r∈ps,ě r)(h0:0<=n)(h1:n<ps.length):∃p,ps[n.toNat]?=some p/\ps.getD n.toNat []=p/\ě p:=by have hn:n.toNat<ps.length:=Â;refine⟨ps[n.toNat],à hn,?_,h _ (Ě hn)⟩;rw[Ĭ,à hn];rfl
theorem iH{n:Int}{r:WF}(h:È H a xs rs)(h0:0<=n)(e:rs[n.toNat]?=some r):∃t,Ņ xs n=some (.ref t)/\H t=some (.tup (r.map V.int)):=by obtain⟨t,e1,e2⟩:=h.g _ _ e;refine⟨t,?_,e2⟩;have:=fj e1;rw[show((n.toNat:Nat):Int)=n by lia]at this;exact this
theorem Ė:Ã ["promises","sale","number","seller","buyer","sacks","year","holder","sort","first","last","due","price"] ["promises","sale"] (aD (top 40)):=ö
theorem Jy(F:ã K "is_sale_between" "is_sale_between" (top 40) f fd)(T:Mg mg)(N:Nums mg):Ñ P w K mg base ä 1 f fd ["promises","sale"] Gj:=by
 refine F.oq Ė λai A outer s H vs Q E hr h=>?_;obtain⟨ap,xp,ps,t,r,rfl,rp,okp,et,h5,q⟩:=h;obtain⟨t1,e1⟩:=N.holders;obtain⟨t4,e4⟩:=N.sacks;refine⟨_,aC (d7 (pv 1) (cj rfl (aA (Ö 2 Ė.nd) (aA (Ö 3 Ė.nd) (aA (Ö 4 Ė.nd) (aA (Ö 5 Ė.nd) (aA (Ö 6 Ė.nd) aY))))))) (aC (bU (bH (gF bY lO az (pv 2) (aG aX rfl T.len PySem.boot_len (au (pv 0) ao)))) (aF (aQ gD)) bj) (aC (d7 (pX bQ (pv 0) (pv 2)) (cj rfl (aA (Ö 7 Ė.nd) (aA (Ö 8 Ė.nd) (aA (Ö 9 Ė.nd) (aA (Ö 10 Ė.nd) (aA (Ö 11 Ė.nd) (aA (Ö 12 Ė.nd) aY)))))))) (aF (aQ (cO (dH bY lO az (pv 3) (cg (v:=.int 8) rfl e1 ⟨_,rfl⟩)) (cO (dH bY lO az (pv 4) (cg (v:=.int 8) rfl e1 ⟨_,rfl⟩)) (cO (gW rZ (pv 3) (pv 4) (bf _)) (cO (dH bY bY az (pv 5) (cg (v:=.int 99) rfl e4 ⟨_,rfl⟩)) (fD (dH bY bY (pv 9) (pv 6) (pv 10))))))))))),?_⟩;rw[jD h5]at et;refine aN λc_ ae=>?_;refine⟨_,rfl,t,_,rfl,Î.of et,rfl,_,_,rfl,_,_,rfl,_,_,rfl,_,_,rfl,_,_,rfl,rfl,?_⟩;refine ae _ _ ?_;clear ae c_;try dsimp only
 refine aP ?_;refine cC (p:=λi j=>decide (i<=j)) (q:=λi j=>decide (i<j)) (i:=0) (j:=fl r 0) (k:=(xp.length:Int)) fO (dZ rfl) (λQ h=>⟨_,rfl,ap,xp,rfl,.inr (Î.of rp.e),h⟩) _ ⟨_,rfl,?_⟩;have fin:=q;unfold rQ at fin;rw[rp.l];cases e:(decide (0<=fl r 0)&&decide (fl r 0<ps.length))with|false=>rw[e]at fin;exact bx fin;|true=>rw[e]at fin;rw[ġ,Ć,Ć]at e;obtain⟨p,hp,ep,op⟩:=gB okp e.1 e.2;obtain⟨tp,fm,fw⟩:=iH rp e.1 hp;rw[fB op.1]at fw;refine bA (cZ ?_);dsimp only;refine aP ?_;refine⟨_,rfl,_,rfl,ap,xp,_,.ref tp,rfl,rfl,Î.of rp.e,fm,?_⟩;refine⟨tp,_,rfl,Î.of fw,rfl,_,_,rfl,_,_,rfl,_,_,rfl,_,_,rfl,_,_,rfl,_,_,rfl,rfl,?_⟩;have ze:qL ps r=p:=ep;rw[ze]at fin;exact jh (cC fO (dZ rfl) fO) (λ_=>jh (cC fO (dZ rfl) fO) λ_=>jh (Ol (dZ rfl) (dZ rfl)) λ_=>jh (cC fO (dZ rfl) fO) λ_=>cC (dZ rfl) (dZ rfl) (dZ rfl)) _ fin
theorem Ŋ:Ã ["promises","ahead","sale","number","seller","buyer","sacks","year","last"] ["promises","ahead","sale"] (aD (top 41)):=ö
theorem Qo:(["at","promises","ahead","number","seller","sacks"]:ó).Nodup:=by decide+kernel
theorem Gk(F:ã K "sale_holds" "sale_holds" (top 41) f fd)(T:Mg mg)(Tr:mg "range"=none)(c1:å P w K mg base 1 "is_sale_between" ["promises","sale"] Gj)(c2:å P w K mg base 1 "held_in" ["promises","sales","number","year"] yW):Ñ P w K mg base ä 2 f fd ["promises","ahead","sale"] Bf:=by refine F.oq Ŋ λai A outer s H vs Q E hr h=>?_;obtain⟨ap,xp,ps,ar,xs,ss,t,r,rfl,rp,okp,rs,hl,cw,et,h5,q⟩:=h;refine⟨_,aC (bU (bH (cA (aH c1 hr (au (pv 0) (au (pv 2) ao))))) (aF (aQ gD)) bj) (aC (d7 (pv 2) (cj rfl (aA (bJ (i:=3) Ŋ.nd rfl (Or.inr rfl)) (aA (bJ (i:=4) Ŋ.nd rfl (Or.inr rfl)) (aA (Ö 5 Ŋ.nd) (aA (bJ (i:=6) Ŋ.nd rfl (Or.inr rfl)) (aA (Ö 7 Ŋ.nd) aY))))))) (aC (ĕ 8 Ŋ.nd (pX bQ (pX bQ (pv 0) (pv 3)) az)) (aF (aQ (aG (dh rfl) rfl T.all æ (au (bD ["at","promises","ahead","number","seller","sacks"] [none,some 0,some 1,some 3,some 4,some 6] rfl (jM rfl Tr (au (pv 7) (au (aV cu (pv 8) az) ao))) (λC fp Á s₂ Õ=>⟨Ö 0 Qo,bG,gW vN (pX (xF (K:=K) rfl) (aH c2 hr (au (pv 1) (au (pv 2) (au (pv 3) (au (pv 0) ao))))) (pv 4)) (pv 5) (bf _)⟩) (λC=>cI (cI (cI (cI (cI trivial))))) ⟨rfl,rfl,rfl,rfl⟩) ao)))))),?_⟩;have fin:=q;unfold fH at fin;refine aP ?_;refine⟨_,rfl,_,rfl,ap,xp,ps,t,r,rfl,rp,okp,et,h5,_,rfl,?_⟩;cases e:rQ ps r with|false=>rw[e]at fin;exact bx (fin _ (À.refl _));|true=>
  rw[e]at fin;refine bA (cZ ?_);dsimp only;refine aN λc_ ae=>?_;unfold rQ at e;simp only[Bool.and_eq_true,Ć]at e;obtain⟨⟨n0,n1⟩,⟨b0,b1⟩,_,_,⟨k0,k1⟩,y0,y1⟩:=e;obtain⟨p,hp,ep,op⟩:=gB okp n0 n1;have ze:qL ps r=p:=ep;rw[ze]at fin y0 y1;obtain⟨tp,fm,fw⟩:=iH rp n0 hp;rw[jD h5]at et;rw[fB op.1]at fw;obtain⟨_,_,_,⟨g1,g2,g3⟩,_⟩:=id op;refine⟨_,rfl,t,_,rfl,Î.of et,rfl,_,_,rfl,_,_,rfl,_,_,rfl,_,_,rfl,_,_,rfl,rfl,?_⟩;refine ae _ _ ?_;clear ae c_;try dsimp only
  refine aN λc_ ae=>?_;refine aW ?_;refine⟨_,rfl,_,rfl,ap,xp,_,.ref tp,rfl,rfl,Î.of rp.e,fm,tp,_,3,.int (fl p 3),rfl,rfl,Î.of fw,rfl,?_⟩;refine aJ ?_;refine ae _ _ ?_;clear ae c_;try dsimp only
  refine⟨_,rfl,_,rfl,_,_,rfl,rfl,fl r 4,fl p 3+1,rfl,⟨Â,Â,Â,Â⟩,?_⟩;refine xH (λys Hc=>À H Hc/\ys=((years (fl r 4) (fl p 3)).take ys.length).map λy=>V.bl (decide (fl r 3<=(cz p ss (fl r 0) y).getD (fl r 1).toNat 0))) ⟨À.refl _,rfl⟩ ŷ ?_ ?_
  .rintro i ys Hc Qc hi hy⟨sc,ey⟩qc;refine⟨_,rfl,_,rfl,_,rfl,_,rfl,ap,xp,ps,ar,xs,ss,fl r 0,fl r 4+i,rfl,rp.same sc,rs.same sc,n0,n1,by rw[ep];exact op,hl,cw,λl H' s' el=>?_⟩;rw[ep]at el;refine⟨_,rfl,l,_,fl r 1,.int ((cz p ss (fl r 0) (fl r 4+i)).getD (fl r 1).toNat 0),rfl,rfl,Ê.of el,?_,_,rfl,_,_,rfl,rfl,qc _ _ ⟨sc.trans s',?_⟩⟩;.unfold Ņ;rw[Be b0 (by rw[Ø,gq];lia)];exact mK (by rw[gq];lia)
   .have hx:(years (fl r 4) (fl p 3))[ys.length]?=some (fl r 4+(i:Int)):=by rw[hy];exact nY hi
    exact tR ey hx
  .rintro ys Hc hy⟨sc,ey⟩D hD;rw[Ϭ (by rw[nW,hy];exact ß _)]at ey;refine⟨D,(years (fl r 4) (fl p 3)).map λy=>decide (fl r 3<=(cz p ss (fl r 0) y).getD (fl r 1).toNat 0),rfl,Ê.of (by rw[Ĳ];rw[ey];exact aj),?_⟩;rw[List.all_map];exact fin _ (sc.updR hD)
theorem il{xs:List V}(h:i<=xs.length):pQ xs none (some (i:Int))=xs.take i:=by unfold pQ;rw[HT.sIx_none,HT.sIx_nat,List.drop_zero,Nat.min_eq_left h,Nat.sub_zero]
theorem È.cut(h:È H a xs rs)(i:Nat)(hp:H p=none):È (upd H p (.tup (xs.take i))) p (xs.take i) (rs.take i):=by
 refine⟨aj,by rw[Ĵ,Ĵ,h.l],λj r e=>?_⟩;have hj:j<i:=by
  rw[List.getElem?_take]at e;split at e;.assumption
  .cases e
 rw[List.getElem?_take_of_lt hj]at e;obtain⟨t,e1,e2⟩:=h.g j r e;exact⟨t,by rw[List.getElem?_take_of_lt hj];exact e1,À.upd hp _ _ e2⟩
theorem v6(h:∀j,j<i->fH ps (ss.take j) (ss.getD j [])=true)(hi:i<ss.length)(hn:fH ps (ss.take i) (ss.getD i [])=false):un ps ss=some i:=by unfold un;rw[List.find?_range_eq_some];exact⟨by rw[hn];rfl,Ϣ.mpr hi,λj hj=>by rw[h j hj];rfl⟩
theorem Bh(h:∀j,j<ss.length->fH ps (ss.take j) (ss.getD j [])=true):un ps ss=none:=by unfold un;rw[List.find?_range_eq_none];exact λj hj=>by rw[h j hj];rfl
theorem mL(h5:s.length=5)(h:fH ps ss s=true):ζ s:=by unfold fH rQ at h;simp only[Bool.and_eq_true,Ć]at h;exact⟨h5,h.1.2.1,h.1.2.2.1⟩
theorem á{ss:UV}(h:i<ss.length):ss.getD i []=ss[i]:=by rw[Ĭ,à h];rfl
def part(d:PyData)(i:Nat):PyData:=(items d).getD i .none
def j6(d:PyData):Bool:=bM d 3 3&&(iR (part d 0)&&(fW (part d 1)&&(fX (part d 2)&&(un (Ü (part d 1)) (Ü (part d 2))).isNone)))
theorem ϳ:Ã ["promises","sales","at","sale"] ["promises","sales"] (aD (top 42)):=ö
theorem Gm(F:ã K "first_unheld" "first_unheld" (top 42) f fd)(Te:mg "enumerate"=none)(c1:å P w K mg base 4 "are_promises" ["thing"] (Ĕ fW))(c2:å P w K mg base 3 "are_sales" ["thing"] (Ĕ fX))(c3:å P w K mg base 2 "sale_holds" ["promises","ahead","sale"] Bf):Ñ P w K mg base ä 5 f fd ["promises","sales"] Bg:=by
 refine F.oq ϳ λai A outer s H vs Q E hr h=>?_;obtain⟨S,v,d,S',u,e,rfl,F5,ths,hp,hs,zp,zs,q⟩:=h;refine⟨_,aC (bU (bH (cA (aH c1 hr (au (pv 0) ao)))) mW bj) (aC (bU (bH (cA (aH c2 hr (au (pv 1) ao)))) mW bj) (aC (cP Ĺ rfl (ZT.pi_enum true rfl Te (au (pv 1) ao)) (cj rfl (aA (Ö 2 ϳ.nd) (aA (Ö 3 ϳ.nd) aY))) (aF (bU (bH (cA (aH c3 hr (au (pv 0) (au (pP J7 (pv 1) ur (ut (pv 2))) (au (pv 3) ao)))))) (aF (aQ (pv 2))) bj))) (aF (aQ j9)))),?_⟩;refine aN λc_ ae=>?_;refine⟨_,rfl,S,v,d,rfl,F5,zp,λH1 s1=>⟨_,rfl,?_⟩⟩;rw[hp];refine bA (cZ ?_);refine ae _ _ ?_;clear ae c_;try dsimp only
 refine aN λc_ ae=>?_;refine⟨_,rfl,S',u,e,rfl,ths.same s1,zs,λH2 s2=>⟨_,rfl,?_⟩⟩;rw[hs];refine bA (cZ ?_);refine ae _ _ ?_;clear ae c_;try dsimp only
 have F6:=s1.trans s2;obtain⟨ep,lp,okp⟩:=qJ hp;obtain⟨es,ls,cw⟩:=qK hs;have fh:=F5.same F6;have AX:=ths.same F6;rw[ep]at fh;rw[es]at AX;generalize Ü d=ps at q lp okp fh;generalize Ü e=ss at q ls cw AX;obtain⟨ap,xp,rfl,rp⟩:=jl fh;obtain⟨ar,xs,rfl,rs⟩:=jl AX;refine aP ?_;refine⟨_,rfl,ar,xs,rfl,Î.of rs.e,?_⟩;refine ZT.for_enum true (xs:=xs) (λi σ Hc=>∃x2 x3,σ=[some (.ref ap),some (.ref ar),x2,x3]/\À H2 Hc/\∀j,j<i->fH ps (ss.take j) (ss.getD j [])=true) ?_ ?_ ?_ ?_;.exact⟨none,none,rfl,À.refl _,λj hj=>absurd hj (Za7 _)⟩
 .rintro i σ Hc hi⟨x2,x3,rfl,sm,hh⟩;exact Î.of (sm _ _ rs.e)
 .rintro i x σ Hc T0 hx⟨x2,x3,rfl,sm,hh⟩nT;have hi:i<ss.length:=by have:=(ĵ.mp hx).1;rw[rs.l]at this;exact this
  have F2:i<xs.length:=by rw[rs.l];exact hi
  obtain⟨tr,fR,fq⟩:=rs.g i ss[i] (à hi);have:x=.ref tr:=by rw[hx]at fR;exact ŗ fR
  subst this;have h5:=cw ss[i] (Ě hi);have sT:=sm.updR (o:=.tup [V.int i,V.ref tr]) nT;refine⟨T0,_,rfl,Î.of aj,rfl,_,_,rfl,_,_,rfl,rfl,?_⟩;refine⟨_,rfl,_,rfl,_,rfl,i,rfl,ar,xs,rfl,Î.of (sT _ _ rs.e),λhw=>?_,λ_ p PH=>?_⟩;.have:=hw.2;rw[HT.sIx_nat]at this;exact absurd this Â
  rw[il (Za6 F2)];have sp:=sT.updR (o:=.tup (xs.take i)) PH;refine⟨_,rfl,ap,xp,ps,p,xs.take i,ss.take i,tr,ss[i],rfl,rp.same sp,okp,(rs.same sT).cut i PH,?_,?_,sp _ _ fq,h5,λH' s'=>⟨_,rfl,?_⟩⟩;.rw[Ĵ];lia
  .intro s U2;obtain⟨j,hj,e'⟩:=Zao U2;rw[Ĵ]at hj;have U3:j<i:=Â;have PR:j<ss.length:=Â;have e2:ss[j]=s:=by rw[<-e',List.getElem_take]
   rw[<-e2];have:=hh j U3;rw[á PR]at this;exact mL (cw _ (Ě PR)) this
  .cases eh:fH ps (ss.take i) ss[i]with|false=>refine bx ⟨_,rfl,?_⟩;have:=q H' (F6.trans (sp.trans s'));rw[v6 hh hi (by rw[á hi];exact eh)]at this;exact this;|true=>
    refine bA ⟨_,_,rfl,sp.trans s',λj hj=>?_⟩;rcases Nat.lt_succ_iff_lt_or_eq.mp hj with z|z;.exact hh j z
    .rw[z,á hi];exact eh
 .rintro σ Hc⟨x2,x3,rfl,sm,hh⟩;have:=q Hc (F6.trans sm);rw[Bh λj hj=>hh j (by rw[rs.l];exact hj)]at this;exact this
theorem ρ:Ã ["thing","clips","promises","sales"] ["thing"] (aD (top 43)):=ö
theorem Jz(F:ã K "is_book" "is_book" (top 43) f fd)(c0:å P w K mg base 1 "is_tuple_of" ["thing","fewest","most"] (jX bM))(c1:å P w K mg base 4 "are_clips" ["thing"] (Ĕ iR))(c2:å P w K mg base 4 "are_promises" ["thing"] (Ĕ fW))(c3:å P w K mg base 3 "are_sales" ["thing"] (Ĕ fX))(c4:å P w K mg base 5 "first_unheld" ["promises","sales"] Bg):Ñ P w K mg base ä 6 f fd ["thing"] (Ĕ j6):=by refine F.oq ρ λai A outer s H vs Q E hr h=>?_;obtain⟨S,v,d,rfl,th,hz,q⟩:=h;refine⟨_,aC (bU (bH (cA (aH c0 hr (au (pv 0) (au az (au az ao)))))) (aF (aQ gD)) bj) (aC (d7 (pv 0) (cj rfl (aA (Ö 1 ρ.nd) (aA (Ö 2 ρ.nd) (aA (Ö 3 ρ.nd) aY))))) (aF (aQ (cO (aH c1 hr (au (pv 1) ao)) (cO (aH c2 hr (au (pv 2) ao)) (cO (aH c3 hr (au (pv 3) ao)) (fD (gW yt (aH c4 hr (au (pv 2) (au (pv 3) ao))) j9 (bf _))))))))),?_⟩;have fin:=q;unfold j6 at fin;refine aP ?_;refine⟨_,rfl,S,v,d,3,3,rfl,th,hz,λH1 s1=>⟨_,rfl,?_⟩⟩;cases e:bM d 3 3 with|false=>rw[e]at fin;exact bx (fin _ s1);|true=>rw[e]at fin;refine bA (cZ ?_);dsimp only;obtain⟨ds,rfl,l1,l2⟩:=nU e;have fh:=th.same s1;cases fh with|@tup a xs _ ea r=>
   obtain⟨v0,v1,v2,d0,d1,d2,rfl,rfl,h0,h1,h2⟩:=tM r (show ds.length=3 by lia);have z0:=gj (d:=d0) Ù hz;have z1:=gj (d:=d1) Ù hz;have z2:=gj (d:=d2) Ù hz;refine aN λc_ ae=>?_;refine⟨_,rfl,a,_,rfl,Î.of ea,rfl,_,_,rfl,_,_,rfl,_,_,rfl,rfl,?_⟩;refine ae _ _ ?_;clear ae c_;try dsimp only
   have fin:∀H',À H H'->Q (.bl (true&&(iR d0&&(fW d1&&(fX d2&&(un (Ü d1) (Ü d2)).isNone))))) H':=fin;refine⟨_,rfl,S,_,d0,rfl,h0,z0,λH2 s2=>⟨_,rfl,?_⟩⟩;cases e0:iR d0 with|false=>rw[e0]at fin;exact bA (fin _ (s1.trans s2));|true=>rw[e0]at fin;refine bx ?_;refine⟨_,rfl,S,_,d1,rfl,h1.same s2,z1,λH3 s3=>⟨_,rfl,?_⟩⟩;cases e1:fW d1 with|false=>rw[e1]at fin;exact bA (fin _ ((s1.trans s2).trans s3));|true=>rw[e1]at fin;refine bx ?_;refine⟨_,rfl,S,_,d2,rfl,h2.same (s2.trans s3),z2,λH4 s4=>⟨_,rfl,?_⟩⟩;cases e2:fX d2 with|false=>rw[e2]at fin;exact bA (fin _ (((s1.trans s2).trans s3).trans s4));|true=>rw[e2]at fin;refine bx ?_;have rj:=(s2.trans s3).trans s4;refine⟨_,rfl,_,rfl,S,_,d1,S,_,d2,rfl,h1.same rj,h2.same rj,e1,e2,z1,z2,λH5 s5=>⟨rfl,?_⟩⟩;have:=fin H5 (s1.trans (rj.trans s5));cases eu:un (Ü d1) (Ü d2)with|none=>rw[eu]at this;exact this;|some i=>rw[eu]at this;exact this
def ï(H:Hp)(xs:List V)(rs:UV):Prop:=xs.length=rs.length/\∀(i:Nat)(r:WF),rs[i]?=some r->∃t,xs[i]?=some (V.ref t)/\H t=some (.tup (r.map V.int))
theorem ï.keep(h:ï H xs rs)(k:∀b l,H b=some (.tup l)->H' b=some (.tup l)):ï H' xs rs:=⟨h.1,λi r e=>by obtain⟨t,e1,e2⟩:=h.2 i r e;exact⟨t,e1,k _ _ e2⟩⟩
theorem ï.same(h:ï H xs rs)(s:À H H'):ï H' xs rs:=h.keep λ_ _ e=>s _ _ e
theorem ï.nil:ï H [] []:=⟨rfl,λi r e=>by simp at e⟩
theorem ï.app(h:ï H xs rs)(g:ï H ys qs):ï H (xs++ys) (rs++qs):=by
 refine⟨by rw[õ,õ,h.1,g.1],λi r e=>?_⟩;by_cases hi:i<rs.length;.rw[zBd hi]at e;obtain⟨t,e1,e2⟩:=h.2 i r e;exact⟨t,by rw[zBd (by rw[h.1];exact hi)];exact e1,e2⟩
 .rw[zBc Â]at e;obtain⟨t,e1,e2⟩:=g.2 _ r e;exact⟨t,by rw[zBc (by rw[h.1];lia),h.1];exact e1,e2⟩
theorem ï.one{r:WF}(e:H t=some (.tup (r.map V.int))):ï H [.ref t] [r]:=⟨rfl,λi q e'=>by cases i with|zero=>rw[List.getElem?_cons_zero]at e';cases e';exact⟨t,rfl,e⟩;|succ i=>simp at e'⟩
theorem fY(h:r.length=4):r=[fl r 0,fl r 1,fl r 2,fl r 3]:=by match r,h with|[a,b,c,d],_=>rfl
theorem Gn{t:TS}{D:Ŕ}(h:∀D',(∀σ H,N σ H->D'.nx σ H)->t D' σ H):t {D with nx:=N,ct:=N,bk:=D.nx} σ H:=h _ λ_ _ z=>z
theorem dD{Fin:List V->Hp->Prop}(n:Nat)(Pv:Nat->List V->St->Hp->Prop)(h0:Pv 0 [] cS H0)(hz:n<sizeLine)(step:∀i ys σ H,i<n->ys.length=i->Pv i ys σ H->J.go i H/\∀x H',J.yld i H x H'->∀R:V->St->Hp->Prop,(∀y aI H4,Pv (i+1) (ys++[y]) aI H4->R y aI H4)->g x σ H' λaI H2=>te aI H2 λy H4=>R y aI H4)(fin:∀ys σ H,ys.length=n->Pv n ys σ H->J.stop n H/\Fin ys H):jY J g uC te Fin cS H0:=by
 refine⟨λi m ys σ H=>m=n-i/\i<=n/\ys.length=i/\Pv i ys σ H,⟨_,rfl,ĥ _,rfl,h0⟩,?_⟩;rintro i m ys σ H⟨rfl,hi,hy,p⟩;refine⟨Â,?_⟩;by_cases ax:i<n;.obtain⟨go,st⟩:=step i ys σ H ax hy p;exact .inr ⟨go,λx H' y=>st x H' y _ λy aI H4 p2=>⟨n-(i+1),Â,rfl,ax,by rw[õ,hy];rfl,p2⟩⟩
 .have e:i=n:=Â;subst e;exact .inl (fin ys σ H hy p)
def Ċ(rs:UV):WF:=rs.map λr=>fl r 3
def aU(rs:UV):Int:=(Ċ rs).sum
inductive Θ(vs:List V)(H:Hp)(Q:VK):Prop|mk:∀l xs rs,(vs=[.ref l])->(H l=some (.lst xs))->(ï H xs rs)->((∀r∈rs,r.length=4))->(rs.length<=8000000)->(∀H',À H H'->Q (.int (aU rs)) H')->Θ  vs H Q
def Bj:Sp:=λvs H Q _=>Θ  vs H Q
theorem ê:bootBuiltins "sum"=some (.builtin "sum"):=by decide+kernel
theorem nd4:(["due","number","holder","sacks"]:ó).Nodup:=by decide+kernel
theorem Qp:Ã ["rows"] ["rows"] (aD (top 54)):=ö
theorem Gp(F:ã K "sacks_of" "sacks_of" (top 54) f fd)(Ts:mg "sum"=none):Ñ P w K mg base ä 1 f fd ["rows"] Bj:=by
 refine F.oq Qp λai A outer s H vs Q E hr h=>?_;obtain⟨l,xs,rs,rfl,el,kq,h4,hz,q⟩:=h;refine⟨_,aF (aQ (aG (dB rfl) rfl Ts ê (au (bD (g:=lN K 4 (cN (bO 0) (cN (bO 1) (cN (bO 2) (cN (bO 3) mX))))) ["due","number","holder","sacks"] [none,none,none,none] rfl (dN (pv 0)) (λC fp Á s₂ Õ=>⟨fu rfl rfl (aA (Ö 0 nd4) (aA (Ö 1 nd4) (aA (Ö 2 nd4) (aA (Ö 3 nd4) aY)))),bG,pv 3⟩) (λC=>trivial) ⟨rfl,rfl,rfl,rfl⟩) ao))),?_⟩;refine⟨_,rfl,l,rfl,⟨_,Ê.of el⟩,dD rs.length (λi ys σ Hc=>À H Hc/\(∃o1 o2 o3 o4,σ=[o1,o2,o3,o4])/\ys=(Ċ (rs.take i)).map V.int) ⟨À.refl H,⟨_,_,_,_,rfl⟩,rfl⟩ ŷ ?_ ?_⟩;.rintro i ys σ Hc hi hy⟨s1,⟨o1,o2,o3,o4,rfl⟩,rfl⟩;obtain⟨t,ex,et⟩:=kq.2 i rs[i] (à hi);rw[fY (h4 _ (Ě hi))]at et;refine⟨⟨_,_,Ê.of (s1 _ _ el),ex⟩,λv H' y R hR=>?_⟩;obtain⟨rfl,y⟩:=y;have hv:=y _ (Ê.of (s1 _ _ el));rw[ex]at hv;cases hv;refine⟨t,_,rfl,Î.of (s1 _ _ et),rfl,_,_,rfl,_,_,rfl,_,_,rfl,_,_,rfl,rfl,_,rfl,hR _ _ _ ⟨s1,⟨_,_,_,_,rfl⟩,?_⟩⟩;unfold Ċ;rw[ī,à hi,ô,ô];rfl
 .rintro ys σ Hc hy⟨s1,_,rfl⟩;refine⟨⟨_,Ê.of (s1 _ _ el),by rw[kq.1];exact ß _⟩,λD hD=>?_⟩;rw[ł];exact⟨D,Ċ rs,rfl,.inl (Ê.of aj),q _ (s1.updR hD)⟩
end K51
open K51 (top bB items í bM ϧ Gb oZ ph gj dC Ĕ jX Mg Ò æ cH å aH gh ê dD sc1 jU)
namespace K51P
open PySem L2
structure Nums(mg:TX):Prop where many:∃t,mg "MOST_WEIGHTS"=some (.int 80 t)most:∃t,mg "MOST_WEIGHT"=some (.int 99 t)
def jE(d:PyData):Bool:=bM d 1 80&&(items d).all λx=>gh x 1 99
theorem é:bootBuiltins "sorted"=some (.builtin "sorted"):=by decide+kernel
theorem nd2(x y:Str)(h:x≠y):([x,y]:ó).Nodup:=by simp[h]
section
theorem Z06:Ã ["thing"] ["thing"] (aD (top 48)):=ö
theorem ok_are_weights(F:ã K "are_weights" "are_weights" (top 48) f fd)(T:Mg mg)(N:Nums mg)(c1:å P w K mg base 2 "is_whole_from" ["thing","least","most"] (jX gh))(c2:å P w K mg base 1 "is_tuple_of" ["thing","fewest","most"] (jX bM)):Ñ P w K mg base ä 4 f fd ["thing"] (Ĕ jE):=by refine F.oq Z06 λai A outer s H vs Q E hr h=>?_;obtain⟨S,v,d,rfl,th,hz,q⟩:=h;obtain⟨t3,e3⟩:=N.many;obtain⟨t4,e4⟩:=N.most;refine⟨_,aF (aQ (cO (aH c2 hr (aK (pv 0) (aK az (aK (cg (v:=.int 80) rfl e3 ⟨_,rfl⟩) ao)))) (fD (aG (dh rfl) rfl T.all æ (aK (bD ["part"] [none] rfl (dI (pv 0)) (λC fp Á s₂ Õ=>⟨bJ (i:=0) (ϧ _) rfl (Or.inl rfl),bG,aH c1 hr (aK (pv 0) (aK az (aK (cg (v:=.int 99) rfl e4 ⟨_,rfl⟩) ao)))⟩) (λC=>trivial) ⟨rfl,rfl,rfl,rfl⟩) ao))))),?_⟩;refine⟨_,rfl,S,v,d,1,80,rfl,th,hz,λH1 s1=>⟨_,rfl,?_⟩⟩;have fh:=th.same s1;have fin:=λH'(s:À H H')=>q H' s;unfold jE at fin;cases e:bM d 1 80 with|false=>rw[e]at fin;exact bA (fin _ s1);|true=>rw[e]at fin;refine bx ?_;cases fh with|@tup a xs ds ea r=>exact cH (λx=>gh x 1 99) rfl ea r (dC r hz) (λv d H2 Q2 hm s2 t2 q2=>⟨_,rfl,S,v,d,1,99,rfl,t2,gj hm hz,q2⟩) λH2 s2=>fin _ (s1.trans s2);|_=>cases e
end
section
theorem ix_tupK(hK:X.K=K):IxR X (Nt K):=by subst hK;exact bQ
end
section
end
theorem ok_b{R:TS->Prop}(h:BSs X body t)(q:R t):∃t,ľ X body t/\R t:=⟨t,h.run,q⟩
def rr(rs:WF)(i:Nat):Int:=rs.getD i 0
def eV(fs:WF)(pl:List Nat):WF:=pl.foldl (λl i=>l.set i (l.getD i 0+1)) fs
theorem qM(fs:WF)(pl:List Nat)(i:Nat):eV fs (pl++[i])=(eV fs pl).set i ((eV fs pl).getD i 0+1):=by unfold eV;rw[List.foldl_append];rfl
theorem jV:∀pl fs,(eV fs pl).length=fs.length|[],_=>rfl|i::pl,fs=>by show(eV (fs.set i _) pl).length=_;rw[jV pl,Za0]
def fs(n:Int)(ws:WF):WF:=ws.map λw=>n*w/ws.sum
def rs(n:Int)(ws:WF):WF:=ws.map λw=>n*w%ws.sum
def lf(n:Int)(ws:WF):Int:=n-(fs n ws).sum
def OkW(ws:WF):Prop:=1<=ws.length/\ws.length<=80/\∀w∈ws,1<=w/\w<=99
theorem v7:∀{l:WF},(∀a∈l,a<=B)->l.sum<=B*l.length|[],_=>by simp;|a::l,h=>by have h1:=v7 (B:=B) (l:=l) λb hb=>h b (.tail _ hb);have h2:=h a (.head _);rw[Ľ,ĳ,show B*((l.length+1:Nat):Int)=B*l.length+B by rw[Int.natCast_add,Int.mul_add];simp];lia
theorem nZ:∀{l:WF},(∀a∈l,0<=a)->0<=l.sum|[],_=>by simp;|a::l,h=>by have h1:=nZ (l:=l) λb hb=>h b (.tail _ hb);have h2:=h a (.head _);rw[Ľ];lia
theorem OkW.pos(h:OkW ws):1<=ws.sum:=by obtain⟨h1,_,h3⟩:=h;match ws,h1,h3 with
 |w::ws,_,h3=>
  have:=nZ (l:=ws) λa ha=>by have:=h3 a (.tail _ ha);lia
  have:=h3 w (.head _);rw[Ľ];lia
theorem OkW.top(h:OkW ws):ws.sum<=7920:=by have h1:=v7 (B:=99) λa ha=>(h.2.2 a ha).2;have:=h.2.1;lia
theorem divs(n T:Int):∀ws:WF,T*(ws.map λw=>n*w/T).sum+(ws.map λw=>n*w%T).sum=n*ws.sum|[]=>by simp;|w::ws=>by have h1:=divs n T ws;have h2:=Int.mul_ediv_add_emod (n*w) T;simp only[List.map_cons,List.sum_cons,Int.mul_add];lia
theorem Mf(n:Int)(ws:WF):ws.sum*lf n ws=(rs n ws).sum:=by have h:=divs n ws.sum ws;unfold lf fs rs;rw[Int.mul_sub,Int.mul_comm ws.sum n];lia
theorem Om(h:OkW ws):∀r∈rs n ws,0<=r:=λr hr=>by obtain⟨w,_,rfl⟩:=ñ.mp hr;have:=h.pos;exact Zbi _ Â
theorem Oo(h:OkW ws):∀r∈rs n ws,r<=ws.sum:=λr hr=>by obtain⟨w,_,rfl⟩:=ñ.mp hr;have:=h.pos;exact Int.le_of_lt (Za5 _ Â)
theorem qN(n:Int)(ws:WF):(fs n ws).length=ws.length:=Ø _
theorem yX(n:Int)(ws:WF):(rs n ws).length=ws.length:=Ø _
theorem Bl(h:OkW ws):0<=lf n ws:=by have h1:=Mf n ws;have h2:=nZ (Om (n:=n) h);have h3:=h.pos;refine Int.le_of_not_gt λc=>?_;have:=Za4 (c:=ws.sum) (show lf n ws<=-1 by lia) Â;lia
theorem Kp(h:OkW ws):lf n ws<=ws.length:=by have h1:=Mf n ws;have h2:=v7 (Oo (n:=n) h);rw[yX]at h2;have h3:=h.pos;refine Int.le_of_not_gt λc=>?_;have:=Za4 (c:=ws.sum) (show(ws.length:Int)+1<=lf n ws by lia) Â;rw[Int.mul_add]at this;lia
theorem Mj(h:OkW ws):lf ws.sum ws=0:=by
 have h1:=Mf ws.sum ws;have h2:(rs ws.sum ws).sum<=0:=by
  have:=v7 (B:=0) (l:=rs ws.sum ws) λr hr=>by obtain⟨w,_,rfl⟩:=ñ.mp hr;rw[Int.mul_emod_right];exact ϵ _
  lia
 have h3:=h.pos;have h4:=Bl (n:=ws.sum) h;refine Int.le_antisymm (Int.le_of_not_gt λc=>?_) h4;have:=Za4 (c:=ws.sum) (show 1<=lf ws.sum ws by lia) Â;lia
theorem tU:∀pl l i,i<l.length->(eV l pl).getD i 0=l.getD i 0+pl.count i
 |[],l,i,_=>by simp[eV];|j::pl,l,i,h=>by
  show(eV (l.set j (l.getD j 0+1)) pl).getD i 0=_;rw[tU pl _ i (by rw[Za0];exact h),List.count_cons];by_cases e:j=i;.subst e;rw[Ĭ,Zay h,Option.getD_some,beq_self_eq_true,Í rfl];lia
  .rw[Ĭ,List.getElem?_set_ne e,<-Ĭ,Ë (by simp[e])];lia
structure PtOk(n:Int)(ws ps:WF):Prop where
 len:ps.length=ws.length
 sum:ps.sum=n
 bd:∀{i:Nat}{r w:Int},ps[i]?=some r->ws[i]?=some w->0<=r/\r<=w
theorem Ģ:∀{l:WF}{i:Nat}{v:Int},i<l.length->(l.set i v).sum=l.sum-l.getD i 0+v|[],_,_,h=>absurd h (Za7 _)|a::l,0,v,_=>by rw[List.set_cons_zero,Ľ,Ľ];show v+l.sum=a+l.sum-a+v;lia;|a::l,i+1,v,h=>by have:=Ģ (l:=l) (i:=i) (v:=v) (Nat.lt_of_succ_lt_succ h);rw[List.set_cons_succ,Ľ,Ľ,this];show a+(l.sum-l.getD i 0+v)=a+l.sum-l.getD i 0+v;lia
theorem tV:∀pl l,(∀i∈pl,i<l.length)->(eV l pl).sum=l.sum+pl.length
 |[],l,_=>by show l.sum=l.sum+((0:Nat):Int);lia;|i::pl,l,h=>by
  have:=tV pl (l.set i (l.getD i 0+1)) λj hj=>by rw[Za0];exact h j (.tail _ hj)
  show(eV (l.set i (l.getD i 0+1)) pl).sum=_;rw[this,Ģ (h i (.head _)),ĳ];lia
theorem Kq(ok:OkW ws)(n0:0<=n)(n1:n<=ws.sum)(nd:pk.Nodup)(lt:∀i∈pk,i<ws.length)(hl:pk.length=(lf n ws).toNat):PtOk n ws (eV (fs n ws) pk):=by
 have hp:=ok.pos;refine⟨by rw[jV,qN],?_,λ{i r w}hr hw=>?_⟩
 .have:=tV pk (fs n ws) λi hi=>by rw[qN];exact lt i hi
  have l0:=Bl (n:=n) ok;have e:lf n ws=n-(fs n ws).sum:=rfl;lia
 .have hi:i<ws.length:=(ĵ.mp hw).1;have g:=tU pk (fs n ws) i (by rw[qN];exact hi);rw[Ĭ,hr]at g;have ef:(fs n ws).getD i 0=n*w/ws.sum:=by unfold fs;rw[Ĭ,ċ,hw];rfl
  rw[ef]at g;have g:r=n*w/ws.sum+((pk.count i:Nat):Int):=g;have w1:=ok.2.2 w (ŕ hw);have c1:pk.count i<=1:=List.nodup_iff_count.mp nd i;have q0:0<=n*w/ws.sum:=Int.ediv_nonneg (Int.mul_nonneg n0 Â) Â;have q1:n*w/ws.sum<=w:=by refine Int.ediv_le_of_le_mul Â ?_;rw[Int.mul_comm w];exact Int.mul_le_mul_of_nonneg_right n1 Â
  by_cases c0:pk.count i=0;.rw[c0]at g;lia
  .have pos:0<pk.length:=List.length_pos_of_mem (a:=i) (List.count_pos_iff.mp (Nat.pos_of_ne_zero c0));have ne:n≠ws.sum:=λz=>by rw[z,Mj ok]at hl;have:pk.length=0:=hl;lia
   have q2:n*w/ws.sum<w:=by refine Int.ediv_lt_of_lt_mul Â ?_;rw[Int.mul_comm w];exact Int.mul_lt_mul_of_pos_right Â Â
   lia
theorem tW{ws:WF}{Fin:List V->Hp->Prop}(f:Int->Int)(ep:H0 p=some (.tup (ws.map V.int)))(hl:ws.length<sizeLine)(kF:∀z Q,z∈ws->Q (.int (f z)) H0->te (cS.set 0 (some (.int z))) H0 Q)(fin:Fin ((ws.map f).map V.int) H0):jY (Itt K p) (bO 0) uC te Fin cS H0:=by
 refine dD ws.length (λi ys σ H=>H=H0/\(∀o,σ.set 0 o=cS.set 0 o)/\ys=((ws.take i).map f).map V.int) ⟨rfl,λ_=>rfl,rfl⟩ hl ?_ ?_
 .rintro i ys σ H hi hy⟨rfl,fA,rfl⟩;have hz:(ws.map V.int)[i]?=some (.int ws[i]):=by rw[ċ,à hi];rfl
  refine⟨⟨_,_,Î.of ep,hz⟩,λv H' y' R hR=>?_⟩;obtain⟨rfl,y'⟩:=y';have hv:=y' _ (Î.of ep);rw[hz]at hv;cases hv;show te (σ.set 0 (some (.int ws[i]))) _ _;rw[fA];refine kF ws[i] _ (Ě hi) (hR _ _ _ ⟨rfl,λo=>by rw[List.set_set],?_⟩);rw[ī,à hi,ô,ô];rfl
 .rintro ys σ H hy⟨rfl,fA,rfl⟩;refine⟨⟨_,Î.of ep,by rw[Ø];exact ß _⟩,?_⟩;rw[ł];exact fin
def wD(ws:WF):PyData:=.tuple (ws.map PyData.int)
theorem xJ:∀(r:WF),ù (r.map PyData.int)=r.length|[]=>rfl|_::r=>by show 1+ù (r.map PyData.int)=r.length+1;rw[xJ r,Nat.add_comm]
theorem Qq(ws:WF):sz (wD ws)=1+ws.length:=by show 1+ù (ws.map PyData.int)=_;rw[xJ]
theorem Qs(h:OkW ws):jE (wD ws)=true:=by
 unfold jE;rw[ġ];refine⟨?_,ō.mpr λd hd=>?_⟩;.show(true&&(decide (1<=((ws.map PyData.int).length:Int))&&decide (((ws.map PyData.int).length:Int)<=80)))=true;have h1:=h.1;have h2:=h.2.1;rw[Ø,ð Â,ð Â];rfl
 .obtain⟨w,hw,rfl⟩:=ñ.mp hd;have:=h.2.2 w hw;show(true&&(decide (1<=w)&&decide (w<=99)))=true;rw[ð this.1,ð this.2];rfl
inductive Ť(vs:List V)(H:Hp)(Q:VK):Prop|mk:∀n p ws,(vs=[.int n,.ref p])->(H p=some (.tup (ws.map V.int)))->(OkW ws)->(0<=n)->(n<=ws.sum)->(∀H',À H H'->Q .non H')->Ť  vs H Q
def xK:Sp:=λvs H Q _=>Ť  vs H Q
inductive Ŧ(vs:List V)(H:Hp)(Q:VK):Prop|mk:∀p rests,(vs=[.ref p])->(H p=some (.lst ((rests:WF).map V.int)))->(rests.length<sizeLine)->(∀H' q(pl:List Nat),pl.Perm (List.range rests.length)->À H H'->H q=none->H' q=some (.lst (pl.map λj:Nat=>V.int (j:Int)))->Q (.ref q) H')->Ŧ  vs H Q
def xM:Sp:=λvs H Q _=>Ŧ  vs H Q
inductive Ι(vs:List V)(H:Hp)(Q:VK):Prop|mk:∀n p ws,(vs=[.int n,.ref p])->(H p=some (.tup (ws.map V.int)))->(OkW ws)->(0<=n)->(n<=ws.sum)->(∀H' q ps,PtOk n ws ps->À H H'->H' q=some (.tup (ps.map V.int))->Q (.ref q) H')->Ι  vs H Q
def spParts:Sp:=λvs H Q _=>Ι  vs H Q
def dX(H:Hp)(a:Addr):Nat:=match H a with|some (.tup [_,.int y])=>y.toNat|_=>0
def ħ(H:Hp)(a:Addr):WF:=match H a with|some (.tup [.int x,.int y])=>[x,y]|_=>[]
theorem Oq(h:rests[i]?=some x):rr rests i=x:=by unfold rr;rw[Ĭ,h];rfl
section
theorem Qt:Ã ["sacks","weights"] ["sacks","weights"] (aD (top 49)):=ö
theorem ok_refuse(F:ã K "refuse_unpartable" "refuse_unpartable" (top 49) f fd)(Ts:mg "sum"=none)(c1:å P w K mg base 4 "are_weights" ["thing"] (Ĕ jE))(c2:å P w K mg base 2 "is_whole_from" ["thing","least","most"] (jX gh)):Ñ P w K mg base ä 5 f fd ["sacks","weights"] xK:=by
 refine F.oq Qt λai A outer s H vs Q E hr h=>?_;obtain⟨n,p,ws,rfl,ep,ok,n0,n1,q⟩:=h;refine⟨_,aC (bU (bH (cA (aH c1 hr (aK (pv 1) ao)))) (aF lM) bj) (aF (bU (bH (cA (aH c2 hr (aK (pv 0) (aK az (aK (aG (dB rfl) rfl Ts ê (au (pv 1) ao)) ao)))))) (aF lM) bj)),?_⟩;refine aN λc_ ae=>?_;refine⟨_,rfl,λ_=>False,_,wD ws,rfl,.tup ep (Ä.ints ws),by rw[Qq];have:=ok.2.1;lia,λH1 s1=>⟨_,rfl,?_⟩⟩;rw[Qs ok];refine bA ?_;refine ae _ _ ?_;clear ae c_;try dsimp only
 refine⟨_,rfl,_,rfl,p,ws,rfl,.inr (Î.of (s1 _ _ ep)),λ_=>False,_,.int n,0,_,rfl,.int n,(by show 1<=4000;decide),λH2 s2=>⟨_,rfl,?_⟩⟩;have e:gh (.int n) 0 ws.sum=true:=by show(true&&(decide (0<=n)&&decide (n<=ws.sum)))=true;rw[ð n0,ð n1];rfl
 rw[e];exact bA (q H2 (s1.trans s2))
theorem Z07:Ã ["rests","ranked"] ["rests"] (aD (top 50)):=ö
theorem ok_places(F:ã K "places_by_rest" "places_by_rest" (top 50) f fd)(Te:mg "enumerate"=none)(Ts:mg "sorted"=none):Ñ P w K mg base ä 1 f fd ["rests"] xM:=by
 refine F.oq Z07 λai A outer s H vs Q E hr h=>?_;obtain⟨p,rests,rfl,ep,hz,q⟩:=h;refine⟨_,aC (ĕ 1 Z07.nd (aG jj rfl Ts é (au (bD (g:=lN K 2 (cN (bO 0) (cN (bO 1) mX))) ["at","rest"] [none,none] rfl (ZT.pi_enum false rfl Te (au (pv 0) ao)) (λC fp Á s₂ Õ=>⟨fu rfl rfl (aA (bJ (i:=0) (nd2 _ _ Û) rfl (Or.inl rfl) (Or.inr rfl)) (aA (bJ (i:=1) (nd2 _ _ Û) rfl (Or.inl rfl) (Or.inr rfl)) aY)),bG,bW (au (rY nA (pv 1)) (au (pv 0) ao))⟩) (λC=>trivial) ⟨rfl,rfl,rfl,rfl⟩) ao))) (aF (aQ (bD (g:=lN K 2 (cN (bO 0) (cN (bO 1) mX))) ["minus","at"] [none,none] rfl (dN (pv 1)) (λC fp Á s₂ Õ=>⟨fu rfl rfl (aA (bJ (i:=0) (nd2 _ _ Û) rfl (Or.inl rfl) (Or.inr rfl)) (aA (bJ (i:=1) (nd2 _ _ Û) rfl (Or.inl rfl) (Or.inr rfl)) aY)),bG,pv 1⟩) (λC=>trivial) ⟨rfl,rfl,rfl,rfl⟩))),?_⟩;refine aP ?_;refine⟨_,rfl,p,_,rfl,Ê.of ep,dD rests.length (λi ys σ Hc=>À H Hc/\(∃o1 o2,σ=[o1,o2])/\∃ts:Č,ys=ts.map V.ref/\∀j,j<i->∃a,ts[j]?=some a/\Hc a=some (.tup [.int (-(rr rests j)),.int (j:Int)])) ⟨À.refl H,⟨_,_,rfl⟩,[],rfl,λj hj=>absurd hj (Za7 _)⟩ hz ?_ ?_⟩
 .rintro i ys σ Hc hi hy⟨s1,⟨o1,o2,rfl⟩,ts,rfl,mm⟩;rw[Ø]at hy;have kr:Ê K Hc p (rests.map V.int):=Ê.of (s1 _ _ ep);have hx:(rests.map V.int)[i]?=some (.int (rr rests i)):=by rw[ċ,à hi,Oq (à hi)];rfl
  refine⟨⟨_,_,kr,hx⟩,λv H' y R hR=>?_⟩;obtain⟨T,nT,rfl,y⟩:=y;obtain⟨x',cq,rfl⟩:=y _ kr;rw[hx]at cq;cases cq;have s2:=s1.updR (o:=.tup [.int (i:Int),.int (rr rests i)]) nT;refine⟨T,_,rfl,Î.of aj,rfl,_,_,rfl,_,_,rfl,rfl,_,rfl,rr rests i,rfl,_,rfl,zL,λt ht=>?_⟩;refine hR _ _ _ ⟨s2.updR ht,⟨_,_,rfl⟩,ts++[t],by rw[ô];rfl,λj hj=>?_⟩;by_cases e:j<i;.obtain⟨a,h1,h2⟩:=mm j e;refine⟨a,by rw[zBd Â];exact h1,?_⟩;exact À.upd ht _ _ (À.upd nT _ _ h2)
  .have e:j=i:=Â;subst e;refine⟨t,by rw[zBc Â,hy,Nat.sub_self];rfl,aj⟩
 .rintro ys σ Hc hy⟨s1,_,ts,rfl,mm⟩;rw[Ø]at hy;refine⟨⟨_,Ê.of (s1 _ _ ep),by rw[Ø];exact ß _⟩,λD hD=>?_⟩;have s2:=s1.updR (o:=.lst (ts.map V.ref)) hD;have hU:∀j,j<rests.length->∃a,ts[j]?=some a/\upd Hc D (.lst (ts.map V.ref)) a=some (.tup [.int (-(rr rests j)),.int (j:Int)]):=λj hj=>by obtain⟨a,h1,h2⟩:=mm j hj;exact⟨a,h1,À.upd hD _ _ h2⟩
  have eD:=aj (H:=Hc) (a:=D) (o:=.lst (ts.map V.ref));generalize upd Hc D (.lst (ts.map V.ref))=H2 at s2 hU eD⊢;clear mm hD s1;have uk:∀a∈ts,∃j,j<rests.length/\H2 a=some (.tup [.int (-(rr rests j)),.int (j:Int)]):=λa ha=>by obtain⟨j,hj,e⟩:=Zao ha;obtain⟨b,h1,h2⟩:=hU j Â;rw[à hj]at h1;injection h1 with h1;refine⟨j,Â,?_⟩;rw[<-e,h1];exact h2
  refine⟨D,ts,ħ H2,rfl,Ê.of eD,λa ha=>?_,λq' l' hq pm=>?_⟩
  .obtain⟨j,hj,e⟩:=uk a ha;have er:ħ H2 a=[-(rr rests j),(j:Int)]:=by unfold ħ;rw[e]
   rw[er];exact⟨Î.of e,by simp⟩
  have yY:∀a∈l',∃j,j<rests.length/\H2 a=some (.tup [.int (-(rr rests j)),.int (j:Int)]):=λa ha=>uk a (pm.mem_iff.mp ha);have sn:∀a∈l',H2 a=some (.tup [.int (-(rr rests (dX H2 a))),.int (dX H2 a:Int)])/\ħ H2 a=[-(rr rests (dX H2 a)),(dX H2 a:Int)]:=λa ha=>by
   obtain⟨j,hj,e⟩:=yY a ha;have er:ħ H2 a=[-(rr rests j),(j:Int)]:=by unfold ħ;rw[e]
   have es:dX H2 a=j:=by unfold dX;rw[e];exact ś j
   rw[er,es];exact⟨e,rfl⟩
  have ord:(l'.map (dX H2)).Perm (List.range rests.length):=by
   refine(pm.map _).trans (List.Perm.of_eq (List.ext_getElem? λj=>?_));by_cases hj:j<rests.length;.obtain⟨a,h1,h2⟩:=hU j hj;rw[ċ,h1,Zbh hj];show some (dX H2 a)=some j;unfold dX;rw[h2];exact congrArg some (ś j)
   .rw[Zaj (by rw[Ø];lia),Zaj (by rw[List.length_range];lia)]
  have s3:=s2.updR (o:=.lst (l'.map V.ref)) hq;have U4:l'.length=rests.length:=by rw[pm.length_eq,hy]
  have rl:=aj (H:=H2) (a:=q') (o:=.lst (l'.map V.ref));have uu:∀a∈l',upd H2 q' (.lst (l'.map V.ref)) a=some (.tup [.int (-(rr rests (dX H2 a))),.int (dX H2 a:Int)]):=λa ha=>À.upd hq _ _ (sn a ha).1;generalize dX H2=sd at ord uu;generalize upd H2 q' (.lst (l'.map V.ref))=H3 at s3 rl uu⊢;dsimp only;refine uN ?_;refine⟨_,rfl,q',rfl,⟨_,Ê.of rl⟩,dD rests.length (λi ys σ Hc=>À H3 Hc/\(∃o1 o2,σ=[o1,o2])/\ys=((l'.take i).map sd).map λj:Nat=>V.int (j:Int)) ⟨À.refl H3,⟨_,_,rfl⟩,rfl⟩ hz ?_ ?_⟩
  .rintro i ys σ Hc hi hy⟨s4,⟨o1,o2,rfl⟩,rfl⟩;have tN:i<l'.length:=Â;have hu:(l'.map V.ref)[i]?=some (.ref l'[i]):=by rw[ċ,à tN];rfl
   refine⟨⟨_,_,Ê.of (s4 _ _ rl),hu⟩,λv H' y R hR=>?_⟩;obtain⟨rfl,y⟩:=y;have hv:=y _ (Ê.of (s4 _ _ rl));rw[hu]at hv;cases hv;refine⟨l'[i],_,rfl,Î.of (s4 _ _ (uu _ (Ě tN))),rfl,_,_,rfl,_,_,rfl,rfl,_,rfl,hR _ _ _ ⟨s4,⟨_,_,rfl⟩,?_⟩⟩;rw[ī,à tN,ô,ô];rfl
  .rintro ys σ Hc AY⟨s4,_,rfl⟩;refine⟨⟨_,Ê.of (s4 _ _ rl),by rw[Ø];lia⟩,λD' PU=>?_⟩;have s5:=s3.trans s4;have hn:H D'=none:=s5.free PU;refine q _ D' _ ord (s5.updR PU) hn ?_;rw[aj,Ϭ Â]
end
end K51P
open K51 (il)
namespace K51P
open PySem L2
theorem Bm(h:j<n):υ n (j:Int)=some j:=by unfold υ;rw[Í Â,Í Â,ś]
theorem Gq(ok:OkW ws):ws.length<sizeLine:=by have:=ok.2.1;rw[sizeLine_eq];lia
section
theorem Ot:(["weight","sacks","together"]:ó).Nodup:=by decide+kernel
theorem Γ:Ã ["sacks","weights","together","parts","rests","left","at"] ["sacks","weights"] (aD (top 51)):=ö
theorem ok_parts(F:ã K "parts_of" "parts_of" (top 51) f fd)(T:Mg mg)(Ts:mg "sum"=none)(c1:å P w K mg base 1 "places_by_rest" ["rests"] xM):Ñ P w K mg base ä 2 f fd ["sacks","weights"] spParts:=by
 refine F.oq Γ λai A outer s H vs Q E hr h=>?_;obtain⟨n,p,ws,rfl,ep,ok,n0,n1,q⟩:=h;refine⟨_,aC (mZ (i:=2) Γ.nd rfl (Or.inr rfl) (aG (dB rfl) rfl Ts ê (au (pv 1) ao))) (aC (jd (i:=3) ["weight","sacks","together"] [none,some 0,some 2] rfl Γ.nd rfl (Or.inl rfl) (dI (pv 1)) (λC fp Á s₂ Õ=>⟨Ö 0 Ot,bG,aV jN (aV gP (pv 1) (pv 0)) (pv 2)⟩) (λC=>cI (cI trivial)) ⟨rfl,rfl,rfl,rfl⟩) (aC (jd (i:=4) ["weight","sacks","together"] [none,some 0,some 2] rfl Γ.nd rfl (Or.inl rfl) (dI (pv 1)) (λC fp Á s₂ Õ=>⟨Ö 0 Ot,bG,aV iJ (aV gP (pv 1) (pv 0)) (pv 2)⟩) (λC=>cI (cI trivial)) ⟨rfl,rfl,rfl,rfl⟩) (aC (ĕ 5 Γ.nd (aV dG (pv 0) (aG (dB rfl) rfl Ts ê (au (pv 3) ao)))) (aC (cP Ĺ rfl (dN (pP zU (aH c1 hr (au (pv 4) ao)) ur (ut (pv 5)))) (Ö 6 Γ.nd) (aF (uo (pv 3) (pv 6) jU az Ej ă))) (aF (aQ (bN bR rfl T.tuple Ò (au (pv 3) ao)))))))),?_⟩;have hp:=ok.pos;have ht:=ok.top;have uS:=Gq ok;refine aN λc_ ae=>?_;refine⟨_,rfl,p,ws,rfl,.inr (Î.of ep),?_⟩;refine ae _ _ ?_;clear ae c_;try dsimp only
 refine aN λc_ ae=>?_;refine⟨_,rfl,p,rfl,⟨_,Î.of ep⟩,tW (λz=>n*z/ws.sum) ep uS (λz Q hz h=>⟨_,rfl,_,rfl,_,_,rfl,rfl,.inl ⟨Â,Â⟩,_,rfl,_,_,rfl,rfl,⟨Â,Â⟩,h⟩) ?_⟩;rw[show ws.map (λz=>n*z/ws.sum)=fs n ws from rfl];intro l1 ej;have s1:=À.upd (o:=.lst ((fs n ws).map V.int)) ej;have ń:=aj (H:=H) (a:=l1) (o:=.lst ((fs n ws).map V.int));generalize upd H l1 _=H1 at s1 ń⊢;refine ae _ _ ?_;clear ae c_;try dsimp only
 refine aN λc_ ae=>?_;refine⟨_,rfl,p,rfl,⟨_,Î.of (s1 _ _ ep)⟩,tW (λz=>n*z%ws.sum) (s1 _ _ ep) uS (λz Q hz h=>⟨_,rfl,_,rfl,_,_,rfl,rfl,.inl ⟨Â,Â⟩,_,rfl,_,_,rfl,rfl,(by show 0<ws.sum;lia),h⟩) ?_⟩;rw[show ws.map (λz=>n*z%ws.sum)=rs n ws from rfl];intro l2 eR;have s2:=s1.updR (o:=.lst ((rs n ws).map V.int)) eR;have χ:=aj (H:=H1) (a:=l2) (o:=.lst ((rs n ws).map V.int));have mE:=À.upd (o:=.lst ((rs n ws).map V.int)) eR _ _ ń;have y9:H l1=none:=ej;clear ej eR;generalize upd H1 l2 _=H2 at s2 χ mE⊢;clear ń s1;refine ae _ _ ?_;clear ae c_;try dsimp only
 refine aN λc_ ae=>?_;refine⟨_,rfl,_,rfl,l1,fs n ws,rfl,.inl (Ê.of mE),_,_,rfl,rfl,?_⟩;show _;refine ae _ _ ?_;clear ae c_;try dsimp only
 rw[show n-(fs n ws).sum=lf n ws from rfl];refine aP ?_;refine⟨_,rfl,l2,rs n ws,rfl,χ,by rw[yX];exact uS,λH3 l3 pl ord s3 D9 el3=>⟨_,rfl,_,rfl,l3,_,rfl,Ê.of el3,λl4 fx=>⟨l4,rfl,⟨_,Ê.of aj⟩,?_⟩⟩⟩;have U5:=Bl (n:=n) ok;have U6:=Kp (n:=n) ok;rw[yX]at ord;have U7:=ord.length_eq;rw[List.length_range]at U7;have zh:pQ (pl.map λj:Nat=>V.int (j:Int)) none (some (lf n ws))=(pl.take (lf n ws).toNat).map λj:Nat=>V.int (j:Int):=by rw[List.map_take,<-il (i:=(lf n ws).toNat) (by rw[Ø];lia),show((lf n ws).toNat:Int)=lf n ws by lia]
 rw[zh];have inr:∀j∈pl.take (lf n ws).toNat,j<ws.length:=λj hj=>Ϣ.mp (ord.mem_iff.mp (Zaq hj));have fin:=Kq ok n0 n1 ((ord.nodup_iff.mpr List.nodup_range).sublist (List.take_sublist _ _)) inr (by rw[Ĵ];lia);generalize pl.take (lf n ws).toNat=pk at fin inr fx⊢;have s4:=(s2.trans s3).updR (o:=.lst (pk.map λj:Nat=>V.int (j:Int))) fx;have el4:=aj (H:=H3) (a:=l4) (o:=.lst (pk.map λj:Nat=>V.int (j:Int)));have mM:=À.upd (o:=.lst (pk.map λj:Nat=>V.int (j:Int))) fx _ _ (s3 _ _ mE);have n14:l4≠l1:=λz=>by rw[z,s3 _ _ mE]at fx;cases fx
 generalize upd H3 l4 (.lst (pk.map λj:Nat=>V.int (j:Int)))=H4 at s4 el4 mM⊢;clear fx el3 D9 s3 mE χ s2;refine iV (xs:=pk.map λj:Nat=>V.int (j:Int)) (λi σ Hc=>∃o6,σ=[some (.int n),some (.ref p),some (.int ws.sum),some (.ref l1),some (.ref l2),some (.int (lf n ws)),o6]/\À H Hc/\Hc l4=some (.lst (pk.map λj:Nat=>V.int (j:Int)))/\Hc l1=some (.lst ((eV (fs n ws) (pk.take i)).map V.int))) ?_ ?_ ?_ ?_;.exact⟨none,rfl,s4,el4,mM⟩
 .rintro i σ Hc hi⟨o6,rfl,s5,e4,e1⟩;exact Ê.of e4
 .rintro i v σ Hc hv⟨o6,rfl,s5,e4,e1⟩;rw[ċ]at hv;cases hj:pk[i]? with|none=>rw[hj]at hv;cases hv;|some j=>
   rw[hj]at hv;cases hv;refine aJ ?_;have kp:∀o,À H (upd Hc l1 o):=λo b u e=>by rw[aq (aB e y9)];exact s5 _ _ e
   have ax:j<(eV (fs n ws) (pk.take i)).length:=by rw[jV,qN];exact inr j (ŕ hj)
   have hx:((eV (fs n ws) (pk.take i)).map V.int)[((j:Nat):Int).toNat]?=some (.int ((eV (fs n ws) (pk.take i)).getD j 0)):=by rw[ś,ċ,à ax,Ĭ,à ax];rfl
   refine⟨_,rfl,_,rfl,l1,_,(j:Int),_,rfl,rfl,Ê.of e1,Â,hx,_,_,rfl,rfl,l1,_,(j:Int),j,rfl,rfl,e1,Bm (by rw[Ø];exact ax),?_⟩;refine⟨_,rfl,kp _,by rw[aq n14];exact e4,?_⟩;rw[aj,ī,hj];show _=some (HO.lst ((eV (fs n ws) (pk.take i++[j])).map V.int));rw[qM,List.map_set]
 .rintro σ Hc⟨o6,rfl,s5,e4,e1⟩;rw[Ø,ł]at e1;dsimp only;refine uN ?_;exact⟨_,rfl,l1,_,rfl,.inl ⟨Ê.of e1,λt ht=>q _ t _ fin (s5.updR ht) aj⟩⟩
theorem Ű:Ã ["sacks","weights"] ["sacks","weights"] (aD (top 52)):=ö
theorem ok_parted(F:ã K "parted" "parted" (top 52) f fd)(c1:å P w K mg base 5 "refuse_unpartable" ["sacks","weights"] xK)(c2:å P w K mg base 2 "parts_of" ["sacks","weights"] spParts):Ñ P w K mg base ä 6 f fd ["sacks","weights"] spParts:=by
 refine F.oq Ű λai A outer s H vs Q E hr h=>?_;obtain⟨n,p,ws,rfl,ep,ok,n0,n1,q⟩:=h;refine⟨_,aC (cB (aH c1 hr (au (pv 0) (au (pv 1) ao)))) (aF (aQ (aH c2 hr (au (pv 0) (au (pv 1) ao))))),?_⟩;refine aN λc_ ae=>?_;refine⟨_,rfl,_,rfl,n,p,ws,rfl,ep,ok,n0,n1,λH1 s1=>?_⟩;refine ae _ _ ?_;clear ae c_;try dsimp only
 refine uN ?_;exact⟨_,rfl,_,rfl,n,p,ws,rfl,s1 _ _ ep,ok,n0,n1,λH2 t ps pk s2 et=>q H2 t ps pk (s1.trans s2) et⟩
end
end K51P
namespace K51
open PySem L2
def bI:Int->UV->WF|_,[]=>[]|w,r::rs=>(if w<fl r 3 then w else fl r 3)::bI (w-(if w<fl r 3 then w else fl r 3)) rs
theorem ir:∀w rs r,bI w (rs++[r])=bI w rs++[if w-(bI w rs).sum<fl r 3 then w-(bI w rs).sum else fl r 3]|w,[],r=>by show[_]=[_];rw[show(bI w []).sum=0 from rfl,Int.sub_zero];|w,q::rs,r=>by rw[List.cons_append];unfold bI;rw[ir _ rs r,List.cons_append,Ľ,show∀a b c:Int,a-b-c=a-(b+c)from λa b c=>by lia]
theorem gZ:∀w rs,(bI w rs).length=rs.length|_,[]=>rfl|w,r::rs=>by unfold bI;rw[ĳ,ĳ,gZ]
theorem iu:∀{rs:UV},(∀r∈rs,0<=fl r 3)->0<=aU rs|[],_=>ϵ _|r::rs,h=>Int.add_nonneg (h r (.head _)) (iu λq hq=>h q (.tail _ hq))
structure Ő(w:Int)(rs:UV)(sh:WF):Prop where
 len:sh.length=rs.length
 sum:sh.sum=min w (aU rs)bd:∀p∈rs.zip sh,0<=p.2/\p.2<=fl p.1 3
theorem Gr:∀{w:Int}{rs:UV},0<=w->(∀r∈rs,0<=fl r 3)->Ő w rs (bI w rs)
 |w,[],h,_=>⟨rfl,by show 0=min w 0;lia,λp hp=>nomatch hp⟩|w,r::rs,h,hr=>by
  have h3:=hr r (.head _);have hn:=iu λq hq=>hr q (.tail _ hq);obtain⟨x,hx⟩:∃x,x=if w<fl r 3 then w else fl r 3:=⟨_,rfl⟩;have hb:0<=x/\x<=fl r 3/\x<=w/\(x=w\/x=fl r 3):=by split at hx<;>lia
  obtain⟨a,b,c⟩:=Gr (w:=w-x) (rs:=rs) Â λq hq=>hr q (.tail _ hq);have e:bI w (r::rs)=x::bI (w-x) rs:=by rw[hx];rfl
  have es:aU (r::rs)=fl r 3+aU rs:=rfl;rw[e];refine⟨by rw[ĳ,ĳ,a],by rw[Ľ,b,es];lia,λp hp=>?_⟩;rcases ĩ.mp hp with z|z;.rw[z];exact⟨hb.1,hb.2.1⟩
  .exact c p z
theorem Gs{rs:UV}(h:∀r∈rs,0<=fl r 3)(hs:(Ċ rs).sum<=w):Ő w rs (Ċ rs):=by refine⟨Ø _,by show(Ċ rs).sum=min w (Ċ rs).sum;lia,λp hp=>?_⟩;obtain⟨i,hi,rfl⟩:=Zao hp;rw[List.getElem_zip];have:(Ċ rs)[i]'(by rw[Ž]at hi;lia)=fl (rs[i]'(by rw[Ž]at hi;lia)) 3:=List.getElem_map _;show 0<=(Ċ rs)[i]'_/\(Ċ rs)[i]'_<=_;rw[this];exact⟨h _ (Ě _),ϵ _⟩
theorem Kr(h:K51P.PtOk w (Ċ rs) ps)(hs:w<=(Ċ rs).sum):Ő w rs ps:=by have hl:ps.length=rs.length:=h.len.trans (Ø _);refine⟨hl,by rw[h.sum];show w=min w (Ċ rs).sum;lia,λp hp=>?_⟩;obtain⟨i,hi,rfl⟩:=Zao hp;rw[Ž]at hi;rw[List.getElem_zip];exact h.bd (à _) (by unfold Ċ;rw[ċ,à Â];rfl)
inductive ϓ(vs:List V)(H:Hp)(Q:VK):Prop|mk:∀w l xs rs,(vs=[.int w,.ref l])->(H l=some (.lst xs))->(ï H xs rs)->((∀r∈rs,r.length=4))->(rs.length<=8000000)->(∀m H',À H H'->H m=none->H' m=some (.lst ((bI w rs).map V.int))->Q (.ref m) H')->ϓ  vs H Q
def Gu:Sp:=λvs H Q _=>ϓ  vs H Q
inductive Ţ(vs:List V)(H:Hp)(Q:VK):Prop|mk:∀w l xs rs,(vs=[.int w,.ref l])->(H l=some (.lst xs))->(ï H xs rs)->((∀r∈rs,r.length=4/\1<=fl r 3/\fl r 3<=99))->(rs.length<=80)->(0<=w)->(∀t sh H',À H H'->Ő w rs sh->H' t=some (.tup (sh.map V.int))->Q (.ref t) H')->Ţ  vs H Q
def xN:Sp:=λvs H Q _=>Ţ  vs H Q
theorem Ů:Ã ["wool","owed","shares","left","due","number","holder","sacks","share"] ["wool","owed"] (aD (top 57)):=ö
theorem JB(F:ã K "made_good" "made_good" (top 57) f fd)(Tn:mg "min"=none):Ñ P w K mg base ä 1 f fd ["wool","owed"] Gu:=by
 refine F.oq Ů λai A outer s H vs Q E hr h=>?_;obtain⟨w0,l,xs,rs,rfl,el,kq,h4,hz,q⟩:=h;refine⟨_,aC (ĕ 2 Ů.nd (cX ao)) (aC (ĕ 3 Ů.nd (pv 0)) (aC (cP Ĺ rfl (dN (pv 1)) (cj rfl (aA (Ö 4 Ů.nd) (aA (Ö 5 Ů.nd) (aA (Ö 6 Ů.nd) (aA (Ö 7 Ů.nd) aY))))) (aC (ĕ 8 Ů.nd (aG (iW rfl) rfl Tn į (au (pv 7) (au (pv 3) ao)))) (aC (cB (fQ Ŷ Ϯ ϯ d9 (pv 2) (au (pv 8) ao))) (aF (pL (i:=3) Ů.nd rfl (Or.inl rfl) (pv 8) Ek))))) (aF (aQ (pv 2))))),?_⟩;refine aP (aW ?_);refine⟨zL,λm hm=>?_⟩;refine aJ ?_;dsimp only;refine aP (aW ?_);refine⟨_,rfl,?_⟩;refine aJ ?_;dsimp only;refine aP ?_;have s1:=À.upd (o:=.lst []) hm;have nl:l≠m:=aB el hm;refine⟨_,rfl,l,rfl,⟨_,Ê.of (s1 _ _ el)⟩,?_⟩;refine iV (xs:=xs) (λi σ Hc=>Xe5 λx4 x5 x6 x7 x8=>Xa3 (σ=[some (.int w0),some (.ref l),some (.ref m),some (.int (w0-(bI w0 (rs.take i)).sum)),x4,x5,x6,x7,x8]) ((∀b o,H b=some o->Hc b=some o)) (Hc m=some (.lst ((bI w0 (rs.take i)).map V.int)))) ?_ ?_ ?_ ?_;.refine⟨none,none,none,none,none,?_,λb o e=>s1 _ _ e,aj⟩;rw[Zbd,show(bI w0 []).sum=0 from rfl,Int.sub_zero];rfl
 .rintro i σ Hc hi⟨x4,x5,x6,x7,x8,rfl,k,em⟩;exact Ê.of (k _ _ el)
 .rintro i x σ Hc hx⟨x4,x5,x6,x7,x8,rfl,k,em⟩;have hi:i<rs.length:=by have:=(ĵ.mp hx).1;rw[kq.1]at this;exact this
  obtain⟨t,ex,et⟩:=kq.2 i rs[i] (à hi);rw[ex]at hx;cases hx;rw[fY (h4 _ (Ě hi))]at et;refine⟨t,_,rfl,Î.of (k _ _ et),rfl,_,_,rfl,_,_,rfl,_,_,rfl,_,_,rfl,rfl,?_⟩;refine aP (aW ?_);refine⟨_,rfl,_,rfl,_,_,rfl,?_⟩;refine aJ ?_;dsimp only;refine aP ?_;refine⟨_,rfl,.inl ⟨rfl,_,Ê.of em⟩,_,rfl,m,_,_,rfl,rfl,em,?_,?_⟩;.rw[Ø,gZ,Ĵ,sizeLine_eq];lia
  have cb:rs.take (i+1)=rs.take i++[rs[i]]:=by rw[ī,à hi];rfl
  dsimp only;refine⟨_,rfl,_,rfl,_,_,rfl,rfl,some (.int (fl rs[i] 0)),some (.int (fl rs[i] 1)),some (.int (fl rs[i] 2)),some (.int (fl rs[i] 3)),some (.int (if w0-(bI w0 (rs.take i)).sum<fl rs[i] 3 then w0-(bI w0 (rs.take i)).sum else fl rs[i] 3)),?_,λb o e=>?_,?_⟩;.rw[cb,ir,List.sum_append,Ľ,List.sum_nil,Int.add_zero,show∀a b c:Int,a-(b+c)=a-b-c from λa b c=>by lia];rfl
  .rw[aq (aB e hm)];exact k _ _ e
  .rw[aj,cb,ir,ô];rfl
 .rintro σ Hc⟨x4,x5,x6,x7,x8,rfl,k,em⟩;rw[show xs.length=rs.length from kq.1,ł]at em;exact⟨_,rfl,q m Hc (λb o e=>k b o e) hm em⟩
theorem scT2:Ã ["wool","claims","weights"] ["wool","claims"] (aD (top 56)):=ö
theorem Dw(F:ã K "shares_of" "shares_of" (top 56) f fd)(T:Mg mg)(Ts:mg "sum"=none)(c1:å P w K mg base 6 "parted" ["sacks","weights"] K51P.spParts):Ñ P w K mg base ä 7 f fd ["wool","claims"] xN:=by
 refine F.oq scT2 λai A outer s H vs Q E hr h=>?_;obtain⟨w0,l,xs,rs,rfl,el,kq,h4,hz,hw,q⟩:=h;refine⟨_,aC (ĕ 2 scT2.nd (bN bR rfl T.tuple Ò (au (bD (g:=lN K 4 (cN (bO 0) (cN (bO 1) (cN (bO 2) (cN (bO 3) mX))))) ["due","number","holder","sacks"] [none,none,none,none] rfl (dN (pv 1)) (λC fp Á s₂ Õ=>⟨fu rfl rfl (aA (Ö 0 nd4) (aA (Ö 1 nd4) (aA (Ö 2 nd4) (aA (Ö 3 nd4) aY)))),bG,pv 3⟩) (λC=>trivial) ⟨rfl,rfl,rfl,rfl⟩) ao))) (aF (aQ (pK (aZ bY (aG (dB rfl) rfl Ts ê (au (pv 2) ao)) (pv 0) (bf _)) (pv 2) (aH c1 hr (au (pv 0) (au (pv 2) ao)))))),?_⟩;refine aP (aW ?_);refine⟨_,rfl,l,rfl,⟨_,Ê.of el⟩,dD rs.length (λi ys σ Hc=>À H Hc/\(∃o1 o2 o3 o4,σ=[o1,o2,o3,o4])/\ys=(Ċ (rs.take i)).map V.int) ⟨À.refl H,⟨_,_,_,_,rfl⟩,rfl⟩ ŷ ?_ ?_⟩;.rintro i ys σ Hc hi hy⟨s1,⟨o1,o2,o3,o4,rfl⟩,rfl⟩;obtain⟨t,ex,et⟩:=kq.2 i rs[i] (à hi);rw[fY (h4 _ (Ě hi)).1]at et;refine⟨⟨_,_,Ê.of (s1 _ _ el),ex⟩,λv H' y R hR=>?_⟩;obtain⟨rfl,y⟩:=y;have hv:=y _ (Ê.of (s1 _ _ el));rw[ex]at hv;cases hv;refine⟨t,_,rfl,Î.of (s1 _ _ et),rfl,_,_,rfl,_,_,rfl,_,_,rfl,_,_,rfl,rfl,_,rfl,hR _ _ _ ⟨s1,⟨_,_,_,_,rfl⟩,?_⟩⟩;unfold Ċ;rw[ī,à hi,ô,ô];rfl
 .rintro ys σ Hc hy⟨s1,_,rfl⟩;refine⟨⟨_,Ê.of (s1 _ _ el),by rw[kq.1];exact ß _⟩,λD hD=>?_⟩;rw[ł];refine⟨D,_,rfl,.inl ⟨Ê.of aj,λt ht=>?_⟩⟩;have s2:=(s1.updR (o:=.lst ((Ċ rs).map V.int)) hD).updR (o:=.tup ((Ċ rs).map V.int)) ht;have et:=aj (H:=upd Hc D (.lst ((Ċ rs).map V.int))) (a:=t) (o:=.tup ((Ċ rs).map V.int));generalize upd (upd Hc D (.lst ((Ċ rs).map V.int))) t (.tup ((Ċ rs).map V.int))=H2 at s2 et⊢;refine aJ ?_;dsimp only;refine⟨_,rfl,t,Ċ rs,rfl,.inr (Î.of et),_,rfl,_,_,rfl,rfl,_,rfl,?_⟩;by_cases hs:(Ċ rs).sum<=w0;.rw[ð hs];exact bx ⟨_,rfl,q t _ H2 s2 (Gs (λr hr=>by have:=(h4 r hr).2.1;lia) hs) et⟩
  .rw[Ĝ hs];refine bA ⟨_,rfl,_,rfl,w0,t,Ċ rs,rfl,et,⟨?_,by unfold Ċ;rw[Ø];exact hz,λx hx=>?_⟩,hw,Â,λH3 t3 ps pk s3 e3=>q t3 ps H3 (s2.trans s3) (Kr pk Â) e3⟩;.cases gI:rs with|nil=>rw[gI]at hs;exact absurd hw hs;|cons r rs'=>unfold Ċ;rw[Ø,ĳ];lia
   .obtain⟨r,gI,rfl⟩:=ñ.mp hx;exact(h4 r gI).2
theorem gK{Fin:List V->Hp->Prop}(n:Nat)(Pv:Nat->List V->St->Hp->Prop)(h0:Pv 0 [] cS H0)(hz:n<sizeLine)(step:∀i ys σ H,i<n->ys.length<=i->Pv i ys σ H->J.go i H/\∀x H',J.yld i H x H'->∀R:List V->St->Hp->Prop,(∀de aI H4,de.length<=i+1->Pv (i+1) de aI H4->R de aI H4)->g x σ H' λaI H2=>tt aI H2 λb H3=>if b=true then te aI H3 λy H4=>R (ys++[y]) aI H4 else R ys aI H3)(fin:∀ys σ H,ys.length<=n->Pv n ys σ H->J.stop n H/\Fin ys H):jY J g tt te Fin cS H0:=by
 refine⟨λi m ys σ H=>m=n-i/\i<=n/\ys.length<=i/\Pv i ys σ H,⟨_,rfl,ĥ _,ß _,h0⟩,?_⟩;rintro i m ys σ H⟨rfl,hi,hy,p⟩;refine⟨Â,?_⟩;by_cases ax:i<n;.obtain⟨go,st⟩:=step i ys σ H ax hy p;exact .inr ⟨go,λx H' y=>st x H' y (λde aI H4=>∃m',m'<n-i/\m'=n-(i+1)/\i+1<=n/\de.length<=i+1/\Pv (i+1) de aI H4) λde aI H4 l2 p2=>⟨n-(i+1),Â,rfl,ax,l2,p2⟩⟩
 .have e:i=n:=Â;subst e;exact .inl (fin ys σ H hy p)
def oN(f:WF×Int->Int)(P:List (WF×Int)):UV:=(P.filter λp=>decide (0<f p)).map λp=>[fl p.1 0,fl p.1 1,fl p.1 2,f p]
def qO(p:WF×Int):Int:=fl p.1 3-p.2
theorem mO(f:WF×Int->Int)(P:List (WF×Int))(p:WF×Int):oN f (P++[p])=oN f P++(if 0<f p then[[fl p.1 0,fl p.1 1,fl p.1 2,f p]]else[]):=by
 unfold oN;rw[Zaz,ô];congr 1;by_cases h:0<f p;.rw[Í h,zBg (p:=λp=>decide (0<f p)) (ð h)];rfl
 .rw[Ë h,zBf (p:=λp=>decide (0<f p)) (by rw[Ć];exact h)];rfl
theorem v9{f:WF×Int->Int}:∀{P:List (WF×Int)},(∀p∈P,0<=f p)->aU (oN f P)=(P.map f).sum
 |[],_=>rfl|p::P,h=>by
  have ih:=v9 λq hq=>h q (.tail _ hq);have h0:=h p (.head _);rw[Ī,Ľ,<-ih];unfold oN;by_cases hp:0<f p;.rw[zBg (p:=λp=>decide (0<f p)) (ð hp)];rfl
  .rw[zBf (p:=λp=>decide (0<f p)) (by rw[Ć];exact hp)];lia
theorem vd:∀{rs:UV}{sh:WF},sh.length=rs.length->((rs.zip sh).map (·.2)).sum=sh.sum/\((rs.zip sh).map qO).sum=aU rs-sh.sum|[],[],_=>⟨rfl,rfl⟩|[],_::_,h=>nomatch h|_::_,[],h=>nomatch h|r::rs,x::sh,h=>by obtain⟨a,b⟩:=vd (rs:=rs) (sh:=sh) (Nat.succ.inj h);have es:aU (r::rs)=fl r 3+aU rs:=rfl;rw[List.zip_cons_cons,Ī,Ī,Ľ,Ľ,Ľ,a,b,es];refine⟨rfl,?_⟩;show fl r 3-x+_=_;lia
def vf(q r:WF):Prop:=r=[fl q 0,fl q 1,fl q 2,fl r 3]/\1<=fl r 3/\fl r 3<=fl q 3
structure Z0q(w:Int)(rs G K:UV):Prop where
 gp:∀r∈G,∃q∈rs,vf q r
 kp:∀r∈K,∃q∈rs,vf q r
 gs:aU G=min w (aU rs)ks:aU K=aU rs-min w (aU rs)gl:G.length<=rs.length
 kl:K.length<=rs.length
theorem xO{f:WF×Int->Int}{rs:UV}{sh:WF}(h:∀p∈rs.zip sh,f p<=fl p.1 3):(∀r∈oN f (rs.zip sh),∃q∈rs,vf q r)/\(oN f (rs.zip sh)).length<=rs.length:=by
 refine⟨λr hr=>?_,?_⟩;.obtain⟨p,hp,rfl⟩:=ñ.mp hr;obtain⟨m,hm⟩:=δ.mp hp;exact⟨p.1,(Ϫ (show(p.1,p.2)∈_ from m)).1,rfl,ŭ hm,h p m⟩
 .have:=List.length_filter_le (λp=>decide (0<f p)) (rs.zip sh);unfold oN;rw[Ø];rw[Ž]at this;lia
theorem Ou{w:Int}(h:Ő w rs sh):Z0q w rs (oN (·.2) (rs.zip sh)) (oN qO (rs.zip sh)):=by
 obtain⟨a,b⟩:=vd h.len;obtain⟨g1,g2⟩:=xO (f:=(·.2)) (rs:=rs) (sh:=sh) λp hp=>(h.bd p hp).2;obtain⟨k1,k2⟩:=xO (f:=qO) (rs:=rs) (sh:=sh) λp hp=>by have:=(h.bd p hp).1;show fl p.1 3-p.2<=_;lia
 exact⟨g1,k1,by rw[v9 λp hp=>(h.bd p hp).1,a,h.sum],by rw[v9 λp hp=>by have:=(h.bd p hp).2;show 0<=fl p.1 3-p.2;lia,b,h.sum],g2,k2⟩
theorem ie:∀a b,aU (a++b)=aU a+aU b:=λa b=>by unfold aU Ċ;rw[ô,List.sum_append]
theorem Ml{w:Int}{cl ow:UV}{sh mg:WF}(hc:∀r∈cl,0<=fl r 3)(ho:∀r∈ow,0<=fl r 3)(a:Ő w cl sh)(b:Ő (w-sh.sum) ow mg):Ő w (cl++ow) (sh++mg):=by have e:=a.sum;have h1:=iu hc;have h2:=iu ho;refine⟨by rw[õ,õ,a.len,b.len],by rw[List.sum_append,b.sum,ie];lia,λp hp=>?_⟩;rw[List.zip_append a.len.symm]at hp;exact(Ę.mp hp).elim (a.bd p) (b.bd p)
inductive ό(vs:List V)(H:Hp)(Q:VK):Prop|mk:∀w lc xc cl lo xo ow,(vs=[.int w,.ref lc,.ref lo])->(H lc=some (.lst xc))->(ï H xc cl)->((∀r∈cl,r.length=4/\1<=fl r 3/\fl r 3<=99))->(cl.length<=80)->(0<=w)->(H lo=some (.lst xo))->(ï H xo ow)->((∀r∈ow,r.length=4/\0<=fl r 3))->(ow.length<=4000000)->(∀t g k xg xk G K H',À H H'->Z0q w (cl++ow) G K->H' t=some (.tup [.ref g,.ref k])->H g=none->H k=none->H' g=some (.lst xg)->ï H' xg G->H' k=some (.lst xk)->ï H' xk K->Q (.ref t) H')->ό  vs H Q
def Gv:Sp:=λvs H Q _=>ό  vs H Q
theorem xP:bootBuiltins "list"=some (.type "list"):=by decide+kernel
theorem nd5:(["due","number","holder","sacks","share"]:ó).Nodup:=by decide+kernel
theorem ϟ:Ã ["wool","claims","owed","shares","rows","gifts","lacking"] ["wool","claims","owed"] (aD (top 58)):=ö
theorem Gw(F:ã K "sort_given" "sort_given" (top 58) f fd)(Ts:mg "sum"=none)(Tl:mg "list"=none)(Tz:mg "zip"=none)(c1:å P w K mg base 7 "shares_of" ["wool","claims"] xN)(c2:å P w K mg base 1 "made_good" ["wool","owed"] Gu):Ñ P w K mg base ä 8 f fd ["wool","claims","owed"] Gv:=by
 refine F.oq ϟ λai A outer s H vs Q E hr h=>?_;obtain⟨w0,lc,xc,cl,lo,xo,ow,rfl,ec,Ee,L5,U8,hw,eo,rq,F9,U9,q⟩:=h;refine⟨_,aC (ĕ 3 ϟ.nd (bN uB rfl Tl xP (au (aH c1 hr (au (pv 0) (au (pv 1) ao))) ao))) (aC (ĕ 4 ϟ.nd (aV jc (pv 1) (pv 2))) (aC (pL (i:=3) ϟ.nd rfl (Or.inl rfl) (aH c2 hr (au (aV dG (pv 0) (aG (dB rfl) rfl Ts ê (au (pv 3) ao))) (au (pv 2) ao))) uQ) (aC (jd (g:=lN K 2 (cN (lN K 4 (cN (bO 0) (cN (bO 1) (cN (bO 2) (cN (bO 3) mX))))) (cN (bO 4) mX))) (i:=5) ["due","number","holder","sacks","share"] [none,none,none,none,none] rfl ϟ.nd rfl (Or.inl rfl) (ZT.pi_zip false false rfl Tz (au (pv 4) (au (pv 3) ao))) (λC fp Á s₂ Õ=>⟨fu rfl rfl (aA (fu rfl rfl (aA (Ö 0 nd5) (aA (Ö 1 nd5) (aA (Ö 2 nd5) (aA (Ö 3 nd5) aY))))) (aA (Ö 4 nd5) aY)),iB (aZ jr (pv 4) az (bf _)),bW (au (pv 0) (au (pv 1) (au (pv 2) (au (pv 4) ao))))⟩) (λC=>trivial) ⟨rfl,rfl,rfl,rfl⟩) (aC (jd (g:=lN K 2 (cN (lN K 4 (cN (bO 0) (cN (bO 1) (cN (bO 2) (cN (bO 3) mX))))) (cN (bO 4) mX))) (i:=6) ["due","number","holder","sacks","share"] [none,none,none,none,none] rfl ϟ.nd rfl (Or.inl rfl) (ZT.pi_zip false false rfl Tz (au (pv 4) (au (pv 3) ao))) (λC fp Á s₂ Õ=>⟨fu rfl rfl (aA (fu rfl rfl (aA (Ö 0 nd5) (aA (Ö 1 nd5) (aA (Ö 2 nd5) (aA (Ö 3 nd5) aY))))) (aA (Ö 4 nd5) aY)),iB (aZ jr (pv 3) (pv 4) (bf _)),bW (au (pv 0) (au (pv 1) (au (pv 2) (au (aV dG (pv 3) (pv 4)) ao))))⟩) (λC=>trivial) ⟨rfl,rfl,rfl,rfl⟩) (aF (aQ (bW (au (pv 5) (au (pv 6) ao))))))))),?_⟩;refine aN λc_ ae=>?_;refine aW ?_;refine⟨_,rfl,_,rfl,w0,lc,xc,cl,rfl,ec,Ee,L5,U8,hw,λt sh H1 s1 ζ et=>⟨t,_,rfl,.inr (Î.of et),λls LX=>?_⟩⟩;have s2:=s1.updR (o:=.lst (sh.map V.int)) LX;have Va:H ls=none:=s1.free LX;have kq:=aj (H:=H1) (a:=ls) (o:=.lst (sh.map V.int));generalize upd H1 ls (.lst (sh.map V.int))=H2 at s2 kq⊢;refine aJ ?_;refine ae _ _ ?_;clear ae c_;try dsimp only
 refine aN λc_ ae=>?_;refine aW ?_;refine⟨_,rfl,_,rfl,lc,lo,xc,xo,rfl,rfl,s2 _ _ ec,s2 _ _ eo,by rw[Ee.1,rq.1,sizeLine_eq];lia,λlr lh=>?_⟩;have s3:=s2.updR (o:=.lst (xc++xo)) lh;have nlr:H lr=none:=s2.free lh;have rL:=À.upd (o:=.lst (xc++xo)) lh _ _ kq;have L6:=aj (H:=H2) (a:=lr) (o:=.lst (xc++xo));have Vb:lr≠ls:=λz=>by rw[z,kq]at lh;cases lh
 generalize upd H2 lr (.lst (xc++xo))=H3 at s3 rL L6⊢;refine aJ ?_;refine ae _ _ ?_;clear ae c_;try dsimp only
 refine aN λc_ ae=>?_;refine⟨_,rfl,_,rfl,_,rfl,ls,sh,rfl,.inl (Ê.of rL),_,_,rfl,rfl,_,rfl,_,lo,xo,ow,rfl,s3 _ _ eo,rq.same s3,λr hr=>(F9 r hr).1,Â,λm H4 s4 nm em=>?_⟩;refine⟨ls,m,_,_,rfl,rfl,s4 _ _ rL,em,by rw[Ø,Ø,ζ.len,gZ,sizeLine_eq];lia,?_⟩;have c0:∀r∈cl,0<=fl r 3:=λr hr=>by have:=(L5 r hr).2.1;lia
 have GA:=Ml c0 (λr hr=>(F9 r hr).2) ζ (Gr (by have:=ζ.sum;lia) λr hr=>(F9 r hr).2);rw[<-ô];generalize sh++bI (w0-sh.sum) ow=SH at GA;have EA:=GA.len;refine ae _ _ ?_;clear ae c_ ζ;try dsimp only
 have k5:À H (upd H4 ls (.lst (SH.map V.int))):=λb o e=>by rw[aq (aB e Va)];exact s4 _ _ (s3 _ _ e)
 have mP:=aj (H:=H4) (a:=ls) (o:=.lst (SH.map V.int));have iN:upd H4 ls (.lst (SH.map V.int)) lr=some (.lst (xc++xo)):=by rw[aq Vb];exact s4 _ _ L6
 generalize upd H4 ls (.lst (SH.map V.int))=H5 at k5 mP iN⊢;have AZ:ï H (xc++xo) (cl++ow):=Ee.app rq;have PV:∀r∈cl++ow,r.length=4:=λr hr=>(Ę.mp hr).elim (λz=>(L5 r z).1) λz=>(F9 r z).1;have Vc:(cl++ow).length<=5000000:=by rw[õ];lia
 generalize xc++xo=xr at iN AZ;generalize cl++ow=rr at q EA GA AZ PV Vc;clear kq rL L6 s1 s2 s3 s4 em et;obtain⟨ZP,GB⟩:∃ZP,ZP=rr.zip SH:=⟨_,rfl⟩;have gv:=Ou GA;rw[<-GB]at gv;have rS:ZP.length=rr.length:=by rw[GB,Ž,EA,Nat.min_self]
 have zl:∀i(h:i<ZP.length),rr[i]?=some ZP[i].1:=λi h=>by have hi:i<rr.length:=Â;rw[à hi];congr 1;simp only[GB,List.getElem_zip]
 have EB:∀i(h:i<ZP.length),SH[i]?=some ZP[i].2:=λi h=>by have hi:i<SH.length:=Â;rw[à hi];congr 1;simp only[GB,List.getElem_zip]
 have EC:∀i(h:i<ZP.length),(ZP[i].1).length=4:=λi h=>PV _ (ŕ (zl i h));refine aN λc_ ae=>?_;refine⟨_,rfl,_,rfl,lr,ls,xr,_,rfl,Ê.of iN,Ê.of mP,gK rr.length (λi ys σ Hc=>À H5 Hc/\(∃o1 o2 o3 o4 o5,σ=[o1,o2,o3,o4,o5])/\ï Hc ys (oN (·.2) (ZP.take i))) ⟨À.refl _,⟨_,_,_,_,_,rfl⟩,ï.nil⟩ ŷ ?_ ?_⟩
 .rintro i ys σ Hc hi hy⟨sc,⟨o1,o2,o3,o4,o5,rfl⟩,ht⟩;have hP:i<ZP.length:=by rw[rS];exact hi
  obtain⟨tr,ex,et⟩:=AZ.2 i ZP[i].1 (zl i hP);have er:Ê K Hc lr xr:=Ê.of (sc _ _ iN);have es:Ê K Hc ls (SH.map V.int):=Ê.of (sc _ _ mP);have AY:(SH.map V.int)[i]?=some (.int ZP[i].2):=by rw[ċ,EB i hP];rfl
  have cb:ZP.take (i+1)=ZP.take i++[ZP[i]]:=by rw[ī,à hP];rfl
  have ED:=sc _ _ (k5 _ _ et);rw[fY (EC i hP)]at ED;refine⟨⟨_,_,_,_,er,es,ex,AY⟩,λx H' yv R hR=>?_⟩;obtain⟨T0,nT,rfl,yv⟩:=yv;obtain⟨x',y',ua,zt,rfl⟩:=yv _ _ er es;rw[ex]at ua;cases ua;rw[AY]at zt;cases zt;have u7:=sc.updR (o:=.tup [.ref tr,.int ZP[i].2]) nT;refine⟨T0,_,rfl,Î.of aj,rfl,_,_,rfl,?_⟩;refine⟨tr,_,rfl,Î.of (À.upd nT _ _ ED),rfl,_,_,rfl,_,_,rfl,_,_,rfl,_,_,rfl,rfl,?_⟩;refine⟨_,_,rfl,rfl,?_⟩;refine⟨_,rfl,_,_,rfl,rfl,_,rfl,?_⟩;by_cases aS:0<ZP[i].2;.rw[ð aS];refine bx ⟨_,rfl,_,rfl,_,rfl,_,rfl,zL,λt iq=>hR _ _ _ (by rw[õ];show ys.length+1<=i+1;lia) ⟨u7.updR iq,⟨_,_,_,_,_,rfl⟩,?_⟩⟩;rw[cb,mO,Í aS];exact(((ht.same (À.upd nT)).same (À.upd iq))).app (ï.one aj)
  .rw[Ĝ aS];refine bA (hR _ _ _ Â ⟨u7,⟨_,_,_,_,_,rfl⟩,?_⟩);rw[cb,mO,Ë aS,Ś];exact ht.same (À.upd nT)
 rintro ys σ Hc hy⟨sc,_,ht⟩;rw[<-rS,ł]at ht;refine⟨⟨_,Ê.of (sc _ _ iN),by rw[AZ.1];exact ß _⟩,λg hg=>?_⟩;have k6:=(k5.trans sc).updR (o:=.lst ys) hg;have ng:H g=none:=(k5.trans sc).free hg;have eg:=aj (H:=Hc) (a:=g) (o:=.lst ys);have elg:=ht.same (À.upd (o:=.lst ys) hg);have rV:=À.upd (o:=.lst ys) hg _ _ (sc _ _ iN);have iO:=À.upd (o:=.lst ys) hg _ _ (sc _ _ mP);generalize upd Hc g (.lst ys)=H6 at k6 eg elg rV iO⊢;clear sc ht hy mP iN k5;refine ae _ _ ?_;clear ae c_;try dsimp only
 refine aN λc_ ae=>?_;refine⟨_,rfl,_,rfl,lr,ls,xr,_,rfl,Ê.of rV,Ê.of iO,gK rr.length (λi ys σ Hc=>À H6 Hc/\(∃o1 o2 o3 o4 o5,σ=[o1,o2,o3,o4,o5])/\ï Hc ys (oN qO (ZP.take i))) ⟨À.refl _,⟨_,_,_,_,_,rfl⟩,ï.nil⟩ ŷ ?_ ?_⟩
 .rintro i ys σ Hc hi hy⟨sc,⟨o1,o2,o3,o4,o5,rfl⟩,ht⟩;have hP:i<ZP.length:=by rw[rS];exact hi
  obtain⟨tr,ex,et⟩:=AZ.2 i ZP[i].1 (zl i hP);have er:Ê K Hc lr xr:=Ê.of (sc _ _ rV);have es:Ê K Hc ls (SH.map V.int):=Ê.of (sc _ _ iO);have AY:(SH.map V.int)[i]?=some (.int ZP[i].2):=by rw[ċ,EB i hP];rfl
  have cb:ZP.take (i+1)=ZP.take i++[ZP[i]]:=by rw[ī,à hP];rfl
  have ED:=sc _ _ (k6 _ _ et);rw[fY (EC i hP)]at ED;refine⟨⟨_,_,_,_,er,es,ex,AY⟩,λx H' yv R hR=>?_⟩;obtain⟨T0,nT,rfl,yv⟩:=yv;obtain⟨x',y',ua,zt,rfl⟩:=yv _ _ er es;rw[ex]at ua;cases ua;rw[AY]at zt;cases zt;have u7:=sc.updR (o:=.tup [.ref tr,.int ZP[i].2]) nT;refine⟨T0,_,rfl,Î.of aj,rfl,_,_,rfl,?_⟩;refine⟨tr,_,rfl,Î.of (À.upd nT _ _ ED),rfl,_,_,rfl,_,_,rfl,_,_,rfl,_,_,rfl,rfl,?_⟩;refine⟨_,_,rfl,rfl,?_⟩;refine⟨_,rfl,_,rfl,_,_,rfl,rfl,_,rfl,?_⟩;by_cases aS:0<qO ZP[i];.rw[ð (show ZP[i].2<fl ZP[i].1 3 by unfold qO at aS;lia)];refine bx ⟨_,rfl,_,rfl,_,rfl,_,rfl,_,rfl,_,_,rfl,rfl,zL,λt iq=>hR _ _ _ (by rw[õ];show ys.length+1<=i+1;lia) ⟨u7.updR iq,⟨_,_,_,_,_,rfl⟩,?_⟩⟩;rw[cb,mO,Í aS];exact(((ht.same (À.upd nT)).same (À.upd iq))).app (ï.one aj)
  .rw[Ĝ (show¬ZP[i].2<fl ZP[i].1 3 by unfold qO at aS;lia)];refine bA (hR _ _ _ Â ⟨u7,⟨_,_,_,_,_,rfl⟩,?_⟩);rw[cb,mO,Ë aS,Ś];exact ht.same (À.upd nT)
 rintro L7 σ Hc hy⟨sc,_,ht⟩;rw[<-rS,ł]at ht;refine⟨⟨_,Ê.of (sc _ _ rV),by rw[AZ.1];exact ß _⟩,λk hk=>?_⟩;have k7:=(k6.trans sc).updR (o:=.lst L7) hk;have nk:H k=none:=(k6.trans sc).free hk;have sk:=À.upd (o:=.lst L7) hk;refine ae _ _ ?_;clear ae c_;try dsimp only
 refine⟨_,rfl,_,rfl,zL,λt iq=>?_⟩;have st:=À.upd (o:=.tup [.ref g,.ref k]) iq;exact q t g k ys L7 _ _ _ (k7.trans st) gv aj ng nk (st _ _ (sk _ _ (sc _ _ eg))) (((elg.same sc).same sk).same st) (st _ _ aj) ((ht.same sk).same st)
def fJ(L:WF)(i:Nat):UV:=((List.range i).filter λh=>decide (0<L.getD h 0)).map λ(h:Nat)=>[(h:Int),L.getD h 0]
theorem oG(L:WF)(i:Nat):fJ L (i+1)=fJ L i++(if 0<L.getD i 0 then[[(i:Int),L.getD i 0]]else[]):=by
 unfold fJ;rw[List.range_succ,Zaz,ô];congr 1;by_cases h:0<L.getD i 0;.rw[Í h,zBg (p:=λh=>decide (0<L.getD h 0)) (ð h)];rfl
 .rw[Ë h,zBf (p:=λh=>decide (0<L.getD h 0)) (by rw[Ć];exact h)];rfl
theorem yZ(L:WF)(i:Nat):(fJ L i).length<=i:=by unfold fJ;rw[Ø];have:=List.length_filter_le (λh=>decide (0<L.getD h 0)) (List.range i);rw[List.length_range]at this;exact this
def jq(ps ss:UV)(sort year:Int)(n:Nat):UV:=if fl (ps.getD n []) 1=sort then(fJ (cz (ps.getD n []) ss n year) 8).map (λr=>year::(n:Int)::r)else[]
def jm(ps ss:UV)(sort year:Int):Nat->UV|0=>[]|k+1=>jm ps ss sort year k++jq ps ss sort year k
def dO(ps ss:UV)(sort year:Int):UV:=jm ps ss sort year ps.length
theorem Gx(ps ss:UV)(sort year:Int)(n:Nat):(jq ps ss sort year n).length<=8:=by
 unfold jq;split;.rw[Ø];exact yZ _ 8
 .exact ĥ _
theorem mQ(ps ss:UV)(sort year:Int):∀k,(jm ps ss sort year k).length<=8*k|0=>ß _|k+1=>by unfold jm;rw[õ];have:=mQ ps ss sort year k;have:=Gx ps ss sort year k;lia
inductive Ū(vs:List V)(H:Hp)(Q:VK):Prop|mk:∀ap xp ps ar xs ss sort year,(vs=[.ref ap,.ref ar,.int sort,.int year])->(È H ap xp ps)->(ps.length<=10)->((∀r∈ps,ě r))->(È H ar xs ss)->(ss.length<=12)->((∀s∈ss,ζ s))->(∀l xl H',À H H'->H l=none->H' l=some (.lst xl)->ï H' xl (dO ps ss sort year)->Q (.ref l) H')->Ū  vs H Q
def xQ:Sp:=λvs H Q _=>Ū  vs H Q
theorem ndV:(["holder","sacks","year","number"]:ó).Nodup:=by decide+kernel
theorem Ϟ:Ã ["promises","sales","sort","year","claims","number","promise","held"] ["promises","sales","sort","year"] (aD (top 55)):=ö
theorem Dy(F:ã K "claims_in" "claims_in" (top 55) f fd)(Te:mg "enumerate"=none)(c1:å P w K mg base 1 "held_in" ["promises","sales","number","year"] yW):Ñ P w K mg base ä 2 f fd ["promises","sales","sort","year"] xQ:=by
 refine F.oq Ϟ λai A outer s H vs Q E hr h=>?_;obtain⟨ap,xp,ps,ar,xs,ss,sort,year,rfl,rp,lp,okp,rs,ls,cw,q⟩:=h;refine⟨_,aC (ĕ 4 Ϟ.nd (cX ao)) (aC (cP Ĺ rfl (ZT.pi_enum true rfl Te (au (pv 0) ao)) (cj rfl (aA (bJ (i:=5) Ϟ.nd rfl (Or.inr rfl)) (aA (Ö 6 Ϟ.nd) aY))) (aF (bU (aZ ig (pX bQ (pv 6) az) (pv 2) (bf _)) (aC (ĕ 7 Ϟ.nd (aH c1 hr (au (pv 0) (au (pv 1) (au (pv 5) (au (pv 3) ao)))))) (aF (pL (i:=4) Ϟ.nd rfl (Or.inl rfl) (bD (g:=lN K 2 (cN (bO 0) (cN (bO 1) mX))) ["holder","sacks","year","number"] [none,none,some 3,some 5] rfl (ZT.pi_enum false rfl Te (au (pv 7) ao)) (λC fp Á s₂ Õ=>⟨fu rfl rfl (aA (Ö 0 ndV) (aA (Ö 1 ndV) aY)),iB (aZ jr (pv 1) az (bf _)),bW (au (pv 2) (au (pv 3) (au (pv 0) (au (pv 1) ao))))⟩) (λC=>cI (cI trivial)) ⟨rfl,rfl,rfl,rfl⟩) uQ))) bj))) (aF (aQ (pv 4)))),?_⟩;refine aP (aW ?_);refine⟨zL,λl hl=>?_⟩;refine aJ ?_;dsimp only;refine aP ?_;have s0:=À.upd (o:=.lst []) hl;refine⟨_,rfl,ap,xp,rfl,Î.of (s0 _ _ rp.e),?_⟩;refine ZT.for_enum true (xs:=xp) (λi σ Hc=>Xe4 λx5 x6 x7 xl=>Xa4 (σ=[some (.ref ap),some (.ref ar),some (.int sort),some (.int year),some (.ref l),x5,x6,x7]) ((∀b o,H b=some o->Hc b=some o)) (Hc l=some (.lst xl)) (ï Hc xl (jm ps ss sort year i))) ?_ ?_ ?_ ?_;.exact⟨none,none,none,[],rfl,λb o e=>s0 _ _ e,aj,ï.nil⟩
 .rintro i σ Hc hi⟨x5,x6,x7,xl,rfl,k,el,ht⟩;exact Î.of (k _ _ rp.e)
 .rintro i x σ Hc T0 hx⟨x5,x6,x7,xl,rfl,k,el,ht⟩nT;have hi:i<ps.length:=by have:=(ĵ.mp hx).1;rw[rp.l]at this;exact this
  obtain⟨tr,fR,fq⟩:=rp.g i ps[i] (à hi);have:x=.ref tr:=by rw[hx]at fR;exact ŗ fR
  subst this;have op:=okp ps[i] (Ě hi);have ep:ps.getD i []=ps[i]:=á hi;rw[fB op.1]at fq;have sT:=À.upd (o:=.tup [V.int i,V.ref tr]) nT;have kT:À H (upd Hc T0 (.tup [V.int i,V.ref tr])):=λb o e=>sT _ _ (k _ _ e);have A0:=sT _ _ el;have A1:=ht.same sT;have eT:=aj (H:=Hc) (a:=T0) (o:=.tup [V.int i,V.ref tr]);generalize upd Hc T0 (.tup [V.int i,V.ref tr])=H1 at kT A0 A1 eT⊢;refine⟨T0,_,rfl,Î.of eT,rfl,_,_,rfl,_,_,rfl,rfl,?_⟩;refine⟨_,rfl,tr,_,1,.int (fl ps[i] 1),rfl,rfl,Î.of (kT _ _ fq),rfl,_,rfl,rfl,_,rfl,?_⟩;by_cases hs:fl ps[i] 1=sort
  .rw[ð (by rw[hs])];refine bx (aP ?_);refine aW ?_;refine⟨_,rfl,_,rfl,_,rfl,_,rfl,ap,xp,ps,ar,xs,ss,i,year,rfl,rp.same kT,rs.same kT,Â,Â,by rw[ś,ep];exact op,ls,cw,λhd H2 s2 e2=>?_⟩;rw[ś,ep]at e2;have GH:=gq ps[i] ss i year;have va:jq ps ss sort year i=(fJ (cz ps[i] ss i year) 8).map (λr=>year::(i:Int)::r):=by unfold jq;rw[ep,Í hs]
   generalize cz ps[i] ss i year=L at e2 GH va;have k2:=kT.trans s2;have χ:=s2 _ _ A0;have EE:=A1.same s2;refine aJ ?_;dsimp only;refine⟨_,rfl,_,rfl,hd,_,rfl,Ê.of e2,gK 8 (λj ys σ Hj=>À H2 Hj/\(∃o1 o2,σ=[o1,o2,some (.int year),some (.int i)])/\ï Hj ys ((fJ L j).map (λr=>year::(i:Int)::r))) ⟨À.refl _,⟨_,_,rfl⟩,ï.nil⟩ (by rw[sizeLine_eq];decide) ?_ ?_⟩
   .rintro j ys σ Hj hj hy⟨sc,⟨o1,o2,rfl⟩,kN⟩;have kr:Ê K Hj hd (L.map V.int):=Ê.of (sc _ _ e2);have PY:(L.map V.int)[j]?=some (.int (L.getD j 0)):=by have eB:j<L.length:=Â;rw[ċ,Ĭ,à eB];rfl
    refine⟨⟨_,_,kr,PY⟩,λx H' yv R hR=>?_⟩;obtain⟨T1,L8,rfl,yv⟩:=yv;obtain⟨x',cq,rfl⟩:=yv _ kr;rw[PY]at cq;cases cq;have u7:=sc.updR (o:=.tup [.int (j:Int),.int (L.getD j 0)]) L8;refine⟨T1,_,rfl,Î.of aj,rfl,_,_,rfl,_,_,rfl,rfl,?_⟩;refine⟨_,rfl,_,_,rfl,rfl,_,rfl,?_⟩;by_cases aS:0<L.getD j 0;.rw[ð aS];refine bx ⟨_,rfl,_,rfl,_,rfl,_,rfl,zL,λt iq=>hR _ _ _ (by rw[õ];show ys.length+1<=j+1;lia) ⟨u7.updR iq,⟨_,_,rfl⟩,?_⟩⟩;rw[oG,Í aS,ô];exact((kN.same (À.upd L8)).same (À.upd iq)).app (ï.one aj)
    .rw[Ĝ aS];refine bA (hR _ _ _ Â ⟨u7,⟨_,_,rfl⟩,?_⟩);rw[oG,Ë aS,Ś];exact kN.same (À.upd L8)
   .rintro ys σ Hj hy⟨sc,_,kN⟩;refine⟨⟨_,Ê.of (sc _ _ e2),by rw[Ø];lia⟩,λD hD=>?_⟩;have sD:=sc.updR (o:=.lst ys) hD;have nD:D≠l:=λz=>by rw[z,sc _ _ χ]at hD;cases hD
    have ll:=mQ ps ss sort year i;have:=ht.1;refine⟨l,D,xl,ys,rfl,rfl,sD _ _ χ,aj,by rw[sizeLine_eq];lia,?_⟩;refine⟨_,_,_,xl++ys,rfl,λb o e=>?_,aj,?_⟩;.rw[aq (aB e hl)];exact sD _ _ (k2 _ _ e)
    .have e3:=(EE.same sD).app (kN.same (À.upd (o:=.lst ys) hD));rw[<-va]at e3;refine e3.keep λb z e=>?_;rw[aq λw=>by rw[w,sD _ _ χ]at e;cases e];exact e
  .rw[Ĝ (λz=>hs (by injection z))];refine bA ?_;refine⟨_,_,_,xl,rfl,λb o e=>kT _ _ e,A0,?_⟩;have:jm ps ss sort year (i+1)=jm ps ss sort year i:=by show jm ps ss sort year i++jq ps ss sort year i=_;unfold jq;rw[ep,Ë hs,Ś]
   rw[this];exact A1
 .rintro σ Hc⟨x5,x6,x7,xl,rfl,k,el,ht⟩;rw[show xp.length=ps.length from rp.l]at ht;exact⟨_,rfl,q l xl Hc (λb o e=>k b o e) hl el ht⟩
theorem Ģ:∀(L:WF)i a,i<L.length->(L.set i a).sum=L.sum-L.getD i 0+a|[],i,a,h=>by simp at h;|x::L,0,a,h=>by rw[List.set_cons_zero,Ľ,Ľ,List.getD_cons_zero];lia;|x::L,i+1,a,h=>by rw[List.set_cons_succ,Ľ,Ľ,List.getD_cons_succ,Ģ L i a (by simpa using h)];lia
theorem xR(h:i.toNat<L.length):(lJ L i v).sum=L.sum+v:=by unfold lJ;rw[Ģ _ _ _ h];lia
theorem nZ:∀{L:WF},(∀x∈L,0<=x)->0<=L.sum/\∀x∈L,x<=L.sum
 |[],_=>⟨ϵ _,λx hx=>by cases hx⟩|y::L,h=>by
  obtain⟨h1,h2⟩:=nZ (L:=L) λx hx=>h x (.tail _ hx);have hy:=h y (.head _);rw[Ľ];refine⟨Â,λx hx=>?_⟩;rcases ĩ.mp hx with z|z;.lia
  .have:=h2 x z;lia
theorem vg{L:WF}(h:∀x∈L,0<=x)(i:Nat):0<=L.getD i 0:=by rw[Ĭ];cases e:L[i]? with|none=>exact ϵ _;|some y=>exact h y (ŕ e)
theorem Bo(h:∀x∈L,0<=x)(hv:0<=L.getD i.toNat 0+v):∀x∈lJ L i v,0<=x:=by
 intro x hx;unfold lJ at hx;rcases List.mem_or_eq_of_mem_set hx with z|z;.exact h x z
 .rw[z];exact hv
theorem Gy(h:un ps ss=none):∀j,j<ss.length->fH ps (ss.take j) (ss.getD j [])=true:=λj hj=>by unfold un at h;have:=List.find?_eq_none.mp h j (Ϣ.mpr hj);simpa using this
theorem mG(hu:un ps ss=none)(h5:∀s∈ss,s.length=5)(op:ě (ps.getD n [])):∀k,k<=ss.length->(∀x∈cz (ps.getD n []) (ss.take k) n y,0<=x)/\(cz (ps.getD n []) (ss.take k) n y).sum<=99:=by
 intro k;by_cases hy:fl (ps.getD n []) 2<=y/\y<=fl (ps.getD n []) 3
 .obtain⟨_,⟨a1,a2⟩,_,_,⟨e1,e2⟩,_⟩:=id op
  induction k with|zero=>
   intro _;rw[Zbd];unfold cz;rw[Í hy];show(∀x∈ğ (ps.getD n []),0<=x)/\(ğ (ps.getD n [])).sum<=99;unfold ğ;refine⟨λx hx=>?_,?_⟩
   .rcases List.mem_or_eq_of_mem_set hx with z|z;.rw[List.eq_of_mem_replicate z];exact ϵ _
    .lia
   .rw[Ģ _ _ _ (by rw[Za9];lia)];have:(List.replicate 8 (0:Int)).sum=0:=rfl;have e:(List.replicate 8 (0:Int)).getD (fl (ps.getD n []) 0).toNat 0=0:=by rw[Ĭ,Zbk,Í Â];rfl
    rw[this,e];lia;|succ k ih=>
   intro hk;have eB:k<ss.length:=Â;obtain⟨i1,i2⟩:=ih Â;have hB:=Gy hu k eB;rw[á eB]at hB;have cb:ss.take (k+1)=ss.take k++[ss[k]]:=by rw[ī,à eB];rfl
   have eh:cz (ps.getD n []) (ss.take (k+1)) n y=Ą n y (cz (ps.getD n []) (ss.take k) n y) ss[k]:=by unfold cz;rw[Í hy,Í hy,cb,List.foldl_append];rfl
   have Vd:=mL (h5 _ (Ě eB)) hB;obtain⟨_,⟨b1,b2⟩,c1,c2⟩:=Vd;have hl:=gq (ps.getD n []) (ss.take k) n y;rw[eh];unfold Ą;by_cases hc:fl ss[k] 0=n/\fl ss[k] 4<=y
   .rw[Í hc];unfold fH at hB;rw[ġ]at hB;obtain⟨ki,iE⟩:=hB;have ep:qL ps ss[k]=ps.getD n []:=by unfold qL;rw[hc.1,ś]
    have kH:fl ss[k] 3<=(cz (ps.getD n []) (ss.take k) n y).getD (fl ss[k] 1).toNat 0:=by
     have:=ō.mp iE y (by
      unfold years;refine ñ.mpr ⟨(y-fl ss[k] 4).toNat,Ϣ.mpr ?_,?_⟩;.rw[ep];lia
      .lia);have:=ŭ this;rw[ep,hc.1]at this;exact this
    unfold rQ at ki;simp only[Bool.and_eq_true,Ć,Bool.not_eq_true',decide_eq_false_iff_not]at ki;obtain⟨_,_,_,L9,⟨v1,v2⟩,_⟩:=ki;generalize cz (ps.getD n []) (ss.take k) n y=L at i1 i2 hl kH;have n1:=Bo (i:=fl ss[k] 1) (v:=-(fl ss[k] 3)) i1 Â;refine⟨Bo n1 ?_,?_⟩;.have:=vg n1 (fl ss[k] 2).toNat;lia
    .rw[xR (by rw[jC];lia),xR Â];lia
   .rw[Ë hc];exact⟨i1,i2⟩
 .intro _;unfold cz;rw[Ë hy];refine⟨λx hx=>by rw[List.eq_of_mem_replicate hx];exact ϵ _,by decide⟩
def bz(ps:UV)(r:WF):Int:=fl (ps.getD (fl r 1).toNat []) 1
structure ŋ(ps:UV)(r:WF):Prop where
 l:r.length=4
 n0:0<=fl r 1
 n1:fl r 1<ps.length
 s0:1<=fl r 3
 s1:fl r 3<=99
 h0:0<=fl r 2
 h1:fl r 2<8
theorem Ov(hu:un ps ss=none)(h5:∀s∈ss,s.length=5)(okp:∀r∈ps,ě r):∀k,k<=ps.length->∀r∈jm ps ss sort year k,ŋ ps r/\bz ps r=sort:=by intro k;induction k with|zero=>intro _ r hr;cases hr;|succ k ih=>
  intro hk r hr;rcases Ę.mp (show r∈jm ps ss sort year k++jq ps ss sort year k from hr)with z|z;.exact ih Â r z
  .unfold jq at z;split at z
   .rename_i hs;obtain⟨q,hq,rfl⟩:=ñ.mp z;unfold fJ at hq;obtain⟨h,hh,rfl⟩:=ñ.mp hq;have hp:=ŭ (δ.mp hh).2;have h8:=Ϣ.mp (δ.mp hh).1;have eB:k<ps.length:=Â;obtain⟨a,b⟩:=mG (n:=k) (y:=year) hu h5 (by rw[á eB];exact okp _ (Ě eB)) ss.length (ß _);rw[ł]at a b;have le:(cz (ps.getD k []) ss k year).getD h 0<=99:=by rw[Ĭ]at hp⊢;cases e:(cz (ps.getD k []) ss k year)[h]? with|none=>show(0:Int)<=99;decide;|some y=>have:=(nZ a).2 y (ŕ e);show y<=99;lia
    exact⟨⟨rfl,Int.natCast_nonneg k,Int.ofNat_lt.mpr eB,hp,le,Int.natCast_nonneg h,Int.ofNat_lt.mpr h8⟩,hs⟩
   .cases z
theorem tX(hu:un ps ss=none)(h5:∀s∈ss,s.length=5)(okp:∀r∈ps,ě r):∀r∈dO ps ss sort year,ŋ ps r/\bz ps r=sort:=Ov hu h5 okp ps.length (ß _)
theorem qP(h:ps.length<=10):(dO ps ss sort year).length<=80:=by have:=mQ ps ss sort year ps.length;unfold dO;lia
def bu(ps ow:UV)(sort:Int):UV:=ow.filter λr=>decide (bz ps r=sort)
theorem Gz{ps ow:UV}(h:∀r∈ow,ŋ ps r):∀r∈bu ps ow sort,ŋ ps r/\bz ps r=sort:=λr hr=>⟨h r (δ.mp hr).1,ŭ (δ.mp hr).2⟩
theorem Dz(ps ow:UV)(sort:Int):(bu ps ow sort).length<=ow.length:=List.length_filter_le _ _
theorem j7(ps a b:UV)(sort:Int):bu ps (a++b) sort=bu ps a sort++bu ps b sort:=Zaz ..
theorem j8{ps K:UV}(h:∀r∈K,bz ps r=s)(t:Int):bu ps K t=if t=s then K else[]:=by
 split;.rename_i e;exact List.filter_eq_self.mpr λr hr=>ð (by rw[e];exact h r hr)
 .rename_i e;exact List.filter_eq_nil_iff.mpr λr hr z=>e (by rw[<-ŭ z];exact h r hr)
theorem Bp(h:vf q r)(o:ŋ ps q):ŋ ps r/\bz ps r=bz ps q:=by
 obtain⟨e,a,b⟩:=h;have e1:fl r 1=fl q 1:=by rw[e];rfl
 have e2:fl r 2=fl q 2:=by rw[e];rfl
 refine⟨⟨by rw[e];rfl,by rw[e1];exact o.n0,by rw[e1];exact o.n1,a,Int.le_trans b o.s1,by rw[e2];exact o.h0,by rw[e2];exact o.h1⟩,?_⟩;unfold bz;rw[e1]
theorem ŋ.nn{ps rs:UV}(h:∀r∈rs,ŋ ps r):∀r∈rs,0<=fl r 3:=λr hr=>Int.le_trans Û (h r hr).s0
def xD(c:WF)(ps ss:UV)(o:Nat->Int)(y:Int)(s:Nat):Int:=aU (dO ps ss s y)+o s-c.getD s 0
def dn(x:Nat->Int):Nat->Int|0=>0|n+1=>max 0 (dn x n-x n)
def oS(cs ps ss:UV):Nat->Nat->Int|0,_=>0|m+1,s=>max 0 (xD (cs.getD m []) ps ss (oS cs ps ss m) m s-dn (xD (cs.getD m []) ps ss (oS cs ps ss m) m) s)
theorem GC(x:Nat->Int):∀n,0<=dn x n|0=>ϵ _|n+1=>by show 0<=max 0 _;lia
structure Ω(cs ps ss:UV)(m:Nat)(K:UV):Prop where
 ok:∀r∈K,ŋ ps r
 sm:∀s:Nat,s<3->aU (bu ps K s)=oS cs ps ss m s
 len:K.length<=240*m
def aO(cs ps ss:UV)(m:Nat):Nat->Int|0=>0|n+1=>aO cs ps ss m n+oS cs ps ss m n
theorem jF:∀{ps K:UV},(∀r∈K,0<=bz ps r/\bz ps r<3)->aU K=aU (bu ps K (0:Nat))+aU (bu ps K (1:Nat))+aU (bu ps K (2:Nat))
 |_,[],_=>rfl|ps,r::K,h=>by
  have ih:=jF λq hq=>h q (.tail _ hq);have h0:=h r (.head _);have e:∀s:Nat,aU (bu ps (r::K) s)=aU (bu ps K s)+if bz ps r=s then fl r 3 else 0:=λs=>by
   have:r::K=[r]++K:=rfl;rw[this,j7,ie,j8 (s:=bz ps r) (λq hq=>by rw[ű.mp hq])];by_cases z:bz ps r=s;.rw[Í z.symm,Í z];show fl r 3+0+_=_;lia
   .rw[Ë λw=>z w.symm,Ë z];show 0+_=_;lia
  have es:aU (r::K)=fl r 3+aU K:=rfl;rw[e,e,e,es,ih];split<;>split<;>split<;>lia
def cap(ps ow:UV):Nat->Nat|0=>0|n+1=>cap ps ow n+(80+(bu ps ow n).length)
theorem GD(ps ow:UV)(h:a<=b):cap ps ow a<=cap ps ow b:=by induction h with|refl=>exact ß _;|step _ ih=>exact ŝ ih (Nat.le_add_right ..)
theorem vm(ps:UV):∀ow,cap ps ow 3<=240+ow.length
 |[]=>ß _|r::ow=>by
  have ih:=vm ps ow;have e:∀s:Int,(bu ps (r::ow) s).length=(bu ps ow s).length+if bz ps r=s then 1 else 0:=λs=>by
   have:r::ow=[r]++ow:=rfl;rw[this,j7,õ,j8 (s:=bz ps r) (λq hq=>by rw[ű.mp hq])];by_cases z:bz ps r=s;.rw[Í z.symm,Í z];exact Nat.add_comm ..
   .rw[Ë λw=>z w.symm,Ë z];exact Nat.zero_add _
  have c:∀ow:UV,cap ps ow 3=0+(80+(bu ps ow (0:Nat)).length)+(80+(bu ps ow (1:Nat)).length)+(80+(bu ps ow (2:Nat)).length):=λ_=>rfl;rw[c]at ih⊢;rw[e,e,e,ĳ];split<;>split<;>split<;>lia
theorem ŋ.sort{ps:UV}(okp:∀r∈ps,ě r)(o:ŋ ps r):0<=bz ps r/\bz ps r<3:=by obtain⟨p,_,ep,op⟩:=gB okp o.n0 o.n1;unfold bz;rw[ep];exact op.2.2.1
theorem Ω.all{cs ps ss K:UV}(okp:∀r∈ps,ě r)(h:Ω cs ps ss m K):aU K=aO cs ps ss m 3:=by rw[jF λr hr=>(h.ok r hr).sort okp,h.sm 0 Û,h.sm 1 Û,h.sm 2 Û];show _=0+oS cs ps ss m 0+oS cs ps ss m 1+oS cs ps ss m 2;rw[Int.zero_add]
end K51
open K51P (é)
namespace K51
open PySem L2
structure YI(ps:UV)(X:Nat->Int)(N:Nat->Nat)(i:Nat)(G K:UV)(L:WF):Prop where
 g:∀r∈G,ŋ ps r
 k:∀r∈K,ŋ ps r
 gl:G.length<=N i
 kl:K.length<=N i
 ll:L.length=i
 sm:∀s:Nat,aU (bu ps K s)=if s<i then max 0 (X s-dn X s)else 0
theorem YI.step(h:YI ps X N i G K L){cl:UV}(dQ:∀r∈cl,ŋ ps r/\bz ps r=i)(hl:N i+cl.length<=N (i+1))(hX:X i=aU cl-(w-dn X i))(v:Z0q w cl G' K')(l:Int):YI ps X N (i+1) (G++G') (K++K') (L++[l])/\w-aU G'=dn X (i+1):=by
 have gk:∀r∈G',ŋ ps r:=λr hr=>by obtain⟨q,hq,p⟩:=v.gp r hr;exact(Bp p (dQ q hq).1).1
 have kk:∀r∈K',ŋ ps r/\bz ps r=i:=λr hr=>by obtain⟨q,hq,p⟩:=v.kp r hr;obtain⟨a,b⟩:=Bp p (dQ q hq).1;exact⟨a,b.trans (dQ q hq).2⟩
 have h1:=v.gl;have h2:=v.kl;have h3:=h.gl;have h4:=h.kl;have es:aU K'=max 0 (X i-dn X i):=by rw[v.ks];lia
 refine⟨⟨λr hr=>(Ę.mp hr).elim (h.g r) (gk r),λr hr=>(Ę.mp hr).elim (h.k r) λz=>(kk r z).1,by rw[õ];lia,by rw[õ];lia,by rw[õ,h.ll];rfl,λs=>?_⟩,?_⟩
 .rw[j7,ie,h.sm s,j8 (λr hr=>(kk r hr).2)];by_cases z:s=i;.rw[Ë Â,Í Â,Í Â,es,z];lia
  .rw[Ë (show¬(s:Int)=i by lia)];show _+0=_;rw[Int.add_zero];by_cases y:s<i;.rw[Í y,Í Â]
   .rw[Ë y,Ë Â]
 .show _=max 0 (dn X i-X i);rw[v.gs];lia
theorem za{a b:WF}(h:a.Perm b):a.sum=b.sum:=by induction h with|nil=>rfl;|cons x _ ih=>rw[Ľ,Ľ,ih];|swap x y l=>rw[Ľ,Ľ,Ľ,Ľ];lia;|trans _ _ h1 h2=>exact h1.trans h2
theorem YI.perm(h:YI ps X N i G K L)(pg:G'.Perm G)(pk:K'.Perm K):YI ps X N i G' K' L:=⟨λr hr=>h.g r (pg.mem_iff.mp hr),λr hr=>h.k r (pk.mem_iff.mp hr),by rw[pg.length_eq];exact h.gl,by rw[pk.length_eq];exact h.kl,h.ll,λs=>by rw[<-h.sm s];exact za ((pk.filter _).map _)⟩
def vInt:V->Int|.int i=>i|_=>0
def jG(H:Hp)(a:Addr):WF:=match H a with|some (.tup xs)=>xs.map vInt|_=>[]
theorem Bq(e:H a=some (.tup (r.map V.int))):jG H a=r:=by unfold jG;rw[e];show(r.map V.int).map vInt=r;rw[Ĳ];exact List.map_id _
theorem pA:∀{xs:List V}{rs:UV},ï H xs rs->∃ads:Č,xs=ads.map V.ref/\rs=ads.map (jG H)/\∀a∈ads,H a=some (.tup ((jG H a).map V.int))
 |[],[],_=>⟨[],rfl,rfl,λa ha=>(by cases ha)⟩|[],_::_,h=>by have:=h.1;simp at this;|_::_,[],h=>by have:=h.1;simp at this;|x::xs,r::rs,h=>by
  obtain⟨t,e1,e2⟩:=h.2 0 r rfl;rw[List.getElem?_cons_zero]at e1;cases e1;obtain⟨ads,f1,f2,f3⟩:=pA (xs:=xs) (rs:=rs) ⟨by have:=h.1;simpa using this,λi q e=>by obtain⟨u,g1,g2⟩:=h.2 (i+1) q (by rw[Za3];exact e);rw[Za3]at g1;exact⟨u,g1,g2⟩⟩;have er:=Bq e2;refine⟨t::ads,by rw[f1];rfl,by rw[f2,Ī,er,<-f2],λa ha=>?_⟩;rcases ĩ.mp ha with z|z;.rw[z,er];exact e2
  .exact f3 a z
theorem zf{l':Č}(h:∀a∈l',H' a=some (.tup ((jG H a).map V.int))):ï H' (l'.map V.ref) (l'.map (jG H)):=by refine⟨by rw[Ø,Ø],λi r e=>?_⟩;rw[ċ]at e;cases z:l'[i]? with|none=>rw[z]at e;cases e;|some a=>rw[z]at e;cases e;exact⟨a,by rw[ċ,z];rfl,h a (ŕ z)⟩
inductive ω(vs:List V)(H:Hp)(Q:VK):Prop|mk:∀bk y lo ac xc cs ap xp ps ar xs ss xo ow,(vs=[.ref bk,.int y,.ref lo])->(H bk=some (.tup [.ref ac,.ref ap,.ref ar]))->(È H ac xc cs)->((∀r∈cs,r.length=3/\∀x∈r,0<=x))->(0<=y)->(y<cs.length)->(È H ap xp ps)->(ps.length<=10)->((∀r∈ps,ě r))->(È H ar xs ss)->(ss.length<=12)->((∀s∈ss,s.length=5))->(un ps ss=none)->(H lo=some (.lst xo))->(ï H xo ow)->(Ω cs ps ss y.toNat ow)->(ow.length<=24000)->(∀t g k tl xg xk G K L H',À H H'->H' t=some (.tup [.ref g,.ref k,.ref tl])->H g=none->H k=none->(g≠sysModules/\k≠sysModules)->H' g=some (.lst xg)->ï H' xg G->(∀r∈G,ŋ ps r)->G.length<=240*(y.toNat+1)->H' k=some (.lst xk)->ï H' xk K->Ω cs ps ss (y.toNat+1) K->L.length=3->H' tl=some (.tup ((L:WF).map V.int))->Q (.ref t) H')->ω  vs H Q
def GF:Sp:=λvs H Q _=>ω  vs H Q
theorem JC(h:un ps ss=none)(h5:∀s∈ss,s.length=5):∀s∈ss,ζ s:=λs hs=>by obtain⟨j,hj,e⟩:=Zao hs;have:=Gy h j hj;rw[á hj,e]at this;exact mL (h5 s hs) this
theorem fZ{tb:TS}(R:Hp->Prop)(h:R H)(g:∀H,R H->tb D σ H):tb D σ H:=g H h
theorem ndZ:(["row","promises","sort"]:ó).Nodup:=by decide+kernel
theorem ĝ:Ã ["book","year","owed","clips","promises","sales","gifts","lacking","left","down","sort","wool","claims","ahead","given","lacked"] ["book","year","owed"] (aD (top 59)):=ö
theorem JD(F:ã K "year_given" "year_given" (top 59) f fd)(T:Mg mg)(N:Nums mg)(Tr:mg "range"=none)(Ts:mg "sorted"=none)(c1:å P w K mg base 2 "claims_in" ["promises","sales","sort","year"] xQ)(c2:å P w K mg base 8 "sort_given" ["wool","claims","owed"] Gv)(c3:å P w K mg base 1 "sacks_of" ["rows"] Bj):Ñ P w K mg base ä 9 f fd ["book","year","owed"] GF:=by
 refine F.oq ĝ λai A outer s H vs Q E hr h=>?_;obtain⟨bk,y,lo,ac,xc,cs,ap,xp,ps,ar,xs,ss,xo,ow,rfl,eb,rc,okc,y0,y1,rp,lp,okp,rs,ls,h5,hu,eo,rq,rX,U9,q⟩:=h;have PZ:=rX.ok;obtain⟨t3,e3⟩:=N.sorts;refine K51P.ok_b (aM ⟨d7 (pv 0) (cj rfl (aA (Ö 3 ĝ.nd) (aA (bJ (i:=4) ĝ.nd rfl (Or.inr rfl)) (aA (Ö 5 ĝ.nd) aY))))⟩ (aM (fV 6 ĝ.nd (eF bC)) (aM (fV 7 ĝ.nd (eF bC)) (aM (fV 8 ĝ.nd (eF bC)) (aM (fV 9 ĝ.nd gm) (aM ⟨cP Ĺ rfl (fK rfl Tr (au (cg (v:=.int 3) rfl e3 ⟨_,rfl⟩) ao)) (bJ (i:=10) ĝ.nd rfl (Or.inr rfl)) (jZ (aM (fV 11 ĝ.nd (km cu (qp bQ (qp bQ ⟨pv 3⟩ ⟨pv 1⟩ (λ_ _=>rfl)) ⟨pv 10⟩ (λ_ _=>rfl)) ⟨pv 9⟩)) (aM (fV 12 ĝ.nd ⟨aH c1 hr (au (pv 4) (au (pv 5) (au (pv 10) (au (pv 1) ao))))⟩) (aM ⟨jd (i:=13) ["row","promises","sort"] [none,some 4,some 10] rfl ĝ.nd rfl (Or.inl rfl) (dN (pv 2)) (λC fp Á s₂ Õ=>⟨Ö 0 ndZ,iB (aZ ig (pX (K51P.ix_tupK (K:=K) rfl) (pX (K51P.ix_tupK (K:=K) rfl) (pv 1) (pX (K51P.ix_tupK (K:=K) rfl) (pv 0) az)) az) (pv 2) (bf _)),pv 0⟩) (λC=>cI (cI trivial)) ⟨rfl,rfl,rfl,rfl⟩⟩ (aM ⟨d7 (aH c2 hr (au (pv 11) (au (pv 12) (au (pv 13) ao)))) (cj rfl (aA (Ö 14 ĝ.nd) (aA (Ö 15 ĝ.nd) aY)))⟩ (aM (fV 9 ĝ.nd (km dG ⟨pv 11⟩ ⟨aH c3 hr (au (pv 14) ao)⟩)) (aM ⟨pL (i:=6) ĝ.nd rfl (Or.inl rfl) (pv 14) uQ⟩ (aM ⟨pL (i:=7) ĝ.nd rfl (Or.inl rfl) (pv 15) uQ⟩ (cF ⟨cB (fQ Ŷ Ϯ ϯ d9 (pv 8) (au (pv 9) ao))⟩)))))))))⟩ (cF (gQ (fG (bh ⟨aG gA rfl Ts é (au (pv 6) ao)⟩ (bh ⟨aG gA rfl Ts é (au (pv 7) ao)⟩ (bh ⟨bN bR rfl T.tuple Ò (au (pv 8) ao)⟩ bC)))))))))))) ?_;refine aP ?_;refine⟨_,rfl,bk,_,rfl,Î.of eb,rfl,_,_,rfl,_,_,rfl,_,_,rfl,rfl,?_⟩;dsimp only;refine aP (aW ?_);refine⟨zL,λlg vi=>?_⟩;refine aJ ?_;dsimp only;refine aP (aW ?_);refine⟨zL,λlk pd=>?_⟩;refine aJ ?_;dsimp only;refine aP (aW ?_);refine⟨zL,λll gz=>?_⟩;refine aJ ?_;dsimp only;refine aP (aW ?_);refine aJ ?_;dsimp only;have s1:=À.upd (o:=.lst []) vi;have s2:=À.upd (o:=.lst []) pd;have s3:=À.upd (o:=.lst []) gz;have Ve:H lg=none:=vi;have lT:H lk=none:=s1.free pd;have Vf:H ll=none:=(s1.trans s2).free gz;have P1:lg≠lk:=λz=>by rw[<-z,aj]at pd;cases pd
 have P2:lk≠ll:=λz=>by rw[<-z,aj]at gz;cases gz
 have P4:lg≠ll:=λz=>by rw[<-z,s2 _ _ aj]at gz;cases gz
 refine fZ (λH1=>À H H1/\H1 lg=some (.lst [])/\H1 lk=some (.lst [])/\H1 ll=some (.lst [])) ⟨(s1.trans s2).trans s3,s3 _ _ (s2 _ _ aj),s3 _ _ aj,aj⟩ λH1=>?_;rintro⟨k1,DE,Vg,ń⟩;clear s1 s2 s3 vi pd gz;obtain⟨m,rfl⟩:∃m:Nat,y=m:=⟨y.toNat,Â⟩;rw[ś]at rX q;have Mb:m<cs.length:=Â;obtain⟨tc,EF,se⟩:=iH rc y0 (show cs[m]?=some cs[m]from à Mb);have Vh:cs.getD m []=cs[m]:=á Mb;have EG:=okc _ (Ě Mb);have q:∀t g k tl xg xk G K L H',À H H'->H' t=some (.tup [.ref g,.ref k,.ref tl])->H g=none->H k=none->(g≠sysModules/\k≠sysModules)->H' g=some (.lst xg)->ï H' xg G->H' k=some (.lst xk)->ï H' xk K->YI ps (xD cs[m] ps ss (oS cs ps ss m) m) (cap ps ow) 3 G K L->H' tl=some (.tup ((L:WF).map V.int))->Q (.ref t) H':=λt g k tl xg xk G K L H' a b c d e f u v w z x=>q t g k tl xg xk G K L H' a b c d e f u z.g (by have:=z.gl;have:=vm ps ow;have:=rX.len;lia) v w ⟨z.k,λs hs=>by rw[z.sm s,Í hs];show _=max 0 (xD (cs.getD m []) ps ss (oS cs ps ss m) m s-_);rw[Vh],by have:=z.kl;have:=vm ps ow;have:=rX.len;lia⟩ z.ll x;have hX:∀s:Nat,s<3->xD cs[m] ps ss (oS cs ps ss m) m s=aU (dO ps ss s m++bu ps ow s)-cs[m].getD s 0:=λs hs=>by rw[ie,rX.sm s hs];rfl
 generalize xD cs[m] ps ss (oS cs ps ss m) m=X at q hX;generalize cs[m]=c at q se EG hX;have cw:=JC hu h5;refine aP ?_;refine⟨3,rfl,by decide,by decide,?_⟩;refine dW (lo:=0) (λi σ Hc=>Xe11 λl8 lP kM fF fI fN xg xk G K L=>Xa8 (σ=[some (.ref bk),some (.int m),some (.ref lo),some (.ref ac),some (.ref ap),some (.ref ar),some (.ref lg),some (.ref lk),some (.ref ll),some (.int (dn X i)),l8,lP,kM,fF,fI,fN]) (À H Hc) (Hc lg=some (.lst xg)) (ï Hc xg G) (Hc lk=some (.lst xk)) (ï Hc xk K) (Hc ll=some (.lst (L.map V.int))) (YI ps X (cap ps ow) i G K L)) ?_ ?_ ?_;.exact⟨none,none,none,none,none,none,[],[],[],[],[],rfl,k1,DE,ï.nil,Vg,ï.nil,ń,⟨λ_ h=>(nomatch h),λ_ h=>(nomatch h),ĥ _,ĥ _,rfl,λs=>rfl⟩⟩
 .rintro i σ Hc hi⟨l8,lP,kM,fF,fI,fN,xg,xk,G,KK,L,rfl,k,eg,elg,ek,iP,el,yi⟩;have hi:i<3:=hi;refine aJ ?_;have z0:(0:Int)+(i:Int)=i:=Â;rw[z0];refine Gn λDe GI=>?_;have Mc:(c.map V.int)[i]?=some (.int (c.getD i 0)):=by have eB:i<c.length:=Â;rw[ċ,Ĭ,à eB];rfl
  refine aP (aW ?_);refine⟨_,rfl,_,rfl,ac,xc,m,.ref tc,rfl,rfl,Î.of (k _ _ rc.e),EF,_,rfl,tc,_,i,.int (c.getD i 0),rfl,rfl,Î.of (k _ _ se),fj Mc,_,rfl,_,_,rfl,rfl,?_⟩;refine aJ ?_;dsimp only;have dn0:=GC X i;have cn:=vg EG.2 i;refine aP (aW ?_);refine⟨_,rfl,_,rfl,_,rfl,_,rfl,ap,xp,ps,ar,xs,ss,i,m,rfl,rp.same k,lp,okp,rs.same k,ls,cw,λlc Vi H2 s2 nlc Ee Md=>?_⟩;refine aJ ?_;dsimp only;have k2:=k.trans s2;refine aP ?_;refine⟨_,rfl,lo,rfl,⟨_,Ê.of (k2 _ _ eo)⟩,gK ow.length (λj ys σ Hj=>À H2 Hj/\(∃o1,σ=[o1,some (.ref ap),some (.int i)])/\ï Hj ys (bu ps (ow.take j) i)) ⟨À.refl _,⟨_,rfl⟩,ï.nil⟩ ŷ ?_ ?_⟩
  .rintro j ys σ Hj hj hy⟨sc,⟨o1,rfl⟩,kN⟩;have kj:=k2.trans sc;have kr:Ê K Hj lo xo:=Ê.of (kj _ _ eo);obtain⟨tr,ex,fq⟩:=rq.2 j ow[j] (à hj);have oj:=PZ _ (Ě hj);have o4:=oj.l;have o5:=oj.n0;have Me:=fq;rw[fY o4]at fq;obtain⟨p,hp,ep,op⟩:=gB okp o5 oj.n1;obtain⟨tp,fm,fw⟩:=iH rp o5 hp;rw[fB op.1]at fw;have cb:bu ps (ow.take (j+1)) i=bu ps (ow.take j) i++(if fl p 1=i then[ow[j]]else[]):=by
    rw[ī,à hj];unfold bu bz;rw[show(some ow[j]).toList=[ow[j]]from rfl,Zaz];congr 1;by_cases h:fl p 1=i;.rw[Í h,zBg (by rw[ep];exact ð h)];rfl
    .rw[Ë h,zBf (by rw[ep,Ć];exact h)];rfl
   refine⟨⟨_,_,kr,ex⟩,λx H' yv R hR=>?_⟩;obtain⟨rfl,yv⟩:=yv;have yv:=yv _ kr;rw[ex]at yv;cases yv;refine aJ ?_;refine⟨_,rfl,_,rfl,tr,_,1,.int (fl ow[j] 1),rfl,rfl,Î.of (kj _ _ fq),rfl,ap,xp,_,.ref tp,rfl,rfl,Î.of (kj _ _ rp.e),fm,tp,_,1,.int (fl p 1),rfl,rfl,Î.of (kj _ _ fw),rfl,_,rfl,rfl,_,rfl,?_⟩;by_cases h:fl p 1=i;.rw[ð (by rw[h])];refine bx ⟨_,rfl,hR _ _ _ (by rw[õ];show ys.length+1<=j+1;lia) ⟨sc,⟨_,rfl⟩,?_⟩⟩;rw[cb,Í h];exact kN.app (ï.one (kj _ _ Me))
   .rw[Ĝ (λz=>h (by injection z))];refine bA (hR _ _ _ Â ⟨sc,⟨_,rfl⟩,?_⟩);rw[cb,Ë h,Ś];exact kN
  rintro ya σ Hj hy⟨sc,_,uk⟩;rw[ł]at uk;refine⟨⟨_,Ê.of (sc _ _ (k2 _ _ eo)),by rw[rq.1];exact ß _⟩,λla yY=>?_⟩;have sa:=sc.updR (o:=.lst ya) yY;have P5:=aj (H:=Hj) (a:=la) (o:=.lst ya);have uk:=uk.same (À.upd (o:=.lst ya) yY);generalize upd Hj la (.lst ya)=H3 at sa P5 uk⊢;have k3:=k2.trans sa;have sH:=s2.trans sa;dsimp only;have dQ:=tX (sort:=i) (year:=m) hu h5 okp;have uS:=qP (ss:=ss) (sort:=i) (year:=m) lp;have GL:=Gz (sort:=i) PZ;have hal:=Dz ps ow i;refine aP ?_;refine⟨_,rfl,_,rfl,_,rfl,c.getD i 0+dn X i,lc,Vi,dO ps ss i m,la,ya,bu ps ow i,rfl,sa _ _ Ee,Md.same sa,λr hr=>⟨(dQ r hr).1.l,(dQ r hr).1.s0,(dQ r hr).1.s1⟩,uS,Â,P5,uk,λr hr=>⟨(GL r hr).1.l,Int.le_trans Û (GL r hr).1.s0⟩,Â,λt g kk mS sf GG K' H4 s4 gv et ng nk P6 zw Vj EH=>⟨t,_,rfl,Î.of et,rfl,_,_,rfl,_,_,rfl,rfl,?_⟩⟩;have k4:=k3.trans s4;have Vk:=sH.trans s4;obtain⟨GN,ed⟩:=yi.step (λr hr=>(Ę.mp hr).elim (dQ r) (GL r)) (by show _<=cap ps ow i+(80+_);rw[õ];lia) (by rw[hX i hi];lia) gv (c.getD i 0+dn X i-aU GG);have l3:=ŝ (GD ps ow (show i+1<=3 from hi)) (vm ps ow);have gl:=ŝ GN.gl l3;have kl:=ŝ GN.kl l3;have g4:∀r∈GG,r.length=4:=λr hr=>(GN.g r (Ŗ _ hr)).l;rw[õ]at gl kl;rw[<-ed]at GI;have yl:=yi.ll;clear gv yi GL dQ;dsimp only;refine aP (aW ?_);refine⟨_,rfl,_,rfl,g,mS,GG,rfl,P6,zw,g4,Â,λH5 s5=>⟨_,_,rfl,rfl,?_⟩⟩;refine aJ ?_;dsimp only;have k5:=k4.trans s5;have EI:=Vk.trans s5;have ngl:g≠lg:=(aB (sH _ _ eg) ng).symm;have Vl:kk≠lg:=(aB (sH _ _ eg) nk).symm;have P7:=EI _ _ eg;have Vm:=EI _ _ ek;have el5:=EI _ _ el;refine aP ?_;refine⟨_,rfl,_,rfl,lg,g,xg,mS,rfl,rfl,P7,s5 _ _ P6,by rw[elg.1,zw.1,sizeLine_eq];lia,?_⟩;dsimp only;have MA:∀b z,H5 b=some (.tup z)->upd H5 lg (.lst (xg++mS)) b=some (.tup z):=λb z e=>by rw[aq λw=>by rw[w,P7]at e;cases e];exact e
  have k6:À H (upd H5 lg (.lst (xg++mS))):=λb o e=>by rw[aq (aB e Ve)];exact k5 _ _ e
  have P8:=aj (H:=H5) (a:=lg) (o:=.lst (xg++mS));have EJ:=((elg.same EI).app (zw.same s5)).keep MA;have MB:upd H5 lg (.lst (xg++mS)) lk=some (.lst xk):=by rw[aq P1.symm];exact Vm
  have EK:upd H5 lg (.lst (xg++mS)) kk=some (.lst sf):=by rw[aq Vl];exact s5 _ _ Vj
  have P9:upd H5 lg (.lst (xg++mS)) ll=some (.lst (L.map V.int)):=by rw[aq P4.symm];exact el5
  have EL:=(iP.same EI).keep MA;have vj:=(EH.same s5).keep MA;generalize upd H5 lg (.lst (xg++mS))=H6 at k6 P8 EJ MB EK P9 EL vj⊢;refine aP ?_;refine⟨_,rfl,_,rfl,lk,kk,xk,sf,rfl,rfl,MB,EK,by rw[iP.1,EH.1,sizeLine_eq];lia,?_⟩;dsimp only;have Qb:∀b z,H6 b=some (.tup z)->upd H6 lk (.lst (xk++sf)) b=some (.tup z):=λb z e=>by rw[aq λw=>by rw[w,MB]at e;cases e];exact e
  have k7:À H (upd H6 lk (.lst (xk++sf))):=λb o e=>by rw[aq (aB e lT)];exact k6 _ _ e
  have Qr:upd H6 lk (.lst (xk++sf)) lg=some (.lst (xg++mS)):=by rw[aq P1];exact P8
  have EM:=EJ.keep Qb;have QA:=aj (H:=H6) (a:=lk) (o:=.lst (xk++sf));have EN:=(EL.app vj).keep Qb;have GO:upd H6 lk (.lst (xk++sf)) ll=some (.lst (L.map V.int)):=by rw[aq P2.symm];exact P9
  generalize upd H6 lk (.lst (xk++sf))=H7 at k7 Qr EM QA EN GO⊢;refine⟨_,rfl,.inl ⟨rfl,_,Ê.of GO⟩,_,rfl,ll,_,_,rfl,rfl,GO,by rw[Ø,yl,sizeLine_eq];lia,?_⟩;have QE:∀{o:HO}b z,H7 b=some (.tup z)->upd H7 ll o b=some (.tup z):=λb z e=>by rw[aq λw=>by rw[w,GO]at e;cases e];exact e
  refine GI _ _ ⟨_,_,_,_,_,_,xg++mS,xk++sf,_,_,_,rfl,λb o e=>?_,?_,EM.keep QE,?_,EN.keep QE,?_,GN⟩;.rw[aq (aB e Vf)];exact k7 _ _ e
  .rw[aq P4];exact Qr
  .rw[aq P2];exact QA
  .rw[aj,ô];rfl
 .rintro σ Hc⟨l8,lP,kM,fF,fI,fN,xg,xk,G,KK,L,rfl,k,eg,elg,ek,iP,el,yi⟩;obtain⟨ag,Vn,QI,QK⟩:=pA elg;obtain⟨ak,Vo,KO,QL⟩:=pA iP;subst Vn Vo;dsimp only;have nn:∀{rs:UV}{ads:Č},rs=ads.map (jG Hc)->(∀r∈rs,ŋ ps r)->∀a∈ads,jG Hc a≠[]:=λ{rs ads}h h4 a ha z=>by have:=(h4 (jG Hc a) (by rw[h];exact List.mem_map_of_mem ha)).l;rw[z]at this;cases this
  refine⟨_,rfl,lg,ag,jG Hc,rfl,Ê.of eg,λa ha=>⟨Î.of (QK a ha),nn QI yi.g a ha⟩,λg l1 hg GS QM=>?_⟩;have sg:=À.upd (o:=.lst (l1.map V.ref)) hg;refine⟨_,rfl,lk,ak,jG Hc,rfl,Ê.of (sg _ _ ek),λa ha=>⟨Î.of (sg _ _ (QL a ha)),nn KO yi.k a ha⟩,λkk l2 hk Vp QN=>?_⟩;have sk:=sg.updR (o:=.lst (l2.map V.ref)) hk;refine⟨_,rfl,ll,_,rfl,.inl ⟨Ê.of (sk _ _ el),λtl GU=>?_⟩⟩;have sl:=sk.updR (o:=.tup (L.map V.int)) GU;refine⟨zL,λt ht=>?_⟩;have st:=sl.updR (o:=.tup [.ref g,.ref kk,.ref tl]) ht;have u1:=À.upd (o:=.lst (l2.map V.ref)) hk;have u2:=À.upd (o:=.tup (L.map V.int)) GU;have u3:=À.upd (o:=.tup [.ref g,.ref kk,.ref tl]) ht;refine q t g kk tl _ _ _ _ _ _ (k.trans st) aj (k.free hg) (k.free (sg.free hk)) ⟨GS,Vp⟩ (u3 _ _ (u2 _ _ (u1 _ _ aj))) (zf λa ha=>st _ _ (QK a (QM.mem_iff.mp ha))) (u3 _ _ (u2 _ _ aj)) (zf λa ha=>st _ _ (QL a (QN.mem_iff.mp ha))) (yi.perm ?_ ?_) (u3 _ _ aj);.rw[QI];exact QM.map _
  .rw[KO];exact QN.map _
def Ì(r:WF):WF:=[fl r 0,fl r 1,fl r 2]
def dJ(p:WF×Int):WF:=[fl p.1 0,fl p.1 1,fl p.1 2,fl p.1 3-p.2]
def iw(p:WF×Int):WF:=[fl p.1 0,fl p.1 1,fl p.1 2,p.2]
theorem zg:∀{k:Nat}{r:WF},r∈jm ps ss sort year k->∃(j h:Nat)(x:Int),j<k/\r=[year,j,h,x]
 |0,r,hr=>nomatch hr|k+1,r,hr=>by
  rcases Ę.mp (show r∈jm ps ss sort year k++jq ps ss sort year k from hr)with z|z;.obtain⟨j,h,x,a,b⟩:=zg z;exact⟨j,h,x,Â,b⟩
  .unfold jq at z;split at z;.obtain⟨q,hq,rfl⟩:=ñ.mp z;unfold fJ at hq;obtain⟨h,hh,rfl⟩:=ñ.mp hq;exact⟨k,h,_,Â,rfl⟩
   .cases z
theorem Ks:∀k,((jm ps ss sort year k).map Ì).Nodup
 |0=>List.nodup_nil|k+1=>by
  show((jm ps ss sort year k++jq ps ss sort year k).map Ì).Nodup;rw[ô,Zbb];refine⟨Ks k,?_,λa ha b hb e=>?_⟩
  .unfold jq;split;.unfold fJ;rw[Ĳ,Ĳ];refine List.Pairwise.map _ (R:=λa b=>a≠b) (λa b h e=>h ?_) (List.nodup_range.filter _);have e:[year,(k:Int),(a:Int)]=[year,(k:Int),(b:Int)]:=e;injection e with _ e;injection e with _ e;injection e with e;lia
   .exact List.nodup_nil
  .subst e;obtain⟨r,hr,e1⟩:=ñ.mp ha;obtain⟨j,h,x,a1,rfl⟩:=zg hr;obtain⟨r',gI,e2⟩:=ñ.mp hb;unfold jq at gI;split at gI;.obtain⟨q,hq,rfl⟩:=ñ.mp gI;rw[<-e1]at e2;have e2:[year,(k:Int),_]=[year,(j:Int),(h:Int)]:=e2;injection e2 with _ e2;injection e2 with e2;lia
   .cases gI
structure ClOk(ps:UV)(y:Int)(n:Nat)(cl:UV):Prop where
 ok:∀r∈cl,ŋ ps r/\bz ps r=n
 yr:∀r∈cl,fl r 0=y
 nd:(cl.map Ì).Nodup
 len:cl.length<=80
theorem Ow(hu:un ps ss=none)(h5:∀s∈ss,s.length=5)(okp:∀r∈ps,ě r)(hl:ps.length<=10):ClOk ps y n (dO ps ss n y):=⟨tX hu h5 okp,λr hr=>by obtain⟨j,h,x,_,rfl⟩:=zg hr;rfl,Ks _,qP hl⟩
structure Stg(ps:UV)(X o:Nat->Int)(y:Int)(n:Nat)(M G:UV):Prop where
 kd:(M.map Ì).Nodup
 ok:∀r∈M,r.length=4/\0<=fl r 1/\fl r 1<ps.length/\0<=fl r 3/\fl r 3<=99
 yr:∀r∈M,fl r 0<y\/(fl r 0=y/\bz ps r<n)sm:∀s:Nat,s<3->aU (bu ps M s)=if s<n then max 0 (X s-dn X s)else o s
 g4:∀r∈G,r.length=4
 len:M.length<=240*y.toNat+80*n
 glen:G.length<=n*(240*y.toNat+400)
def ò(ps M:UV)(n:Nat):UV:=M.filter λr=>!decide (bz ps r=n)
theorem gM{S:UV}{m:WF}{f:WF×Int->WF}(hk:∀p,Ì (f p)=Ì p.1)(hl:m.length=S.length):((S.zip m).map f).map Ì=S.map Ì:=by
 rw[Ĳ];have:(Ì∘f)=Ì∘Prod.fst:=by funext p;exact hk p
 rw[this,<-Ĳ,List.map_fst_zip Â]
theorem Br{m:WF}(hl:m.length=S.length):aU ((S.zip m).map dJ)=aU S-m.sum:=by rw[<-(vd hl).2];unfold aU Ċ;rw[Ĳ];rfl
theorem Stg.step(g:Stg ps X o y n M G)(h3:n<3){w:Int}{sh mg:WF}(dQ:ClOk ps y n cl)(pS:S.Perm (bu ps M n))(hX:X n=aU cl+o n-(w-dn X n))(hw:0<=w)(es:Ő w cl sh)(em:Ő (w-sh.sum) S mg):Stg ps X o y (n+1) (ò ps M n++(S.zip mg).map dJ++(cl.zip sh).map dJ) (G++(cl.zip sh).map iw++(S.zip mg).map iw)/\w-sh.sum-mg.sum=dn X (n+1):=by
 have hE:∀r∈S,r∈M/\bz ps r=n:=λr hr=>by obtain⟨a,b⟩:=δ.mp (pS.mem_iff.mp hr);exact⟨a,ŭ b⟩
 have A2:=es.len;have QO:=em.len;have lcl:=dQ.len;have hS:aU S=o n:=by have:=g.sm n h3;rw[Ë (η n)]at this;rw[<-this];exact za (pS.map _)
 have s1:=es.sum;have s2:=em.sum;have c0:=iu λr hr=>ŋ.nn (λr hr=>(dQ.ok r hr).1) r hr;have o0:=iu λr hr=>(g.ok r (hE r hr).1).2.2.2.1;have pm:(ò ps M n++S).Perm M:=(List.Perm.append_left _ pS).trans (List.perm_append_comm.trans (List.filter_append_perm (λr=>decide (bz ps r=n)) M));have e1:=pm.length_eq;rw[õ]at e1;refine⟨⟨?_,?_,?_,λs hs=>?_,?_,?_,?_⟩,?_⟩
 .have p1:(ò ps M n++(S.zip mg).map dJ).map Ì|>.Perm (M.map Ì):=by rw[ô,gM (f:=dJ) (λ_=>rfl) QO,<-ô];exact pm.map _
  rw[ô,Zbb,gM (f:=dJ) (λ_=>rfl) A2];refine⟨p1.nodup_iff.mpr g.kd,dQ.nd,λa ha b hb e=>?_⟩;subst e;obtain⟨r,hr,e1⟩:=ñ.mp (p1.mem_iff.mp ha);obtain⟨q,hq,e2⟩:=ñ.mp hb;have a1:=dQ.yr q hq;have a2:=(dQ.ok q hq).2;rw[<-e1]at e2;unfold Ì at e2;injection e2 with e3 e2;injection e2 with e4 e2;have:bz ps r=bz ps q:=by unfold bz;rw[e4]
  rcases g.yr r hr with z|z<;>lia
 .intro r hr;rcases Ę.mp hr with hr|hr
  .rcases Ę.mp hr with hr|hr;.exact g.ok r (δ.mp hr).1
   .obtain⟨p,hp,rfl⟩:=ñ.mp hr;obtain⟨k1,k2,k3,k4,k5⟩:=g.ok _ (hE _ (Ϫ (show(p.1,p.2)∈_ from hp)).1).1;exact⟨rfl,k2,k3,Int.sub_nonneg_of_le (em.bd p hp).2,Int.le_trans (Int.sub_le_self _ (em.bd p hp).1) k5⟩
  .obtain⟨p,hp,rfl⟩:=ñ.mp hr;have k:=(dQ.ok _ (Ϫ (show(p.1,p.2)∈_ from hp)).1).1;exact⟨rfl,k.n0,k.n1,Int.sub_nonneg_of_le (es.bd p hp).2,Int.le_trans (Int.sub_le_self _ (es.bd p hp).1) k.s1⟩
 .intro r hr;rcases Ę.mp hr with hr|hr
  .rcases Ę.mp hr with hr|hr
   .rcases g.yr r (δ.mp hr).1 with z|z;.exact .inl z
    .exact .inr ⟨z.1,Â⟩
   .obtain⟨p,hp,rfl⟩:=ñ.mp hr;rcases g.yr p.1 (hE _ (Ϫ (show(p.1,p.2)∈_ from hp)).1).1 with z|z;.exact .inl z
    .exact .inr ⟨z.1,by show bz ps p.1<_;lia⟩
  .obtain⟨p,hp,rfl⟩:=ñ.mp hr;have h1:=(Ϫ (show(p.1,p.2)∈_ from hp)).1;have k2:=(dQ.ok _ h1).2;exact .inr ⟨(dQ.yr p.1 h1:),by show bz ps p.1<_;lia⟩
 .have a:aU (bu ps (ò ps M n) s)=if s=n then 0 else aU (bu ps M s):=by
   unfold bu ò;rw[List.filter_filter];split;.rename_i z;rw[List.filter_eq_nil_iff.mpr λr _ e=>by rw[ġ,Bool.not_eq_true',Ć,decide_eq_false_iff_not,z]at e;exact e.2 e.1];rfl
   .rename_i z;congr 1;refine List.filter_congr λr _=>?_;by_cases e:bz ps r=s;.rw[ð e,Ĝ Â];rfl
    .rw[Ĝ e];rfl
  have b:bu ps ((S.zip mg).map dJ) s=if(s:Int)=n then(S.zip mg).map dJ else[]:=j8 (λr hr=>by obtain⟨p,hp,rfl⟩:=ñ.mp hr;exact(hE p.1 (Ϫ (show(p.1,p.2)∈_ from hp)).1).2) s;have c:bu ps ((cl.zip sh).map dJ) s=if(s:Int)=n then(cl.zip sh).map dJ else[]:=j8 (λr hr=>by obtain⟨p,hp,rfl⟩:=ñ.mp hr;exact(dQ.ok p.1 (Ϫ (show(p.1,p.2)∈_ from hp)).1).2) s;rw[j7,j7,ie,ie,a,b,c];by_cases z:s=n;.rw[Í z,Í Â,Í Â,Í Â,Br QO,Br A2,z];lia
  .rw[Ë z,Ë Â,Ë Â,g.sm s hs];show _+0+0=_;rw[Int.add_zero,Int.add_zero];by_cases u:s<n;.rw[Í u,Í Â]
   .rw[Ë u,Ë Â]
 .intro r hr;rcases Ę.mp hr with hr|hr
  .rcases Ę.mp hr with hr|hr;.exact g.g4 r hr
   .obtain⟨p,hp,rfl⟩:=ñ.mp hr;rfl
  .obtain⟨p,hp,rfl⟩:=ñ.mp hr;rfl
 .rw[õ,õ,Ø,Ø,Ž,Ž];have:=g.len;lia
 .rw[õ,õ,Ø,Ø,Ž,Ž];have:=g.len;have:=g.glen;rw[Nat.succ_mul];lia
 .show _=max 0 (dn X n-X n);lia
def ý(r:WF):List Key×V:=((Ì r).map Sum.inl,.int (fl r 3))
theorem pB:∀{a b:WF},(a.map (Sum.inl:Int->Key))=b.map Sum.inl->a=b|[],[],_=>rfl|[],_::_,h=>by simp at h;|_::_,[],h=>by simp at h;|x::a,y::b,h=>by rw[Ī,Ī]at h;injection h with h1 h2;injection h1 with h1;rw[h1,pB h2]
theorem vo{M:UV}(h:(M.map Ì).Nodup):((M.map ý).map (·.1)).Nodup:=by rw[Ĳ];have:((λx:List Key×V=>x.1)∘ý)=(λk:WF=>(k.map Sum.inl:List Key))∘Ì:=rfl;rw[this,<-Ĳ];exact List.Pairwise.map _ (λa b h e=>h (pB e)) h
theorem qQ[DecidableEq κ]{k:κ}{v:V}:∀{kvs:List (κ×V)},(kvs.map (·.1)).Nodup->(k,v)∈kvs->cQ kvs k=some v
 |[],_,h=>by cases h;|p::kvs,nd,h=>by
  rw[Ī,Za8]at nd;rcases ĩ.mp h with z|z;.rw[<-z];exact du rfl
  .rw[dw λe=>nd.1 (e▸ñ.mpr ⟨_,z,rfl⟩)];exact qQ nd.2 z
def ĸ(H:Hp)(d:Addr)(M:UV):Prop:=∃Mo:UV,H d=some (.dT (Mo.map ý))/\Mo.Perm M
theorem ĸ.get{r:WF}(h:ĸ H d M)(nd:(M.map Ì).Nodup)(hr:r∈M)(eb:H b=some (.tup ((Ì r).map V.int))):Ē H d (.ref b) (some (.int (fl r 3))):=by obtain⟨Mo,e,pm⟩:=h;have:=qQ (vo ((pm.map _).nodup_iff.mpr nd)) (ñ.mpr ⟨r,pm.mem_iff.mpr hr,rfl⟩);rw[<-this];exact Ē.t e (by rw[eb,Ĳ];rfl)
def GJ(r:WF)(x:Int)(q:WF):WF:=if Ì q=Ì r then[fl r 0,fl r 1,fl r 2,x]else q
theorem DG{Mo A B:UV}{r:WF}(pm:Mo.Perm (A++r::B))(nd:((A++r::B).map Ì).Nodup):∃A3:UV,ú (Mo.map ý) ((Ì r).map Sum.inl) (.int x)=A3.map ý/\A3.Perm (A++[fl r 0,fl r 1,fl r 2,x]::B):=by
 refine⟨Mo.map (GJ r x),?_,?_⟩
 .unfold ú;rw[Í (List.any_eq_true.mpr ⟨ý r,ñ.mpr ⟨r,pm.mem_iff.mpr (Ę.mpr (.inr (.head _))),rfl⟩,ð rfl⟩),Ĳ,Ĳ];refine Zbg λq _=>?_;show(if(ý q).1=_ then((ý q).1,V.int x)else ý q)=ý (GJ r x q);unfold GJ;by_cases e:Ì q=Ì r;.rw[Í e,Í (show(ý q).1=(Ì r).map Sum.inl by rw[<-e];rfl)];show((Ì q).map Sum.inl,V.int x)=((Ì r).map Sum.inl,V.int x);rw[e]
  .rw[Ë e];exact Ë λz=>e (pB z)
 .refine(pm.map _).trans ?_;rw[ô,Ī,Zbb,Za8]at nd;obtain⟨_,⟨n1,_⟩,n2⟩:=nd;have keep:∀l:UV,(∀q∈l,Ì q≠Ì r)->l.map (GJ r x)=l:=λl hl=>by refine(Zbg λq hq=>?_).trans (List.map_id l);exact Ë (hl q hq)
  rw[ô,Ī,keep A λq hq e=>n2 _ (ñ.mpr ⟨q,hq,rfl⟩) _ (.head _) e,keep B λq hq e=>n1 (by rw[<-e];exact ñ.mpr ⟨q,hq,rfl⟩),show GJ r x r=[fl r 0,fl r 1,fl r 2,x]from Í rfl]
def xT(acc h:Nat):Nat:=((((acc+h*14029467366897019727)%2^64)*2^31)%2^64+((acc+h*14029467366897019727)%2^64)/2^33)*11400714785074694791%2^64
def Mm(acc:Nat)(h:Int):Nat:=xT acc (h%((2^64:Nat):Int)).toNat
def oO(acc:Nat):Int:=if acc==2^64-1 then 1546275796 else if acc<2^63 then acc else(acc:Int)-(2^64:Nat)
def hLen(n:Nat):Nat:=n^^^(2870177450012600261^^^3527539)
theorem Ox(hs:WF):Builtin.Tuple.tupleHashOf hs=oO ((hs.foldl Mm 2870177450012600261+hLen hs.length)%2^64):=rfl
theorem qR{acc k:Nat}(h:k<100):Mm acc (k:Int)=xT acc k:=by unfold Mm;rw[Int.emod_eq_of_lt Â Â,ś]
def zj(y n h:Nat):Nat:=(xT (xT (xT 2870177450012600261 y) n) h+hLen 3)%2^64
theorem GK{y n h:Nat}(hy:y<100)(hn:n<100)(hh:h<100):Builtin.Tuple.tupleHashOf [(y:Int),(n:Int),(h:Int)]=oO (zj y n h):=by rw[Ox,List.foldl_cons,List.foldl_cons,List.foldl_cons,List.foldl_nil,qR hy,qR hn,qR hh];rfl
theorem GP:∀k:Fin 100,hashInt ((k.1:Nat):Int)=(k.1:Int):=by decide+kernel
def hOf(ks:WF):Int:=reduceHash (Builtin.Tuple.tupleHashOf ks)
theorem zm(n:a≠2^64-1):oO a=if a<2^63 then(a:Int)else(a:Int)-(2^64:Nat):=by unfold oO;rw[Ë (by simpa using n)]
theorem Bs(h:a<2^64)(n:a≠2^64-1):reduceHash (oO a)=oO a:=by
 have b:-(2^63:Int)<=oO a/\oO a<2^63/\oO a≠-1:=by rw[zm n];split<;>lia
 generalize oO a=x at b;unfold reduceHash;rw[Í (by rw[ġ,Ć,Ć];exact⟨b.1,b.2.1⟩),Ë (by simpa using b.2.2)]
theorem JF(ha:a<2^64)(na:a≠2^64-1)(hb:b<2^64)(nb:b≠2^64-1)(e:oO a=oO b):a=b:=by rw[zm na,zm nb]at e;split at e<;>split at e<;>lia
def apart(acc:Nat):List Nat->Bool|[]=>true|a::l=>match acc.testBit a with|true=>false|false=>apart (acc|||2^a) l
theorem xU:∀{l:List Nat}{acc:Nat},apart acc l=true->l.Nodup/\∀a∈l,acc.testBit a=false
 |[],_,_=>⟨List.nodup_nil,λa h=>by cases h⟩|a::l,acc,h=>by
  unfold apart at h;split at h;.cases h
  .rename_i e;obtain⟨h1,h2⟩:=xU h;refine⟨Za8.mpr ⟨λhm=>?_,h1⟩,λb hb=>?_⟩;.have:=h2 a hm;rw[Nat.testBit_or,Nat.testBit_two_pow_self,Bool.or_true]at this;cases this
   .rcases ĩ.mp hb with z|z;.rw[z];exact e
    .have:=h2 b z;rw[Nat.testBit_or,Bool.or_eq_false_iff]at this;exact this.1
def Mp(y:Nat):List Nat:=(List.range 80).map λj=>(zj y (j/8) (j%8))%870
def tops(y:Nat):Bool:=(List.range 80).all λj=>!(zj y (j/8) (j%8)==2^64-1)
theorem Mq:∀y,y<100->apart 0 (Mp y)=true:=by decide+kernel
theorem Mr:∀y,y<100->tops y=true:=by decide+kernel
theorem vq(y n h:Nat):zj y n h<2^64:=Nat.mod_lt _ Û
theorem JG{y n h n' h':Nat}(hy:y<100)(hn:n<10)(hh:h<8)(AL:n'<10)(QP:h'<8)(e:hOf [(y:Int),(n:Int),(h:Int)]=hOf [(y:Int),(n':Int),(h':Int)]):n=n'/\h=h':=by
 have top:=ō.mp (Mr y hy);have nt:∀n h,n<10->h<8->zj y n h≠2^64-1:=λn h hn hh=>by have:=top (8*n+h) (Ϣ.mpr Â);rw[show(8*n+h)/8=n by lia,show(8*n+h)%8=h by lia]at this;simpa using this
 unfold hOf at e;rw[GK Â Â Â,GK Â Â Â,Bs (vq ..) (nt n h hn hh),Bs (vq ..) (nt n' h' AL QP)]at e;have e:=JF (vq ..) (nt n h hn hh) (vq ..) (nt n' h' AL QP) e;have nd:(Mp y).Nodup:=(xU (Mq y hy)).1;unfold Mp at nd;have inj:∀i j,i<80->j<80->zj y (i/8) (i%8)=zj y (j/8) (j%8)->i=j:=λi j hi hj e=>by
  have nd:=List.pairwise_iff_getElem.mp nd;rcases Nat.lt_trichotomy i j with z|z|z;.have:=nd i j (by simpa using hi) (by simpa using hj) z;simp only[List.getElem_map,List.getElem_range]at this;exact absurd (by rw[e]) this
  .exact z
  .have:=nd j i (by simpa using hj) (by simpa using hi) z;simp only[List.getElem_map,List.getElem_range]at this;exact absurd (by rw[e]) this
 have:=inj (8*n+h) (8*n'+h') Â Â (by rw[show(8*n+h)/8=n by lia,show(8*n+h)%8=h by lia,show(8*n'+h')/8=n' by lia,show(8*n'+h')%8=h' by lia];exact e);lia
theorem Bt(y0:0<=y)(y1:y<100)(h:fl r 0=y/\0<=fl r 1/\fl r 1<10/\0<=fl r 2/\fl r 2<8):reduceHash (Builtin.Tuple.tupleHashOf ((ý r).1.map (um w)))=hOf [((y.toNat:Nat):Int),(((fl r 1).toNat:Nat):Int),(((fl r 2).toNat:Nat):Int)]:=by
 obtain⟨a,b,c,d,f⟩:=h;have el:(ý r).1.map (um w)=[hashInt (fl r 0),hashInt (fl r 1),hashInt (fl r 2)]:=rfl;have h0:hashInt (fl r 0)=((y.toNat:Nat):Int):=by have:=GP ⟨y.toNat,Â⟩;rw[show((y.toNat:Nat):Int)=fl r 0 by lia]at this⊢;exact this
 have h1:hashInt (fl r 1)=(((fl r 1).toNat:Nat):Int):=by have:=GP ⟨(fl r 1).toNat,Â⟩;rw[show(((fl r 1).toNat:Nat):Int)=fl r 1 by lia]at this⊢;exact this
 have h2:hashInt (fl r 2)=(((fl r 2).toNat:Nat):Int):=by have:=GP ⟨(fl r 2).toNat,Â⟩;rw[show(((fl r 2).toNat:Nat):Int)=fl r 2 by lia]at this⊢;exact this
 unfold hOf;rw[el,h0,h1,h2]
theorem Ms{f:List Key×V->Int}{L:UV}(nd:(L.map Ì).Nodup)(h:∀r∈L,∀q∈L,f (ý r)=f (ý q)->Ì r=Ì q):((L.map ý).map f).Nodup:=by rw[Ĳ];unfold List.Nodup at nd⊢;rw[List.pairwise_map]at nd⊢;exact nd.imp_of_mem λ{r q}hr hq n e=>n (h r hr q hq e)
theorem Mt{L:UV}(y0:0<=y)(y1:y<100)(h:∀r∈L,fl r 0=y/\0<=fl r 1/\fl r 1<10/\0<=fl r 2/\fl r 2<8)(nd:(L.map Ì).Nodup)(w:World):((L.map ý).map λp=>reduceHash (Builtin.Tuple.tupleHashOf (p.1.map (um w)))).Nodup:=by refine Ms nd λr hr q hq e=>?_;rw[Bt y0 y1 (h r hr),Bt y0 y1 (h q hq)]at e;obtain⟨a,b,c,d,f⟩:=h r hr;obtain⟨a',b',c',d',f'⟩:=h q hq;obtain⟨e1,e2⟩:=JG Â Â Â Â Â e;unfold Ì;rw[a,a',show fl r 1=fl q 1 by lia,show fl r 2=fl q 2 by lia]
structure Lk(cs ps ss:UV)(y:Nat)(M:UV):Prop where
 kd:(M.map Ì).Nodup
 ok:∀r∈M,r.length=4/\0<=fl r 1/\fl r 1<ps.length/\0<=fl r 3/\fl r 3<=99
 yr:∀r∈M,fl r 0<y
 sm:∀s:Nat,s<3->aU (bu ps M s)=oS cs ps ss y s
 len:M.length<=240*y
theorem Lk.start(g:Lk cs ps ss y M)(X:Nat->Int):Stg ps X (oS cs ps ss y) y 0 M []:=⟨g.kd,g.ok,λr hr=>.inl (g.yr r hr),λs hs=>g.sm s hs,λr hr=>(nomatch hr),by have:=g.len;lia,ĥ _⟩
theorem Stg.next(g:Stg ps (xD (cs.getD y []) ps ss (oS cs ps ss y) y) (oS cs ps ss y) y 3 M G):Lk cs ps ss (y+1) M:=by
 refine⟨g.kd,g.ok,λr hr=>?_,λs hs=>?_,by have:=g.len;lia⟩;.rcases g.yr r hr with z|z<;>lia
 .rw[g.sm s hs,Í hs];rfl
end K51
namespace K51P
open PySem L2
theorem zq{ws:WF}{Fin:List V->Hp->Prop}(f:Int->Int)(ep:H0 p=some (.lst (ws.map V.int)))(hl:ws.length<sizeLine)(kF:∀z Q,z∈ws->Q (.int (f z)) H0->te (cS.set 0 (some (.int z))) H0 Q)(fin:Fin ((ws.map f).map V.int) H0):jY (Itl K p) (bO 0) uC te Fin cS H0:=by
 refine dD ws.length (λi ys σ H=>H=H0/\(∀o,σ.set 0 o=cS.set 0 o)/\ys=((ws.take i).map f).map V.int) ⟨rfl,λ_=>rfl,rfl⟩ hl ?_ ?_
 .rintro i ys σ H hi hy⟨rfl,fA,rfl⟩;have hz:(ws.map V.int)[i]?=some (.int ws[i]):=by rw[ċ,à hi];rfl
  refine⟨⟨_,_,Ê.of ep,hz⟩,λv H' y' R hR=>?_⟩;obtain⟨rfl,y'⟩:=y';have hv:=y' _ (Ê.of ep);rw[hz]at hv;cases hv;show te (σ.set 0 (some (.int ws[i]))) _ _;rw[fA];refine kF ws[i] _ (Ě hi) (hR _ _ _ ⟨rfl,λo=>by rw[List.set_set],?_⟩);rw[ī,à hi,ô,ô];rfl
 .rintro ys σ H hy⟨rfl,fA,rfl⟩;refine⟨⟨_,Ê.of ep,by rw[Ø];exact ß _⟩,?_⟩;rw[ł];exact fin
inductive ŧ(vs:List V)(H:Hp)(Q:VK):Prop|mk:∀n p ws,(vs=[.int n,.ref p])->(H p=some (.lst (ws.map V.int)))->(OkW ws)->(0<=n)->(n<=ws.sum)->(∀H' q ps,PtOk n ws ps->À H H'->H q=none->H' q=some (.lst (ps.map V.int))->Q (.ref q) H')->ŧ  vs H Q
def spLParts:Sp:=λvs H Q _=>ŧ  vs H Q
section
theorem Qu:([ř,Ϝ,ABn]:ó).Nodup:=by decide+kernel
theorem Oz:(["_law_at",ř,Ϝ,ABn]:ó).Nodup:=by decide+kernel
theorem Ϡ:Ã [Ϝ,ABd,ABn,ϝ,"_law_order","_law_rest","_law_at"] [Ϝ,ABd] (aD (top 82)):=ö
theorem ok_lparted(F:ã K "_law_parted" "_law_parted" (top 82) f fd)(Ts:mg "sum"=none)(Te:mg "enumerate"=none)(To:mg "sorted"=none):Ñ P w K mg base ä 1 f fd [Ϝ,ABd] spLParts:=by
 refine F.oq Ϡ λai A outer s H vs Q E hr h=>?_;obtain⟨n,p,ws,rfl,ep,ok,n0,n1,q⟩:=h;refine⟨_,aC (mZ (i:=2) Ϡ.nd rfl (Or.inr rfl) (aG (dB rfl) rfl Ts ê (au (pv 1) ao))) (aC (jd (i:=3) [ř,Ϝ,ABn] [none,some 0,some 2] rfl Ϡ.nd rfl (Or.inl rfl) (dN (pv 1)) (λC fp Á s₂ Õ=>⟨Ö 0 Qu,bG,aV jN (aV gP (pv 1) (pv 0)) (pv 2)⟩) (λC=>cI (cI trivial)) ⟨rfl,rfl,rfl,rfl⟩) (aC (ĕ 4 Ϡ.nd (aG jj rfl To é (au (bD (g:=lN K 2 (cN (bO 0) (cN (bO 1) mX))) ["_law_at",ř,Ϝ,ABn] [none,none,some 0,some 2] rfl (ZT.pi_enum false rfl Te (au (pv 1) ao)) (λC fp Á s₂ Õ=>⟨fu rfl rfl (aA (Ö 0 Oz) (aA (Ö 1 Oz) aY)),bG,bW (au (aV dG az (aV iJ (aV gP (pv 2) (pv 1)) (pv 3))) (au (pv 0) ao))⟩) (λC=>cI (cI trivial)) ⟨rfl,rfl,rfl,rfl⟩) ao))) (aC (cP Ĺ rfl (dN (pP zU (pv 4) ur (ut (aV dG (pv 0) (aG (dB rfl) rfl Ts ê (au (pv 3) ao)))))) (cj rfl (aA (Ö 5 Ϡ.nd) (aA (Ö 6 Ϡ.nd) aY))) (aF (d7 (aV cu (pX bT (pv 3) (pv 6)) az) (mY (pv 3) (pv 6) ă)))) (aF (aQ (pv 3)))))),?_⟩;have hp:=ok.pos;have ht:=ok.top;have uS:=Gq ok;refine aN λc_ ae=>?_;refine⟨_,rfl,p,ws,rfl,.inl (Ê.of ep),?_⟩;refine ae _ _ ?_;clear ae c_;try dsimp only
 refine aN λc_ ae=>?_;refine⟨_,rfl,p,rfl,⟨_,Ê.of ep⟩,zq (λz=>n*z/ws.sum) ep uS (λz Q hz h=>⟨_,rfl,_,rfl,_,_,rfl,rfl,.inl ⟨Â,Â⟩,_,rfl,_,_,rfl,rfl,⟨Â,Â⟩,h⟩) ?_⟩;rw[show ws.map (λz=>n*z/ws.sum)=fs n ws from rfl];intro l1 ej;have s1:=À.upd (o:=.lst ((fs n ws).map V.int)) ej;have ń:=aj (H:=H) (a:=l1) (o:=.lst ((fs n ws).map V.int));have y9:H l1=none:=ej;generalize upd H l1 _=H1 at s1 ń⊢;clear ej;refine ae _ _ ?_;clear ae c_;try dsimp only
 have MC:=s1 _ _ ep;refine aN λc_ ae=>?_;refine⟨_,rfl,p,_,rfl,Ê.of MC,dD ws.length (λi ys σ Hc=>À H1 Hc/\(∃o1 o2,σ=[o1,o2,some (.int n),some (.int ws.sum)])/\∃ts:Č,ys=ts.map V.ref/\∀j,j<i->∃a v,ts[j]?=some a/\Hc a=some (.tup [.int v,.int (j:Int)])) ⟨À.refl H1,⟨_,_,rfl⟩,[],rfl,λj hj=>absurd hj (Za7 _)⟩ uS ?_ ?_⟩
 .rintro i ys σ Hc hi hy⟨A4,⟨o1,o2,rfl⟩,ts,rfl,mm⟩;rw[Ø]at hy;have kr:Ê K Hc p (ws.map V.int):=Ê.of (A4 _ _ MC);have hx:(ws.map V.int)[i]?=some (.int ws[i]):=by rw[ċ,à hi];rfl
  refine⟨⟨_,_,kr,hx⟩,λv H' y R hR=>?_⟩;obtain⟨T,nT,rfl,y⟩:=y;obtain⟨x',cq,rfl⟩:=y _ kr;rw[hx]at cq;cases cq;have s2:=A4.updR (o:=.tup [.int (i:Int),.int ws[i]]) nT;refine⟨T,_,rfl,Î.of aj,rfl,_,_,rfl,_,_,rfl,rfl,_,rfl,_,rfl,_,_,rfl,rfl,.inl ⟨Â,Â⟩,_,rfl,_,_,rfl,rfl,(by show 0<ws.sum;lia),_,_,rfl,rfl,_,rfl,zL,λt ht=>?_⟩;refine hR _ _ _ ⟨s2.updR ht,⟨_,_,rfl⟩,ts++[t],by rw[ô];rfl,λj hj=>?_⟩;by_cases e:j<i;.obtain⟨a,v,h1,h2⟩:=mm j e;exact⟨a,v,by rw[zBd Â];exact h1,À.upd ht _ _ (À.upd nT _ _ h2)⟩
  .have e:j=i:=Â;subst e;exact⟨t,_,by rw[zBc Â,hy,Nat.sub_self];rfl,aj⟩
 rintro ys σ Hc hy⟨A4,_,ts,rfl,mm⟩;rw[Ø]at hy;refine⟨⟨_,Ê.of (A4 _ _ MC),by rw[Ø];exact ß _⟩,λD hD=>?_⟩;have s2:=A4.updR (o:=.lst (ts.map V.ref)) hD;have hU:∀j,j<ws.length->∃a v,ts[j]?=some a/\upd Hc D (.lst (ts.map V.ref)) a=some (.tup [.int v,.int (j:Int)]):=λj hj=>by obtain⟨a,v,h1,h2⟩:=mm j hj;exact⟨a,v,h1,À.upd hD _ _ h2⟩
 have eD:=aj (H:=Hc) (a:=D) (o:=.lst (ts.map V.ref));generalize upd Hc D (.lst (ts.map V.ref))=H2 at s2 hU eD⊢;clear mm hD A4;have MD:∀a∈ts,∃v,H2 a=some (.tup [.int v,.int (dX H2 a:Int)])/\ħ H2 a=[v,(dX H2 a:Int)]:=λa ha=>by
  obtain⟨j,hj,e⟩:=Zao ha;obtain⟨b,v,h1,h2⟩:=hU j Â;rw[à hj]at h1;injection h1 with h1;rw[<-h1,e]at h2;have er:ħ H2 a=[v,(j:Int)]:=by unfold ħ;rw[h2]
  have es:dX H2 a=j:=by unfold dX;rw[h2];exact ś j
  rw[er,es];exact⟨v,h2,rfl⟩
 refine⟨D,ts,ħ H2,rfl,Ê.of eD,λa ha=>?_,λq' l' hq pm=>?_⟩;.obtain⟨v,e,er⟩:=MD a ha;rw[er];exact⟨Î.of e,by simp⟩
 have sn:∀a∈l',∃v,H2 a=some (.tup [.int v,.int (dX H2 a:Int)]):=λa ha=>by obtain⟨v,e,_⟩:=MD a (pm.mem_iff.mp ha);exact⟨v,e⟩
 have ord:(l'.map (dX H2)).Perm (List.range ws.length):=by
  refine(pm.map _).trans (List.Perm.of_eq (List.ext_getElem? λj=>?_));by_cases hj:j<ws.length;.obtain⟨a,v,h1,h2⟩:=hU j hj;rw[ċ,h1,Zbh hj];show some (dX H2 a)=some j;unfold dX;rw[h2];exact congrArg some (ś j)
  .rw[Zaj (by rw[Ø];lia),Zaj (by rw[List.length_range];lia)]
 have s3:=s2.updR (o:=.lst (l'.map V.ref)) hq;have U4:l'.length=ws.length:=by rw[pm.length_eq,hy]
 have rl:=aj (H:=H2) (a:=q') (o:=.lst (l'.map V.ref));have uu:∀a∈l',∃v,upd H2 q' (.lst (l'.map V.ref)) a=some (.tup [.int v,.int (dX H2 a:Int)]):=λa ha=>by obtain⟨v,e⟩:=sn a ha;exact⟨v,À.upd hq _ _ e⟩
 generalize dX H2=sd at ord uu;generalize upd H2 q' (.lst (l'.map V.ref))=H3 at s3 rl uu⊢;clear hq sn MD hU eD s2;refine ae _ _ ?_;clear ae c_;try dsimp only
 have si:=s3 _ _ ń;have U5:=Bl (n:=n) ok;have U6:=Kp (n:=n) ok;refine aP ?_;refine⟨_,rfl,_,rfl,_,rfl,l1,fs n ws,rfl,.inl (Ê.of si),_,_,rfl,rfl,_,rfl,q',_,rfl,Ê.of rl,λl4 fx=>⟨l4,rfl,⟨_,Ê.of aj⟩,?_⟩⟩;have zh:pQ (l'.map V.ref) none (some (lf n ws))=(l'.take (lf n ws).toNat).map V.ref:=by rw[List.map_take,<-il (i:=(lf n ws).toNat) (by rw[Ø];lia),show((lf n ws).toNat:Int)=lf n ws by lia]
 rw[show n-(fs n ws).sum=lf n ws from rfl]at*;rw[zh];have inr:∀a∈l'.take (lf n ws).toNat,sd a<ws.length:=λa ha=>Ϣ.mp (ord.mem_iff.mp (ñ.mpr ⟨a,Zaq ha,rfl⟩));have fin:=Kq ok n0 n1 (pk:=(l'.take (lf n ws).toNat).map sd) (by rw[List.map_take];exact(ord.nodup_iff.mpr List.nodup_range).sublist (List.take_sublist _ _)) (λi hi=>by obtain⟨a,ha,rfl⟩:=ñ.mp hi;exact inr a ha) (by rw[Ø,Ĵ];lia);have ME:∀a∈l'.take (lf n ws).toNat,∃v,H3 a=some (.tup [.int v,.int (sd a:Int)]):=λa ha=>uu a (Zaq ha);generalize l'.take (lf n ws).toNat=pk at fin inr ME fx⊢;have s4:=(s1.trans s3).updR (o:=.lst (pk.map V.ref)) fx;have el4:=aj (H:=H3) (a:=l4) (o:=.lst (pk.map V.ref));have mM:=À.upd (o:=.lst (pk.map V.ref)) fx _ _ si;have n14:l4≠l1:=λz=>by rw[z,si]at fx;cases fx
 have EO:∀a∈pk,∃v,upd H3 l4 (.lst (pk.map V.ref)) a=some (.tup [.int v,.int (sd a:Int)]):=λa ha=>by obtain⟨v,e⟩:=ME a ha;exact⟨v,À.upd fx _ _ e⟩
 generalize upd H3 l4 (.lst (pk.map V.ref))=H4 at s4 el4 mM EO⊢;clear fx ME uu rl si s3;refine iV (xs:=pk.map V.ref) (λi σ Hc=>∃o5 o6,σ=[some (.int n),some (.ref p),some (.int ws.sum),some (.ref l1),some (.ref q'),o5,o6]/\À H Hc/\Hc l4=some (.lst (pk.map V.ref))/\Hc l1=some (.lst ((eV (fs n ws) ((pk.take i).map sd)).map V.int))/\∀a∈pk,∃v,Hc a=some (.tup [.int v,.int (sd a:Int)])) ?_ ?_ ?_ ?_;.exact⟨none,none,rfl,s4,el4,mM,EO⟩
 .rintro i σ Hc hi⟨o5,o6,rfl,s5,e4,e1,sk⟩;exact Ê.of e4
 .rintro i v σ Hc hv⟨o5,o6,rfl,s5,e4,e1,sk⟩;rw[ċ]at hv;cases hj:pk[i]? with|none=>rw[hj]at hv;cases hv;|some a=>
   rw[hj]at hv;cases hv;have ha:=ŕ hj;obtain⟨vr,Vq⟩:=sk a ha;have kp:∀o,À H (upd Hc l1 o):=λo b u e=>by rw[aq (aB e y9)];exact s5 _ _ e
   have ax:sd a<(eV (fs n ws) ((pk.take i).map sd)).length:=by rw[jV,qN];exact inr a ha
   have hx:((eV (fs n ws) ((pk.take i).map sd)).map V.int)[((sd a:Nat):Int).toNat]?=some (.int ((eV (fs n ws) ((pk.take i).map sd)).getD (sd a) 0)):=by rw[ś,ċ,à ax,Ĭ,à ax];rfl
   refine⟨a,_,rfl,Î.of Vq,rfl,_,_,rfl,_,_,rfl,rfl,?_⟩;dsimp only;refine⟨_,rfl,_,rfl,l1,_,(sd a:Int),_,rfl,rfl,Ê.of e1,fj (by rw[<-ś (sd a)];exact hx),_,_,rfl,rfl,_,rfl,_,rfl,l1,_,(sd a:Int),sd a,rfl,rfl,e1,Bm (by rw[Ø];exact ax),?_⟩;refine⟨_,_,rfl,kp _,by rw[aq n14];exact e4,?_,λb hb=>?_⟩;.rw[aj,ī,hj,show(some a).toList=[a]from rfl,ô,show[a].map sd=[sd a]from rfl,qM,List.map_set]
   .obtain⟨v,e⟩:=sk b hb;exact⟨v,by rw[aq λz=>by rw[z,e1]at e;cases e];exact e⟩
 .rintro σ Hc⟨o5,o6,rfl,s5,e4,e1,sk⟩;rw[Ø,ł]at e1;dsimp only;exact⟨_,rfl,q _ l1 _ fin s5 y9 e1⟩
end
end K51P
namespace K51
open PySem L2
abbrev ky(n y:Int):List Key:=[.inl n,.inl y]
def Œ(kv:List (Key×V)):Prop:=∀p∈kv,∃h,p.1=.inl h/\0<=h/\h<8
theorem Œ.put(g:Œ kv)(h0:0<=h)(h8:h<8)(v:V):Œ (ú kv (.inl h) v):=by
 intro p hp;unfold ú at hp;split at hp
 .obtain⟨q,hq,rfl⟩:=ñ.mp hp;split;.exact g q hq
  .exact g q hq
 .rcases Ę.mp hp with z|z;.exact g p z
  .rw[ű.mp z];exact⟨h,rfl,h0,h8⟩
structure Į(fo:Addr)(H0 H:Hp)(dm:Int->Int->Prop)(f:Int->Int->Int->Int)(b:Int->Int->Nat)(kvs:List (List Key×V)):Prop where
 sm:À H0 H
 nf:H0 fo=none
 e:H fo=some (.dT kvs)g:∀n y,dm n y->∃d kv,cQ kvs (ky n y)=some (.ref d)/\H d=some (.dK kv)/\(kv.length<=b n y/\Œ kv)/\∀h,0<=h->h<8->(cQ kv (.inl h)).getD (.int 0)=.int (f n y h)no:∀n y,¬dm n y->cQ kvs (ky n y)=none
 i:∀n y n' y' d,cQ kvs (ky n y)=some (.ref d)->cQ kvs (ky n' y')=some (.ref d)->n=n'/\y=y'
 fr:∀n y d,cQ kvs (ky n y)=some (.ref d)->H0 d=none/\d≠fo/\∃o,H d=some o
theorem Į.new(g:Į fo H0 H dm f b kvs)(hp:H p=none):Į fo H0 (upd H p o) dm f b kvs:=⟨g.sm.updR hp,g.nf,À.upd hp _ _ g.e,λn y h=>by obtain⟨d,kv,e1,e2,r⟩:=g.g n y h;exact⟨d,kv,e1,À.upd hp _ _ e2,r⟩,g.no,g.i,λn y d h=>by obtain⟨e1,e2,o',e3⟩:=g.fr n y d h;exact⟨e1,e2,o',À.upd hp _ _ e3⟩⟩
theorem Į.same(g:Į fo H0 H dm f b kvs)(s:À H H'):Į fo H0 H' dm f b kvs:=⟨g.sm.trans s,g.nf,s _ _ g.e,λn y h=>by obtain⟨d,kv,e1,e2,r⟩:=g.g n y h;exact⟨d,kv,e1,s _ _ e2,r⟩,g.no,g.i,λn y d h=>by obtain⟨e1,e2,o',e3⟩:=g.fr n y d h;exact⟨e1,e2,o',s _ _ e3⟩⟩
theorem zr(h:ky n y=ky n' y'):n=n'/\y=y':=by injection h with h1 h2;injection h2 with h2 _;injection h1 with h1;injection h2 with h2;exact⟨h1,h2⟩
theorem Į.wr(g:Į fo H0 H dm f b kvs)(hv:cQ kvs (ky N Y)=some (.ref d))(h1:(A5.length<=b' N Y/\Œ A5)/\∀h,0<=h->h<8->(cQ A5 (.inl h)).getD (.int 0)=.int (f' N Y h))(h2:∀n y,dm n y->¬(n=N/\y=Y)->b n y<=b' n y/\∀h,0<=h->h<8->f' n y h=f n y h):Į fo H0 (upd H d (.dK A5)) dm f' b' kvs:=by
 obtain⟨w1,w2,_⟩:=g.fr _ _ _ hv;refine⟨λc o e=>by rw[aq (aB e w1)];exact g.sm _ _ e,g.nf,by rw[aq w2.symm];exact g.e,λn y hd=>?_,g.no,g.i,λn y d' hd=>?_⟩
 .by_cases hk:n=N/\y=Y;.obtain⟨rfl,rfl⟩:=hk;exact⟨d,A5,hv,aj,h1⟩
  .obtain⟨d',kv,q1,q2,q3,q4⟩:=g.g n y hd;have nd:d'≠d:=λz=>hk (g.i _ _ _ _ _ (z▸q1) hv);obtain⟨k1,k2⟩:=h2 n y hd hk;exact⟨d',kv,q1,by rw[aq nd];exact q2,⟨ŝ q3.1 k1,q3.2⟩,λh z1 z2=>by rw[k2 h z1 z2];exact q4 h z1 z2⟩
 .obtain⟨w3,w4,o,w5⟩:=g.fr n y d' hd;by_cases mx:d'=d;.exact⟨w3,w4,.dK A5,by rw[mx];exact aj⟩
  .exact⟨w3,w4,o,by rw[aq mx];exact w5⟩
theorem Į.cast(g:Į fo H0 H dm f b kvs)(h2:∀n y,dm n y->b n y<=b' n y/\∀h,0<=h->h<8->f' n y h=f n y h):Į fo H0 H dm f' b' kvs:=⟨g.sm,g.nf,g.e,λn y hd=>by obtain⟨d',kv,q1,q2,q3,q4⟩:=g.g n y hd;obtain⟨k1,k2⟩:=h2 n y hd;exact⟨d',kv,q1,q2,⟨ŝ q3.1 k1,q3.2⟩,λh z1 z2=>by rw[k2 h z1 z2];exact q4 h z1 z2⟩,g.no,g.i,g.fr⟩
def Ź(ps:UV)(n y:Int):Prop:=0<=n/\n<ps.length/\fl (ps.getD n.toNat []) 2<=y/\y<=fl (ps.getD n.toNat []) 3
def f0(ps:UV)(n y h:Int):Int:=if h=fl (ps.getD n.toNat []) 0 then fl (ps.getD n.toNat []) 4 else 0
inductive Ο(vs:List V)(H:Hp)(Q:VK):Prop|mk:∀ap xp ps,(vs=[.ref ap])->(È H ap xp ps)->(ps.length<=10)->((∀r∈ps,ě r))->(∀fo H' kvs,Į fo H H' (Ź ps) (f0 ps) (λ_ _=>1) kvs->Q (.ref fo) H')->Ο  vs H Q
def Bu:Sp:=λvs H Q _=>Ο  vs H Q
theorem Ħ:Ã [ć,ϝ,AAm,AAx,ϭ,"_law_first","_law_last",Ϝ,"_law_price",ο] [ć] (aD (top 75)):=ö
theorem GQ(F:ã K "_law_begun" "_law_begun" (top 75) f fd)(Te:mg "enumerate"=none)(Tr:mg "range"=none):Ñ P w K mg base ä 1 f fd [ć] Bu:=by
 refine F.oq Ħ λai A outer s H vs Q E hr h=>?_;obtain⟨ap,xp,ps,rfl,rp,lp,okp,q⟩:=h;refine⟨_,aC (ĕ 1 Ħ.nd qd) (aC (cP Ĺ rfl (ZT.pi_enum true rfl Te (au (pv 0) ao)) (cj rfl (aA (Ö 2 Ħ.nd) (aA (cj rfl (aA (Ö 3 Ħ.nd) (aA (Ö 4 Ħ.nd) (aA (Ö 5 Ħ.nd) (aA (Ö 6 Ħ.nd) (aA (Ö 7 Ħ.nd) (aA (Ö 8 Ħ.nd) aY))))))) aY))) (aF (cP Ĺ rfl (jM rfl Tr (au (pv 5) (au (aV cu (pv 6) az) ao))) (Ö 9 Ħ.nd) (aF (oV (fU hr) (pv 1) (bW (au (pv 2) (au (pv 9) ao))) (Iw (wj (pv 3) (pv 7) zW) rfl rfl Ù Û) rfl))))) (aF (aQ (pv 1)))),?_⟩;refine aP (aW ?_);refine λfo QQ=>?_;refine aJ ?_;dsimp only;refine aP ?_;have d0:Į fo H (upd H fo (.dT [])) (λ_ _=>False) (f0 ps) (λ_ _=>1) []:=⟨À.upd QQ,QQ,aj,λ_ _ z=>z.elim,λ_ _ _=>rfl,λ_ _ _ _ _ z=>(by cases z),λ_ _ _ z=>(by cases z)⟩;generalize upd H fo (.dT [])=H1 at d0⊢;refine⟨_,rfl,ap,xp,rfl,Î.of (d0.sm _ _ rp.e),?_⟩;refine ZT.for_enum true (xs:=xp) (λi σ Hc=>Xe9 λx2 x3 x4 x5 x6 x7 x8 x9 kvs=>Xa3 (σ=[some (.ref ap),some (.ref fo),x2,x3,x4,x5,x6,x7,x8,x9]) (Į fo H Hc (λn y=>Ź ps n y/\n<i) (f0 ps) (λ_ _=>1) kvs) (kvs.length<=20*i)) ?_ ?_ ?_ ?_;.exact⟨none,none,none,none,none,none,none,none,[],rfl,⟨d0.sm,d0.nf,d0.e,λn y z=>by have:=z.1.1;have:=z.2;lia,λn y _=>d0.no n y id,d0.i,d0.fr⟩,ß _⟩
 .rintro i σ Hc hi⟨x2,x3,x4,x5,x6,x7,x8,x9,kvs,rfl,dt,lk⟩;exact Î.of (dt.sm _ _ rp.e)
 .rintro i x σ Hc T0 hx⟨x2,x3,x4,x5,x6,x7,x8,x9,kvs,rfl,dt,lk⟩nT;have hi:i<ps.length:=by have:=(ĵ.mp hx).1;rw[rp.l]at this;exact this
  obtain⟨tr,fR,fq⟩:=rp.g i ps[i] (à hi);have:x=.ref tr:=by rw[hx]at fR;exact ŗ fR
  subst this;have op:=okp ps[i] (Ě hi);have ep:ps.getD ((i:Int)).toNat []=ps[i]:=by rw[ś];exact á hi
  have dT:=dt.new (o:=.tup [V.int i,V.ref tr]) nT;generalize hpi:ps[i]=p at fq op ep;have QR:=dT.sm _ _ fq;rw[fB op.1]at QR;obtain⟨_,⟨a1,a2⟩,_,⟨c1,c2,c3⟩,⟨e1,e2⟩,_⟩:=op;refine⟨T0,_,rfl,Î.of aj,rfl,_,_,rfl,_,_,rfl,?_⟩;refine⟨tr,_,rfl,Î.of QR,rfl,_,_,rfl,_,_,rfl,_,_,rfl,_,_,rfl,_,_,rfl,_,_,rfl,rfl,rfl,?_⟩;refine⟨_,rfl,_,rfl,_,_,rfl,rfl,fl p 2,fl p 3+1,rfl,⟨Â,Â,Â,Â⟩,?_⟩;generalize upd Hc T0 (.tup [V.int i,V.ref tr])=H2 at dT⊢;refine dW (lo:=fl p 2) (n:=(fl p 3+1-fl p 2).toNat) (λj σ Hj=>∃x9 kvs,σ=[some (.ref ap),some (.ref fo),some (.int i),some (.int (fl p 0)),some (.int (fl p 1)),some (.int (fl p 2)),some (.int (fl p 3)),some (.int (fl p 4)),some (.int (fl p 5)),x9]/\Į fo H Hj (λn y=>Ź ps n y/\(n<i\/(n=i/\y<fl p 2+j))) (f0 ps) (λ_ _=>1) kvs/\kvs.length<=20*i+j) ?_ ?_ ?_;.exact⟨x9,kvs,rfl,⟨dT.sm,dT.nf,dT.e,λn y z=>dT.g n y ⟨z.1,by
    rcases z.2 with z2|⟨z2,z3⟩;.exact z2
    .obtain⟨_,_,w1,_⟩:=z.1;rw[z2,ep]at w1;lia⟩,λn y z=>dT.no n y λz'=>z ⟨z'.1,.inl z'.2⟩,dT.i,dT.fr⟩,lk⟩
  .rintro j σ Hj hj⟨x9,kvs,rfl,dj,lj⟩;refine aJ ?_;refine λp1 pe=>?_;refine⟨_,rfl,_,rfl,aj,[(.inl (fl p 0),.int (fl p 4))],rfl,(by show 1<=15;decide),?_⟩;have hD:∀b o,Hj b=some o->upd (upd Hj p1 (.dK [])) p1 (.dK (iK [] [(.inl (fl p 0),.int (fl p 4))])) b=some o:=λb o e=>by rw[aq (aB e pe),aq (aB e pe)];exact e
   have AQ:upd (upd Hj p1 (.dK [])) p1 (.dK (iK [] [(.inl (fl p 0),.int (fl p 4))])) p1=some (.dK [(.inl (fl p 0),.int (fl p 4))]):=aj;generalize upd (upd Hj p1 (.dK [])) p1 (.dK (iK [] [(.inl (fl p 0),.int (fl p 4))]))=HD at hD AQ⊢;have QS:p1≠fo:=λz=>by rw[z,dj.e]at pe;cases pe
   refine⟨_,rfl,_,rfl,_,rfl,zL,λt ht=>⟨fo,_,rfl,ŀ.t (k:=ky i (fl p 2+j)) (À.upd ht _ _ (hD _ _ dj.e)) aj ŷ,?_⟩⟩;have kp:∀b o,Hj b=some o->b≠fo->upd (upd HD t (.tup [V.int i,V.int (fl p 2+j)])) fo (.dT (ú kvs (ky i (fl p 2+j)) (.ref p1))) b=some o:=λb o e ne=>by rw[aq ne];exact À.upd ht _ _ (hD _ _ e)
   have ER:upd (upd HD t (.tup [V.int i,V.int (fl p 2+j)])) fo (.dT (ú kvs (ky i (fl p 2+j)) (.ref p1))) p1=some (.dK [(.inl (fl p 0),.int (fl p 4))]):=by rw[aq QS];exact À.upd ht _ _ AQ
   have Vr:H p1=none:=dj.sm.free pe;refine⟨_,_,rfl,⟨λb o e=>kp b o (dj.sm _ _ e) (aB e dj.nf),dj.nf,aj,λn y z=>?_,λn y z=>?_,λn y n' y' d z z'=>?_,λn y d z=>?_⟩,?_⟩
   .by_cases hk:ky n y=ky i (fl p 2+j)
    .obtain⟨rfl,rfl⟩:=zr hk;refine⟨p1,_,by rw[gH,Í rfl],ER,⟨ß _,λp hp=>⟨fl _ 0,by rw[ű.mp hp],a1,Â⟩⟩,λh h0 h8=>?_⟩;unfold f0;rw[ep];by_cases hh:h=fl p 0;.rw[Í hh,du (show(Sum.inl (fl p 0):Key)=.inl h by rw[hh])];rfl
     .rw[Ë hh,dw (λz=>hh (by injection z with z;exact z.symm))];rfl
    .have hd:Ź ps n y/\(n<i\/(n=i/\y<fl p 2+j)):=⟨z.1,by
      rcases z.2 with z2|⟨z2,z3⟩;.exact .inl z2
      .refine .inr ⟨z2,?_⟩;have:y≠fl p 2+j:=λw=>hk (by rw[z2,w]);lia⟩;obtain⟨d,kv,q1,q2,q3⟩:=dj.g n y hd;exact⟨d,kv,by rw[gH,Ë hk];exact q1,kp _ _ q2 (dj.fr n y d q1).2.1,q3⟩
   .have hk:¬ky n y=ky i (fl p 2+j):=λw=>by obtain⟨rfl,rfl⟩:=zr w;exact z ⟨⟨Â,Â,by rw[ep];lia,by rw[ep];lia⟩,.inr ⟨rfl,Â⟩⟩
    rw[gH,Ë hk];exact dj.no n y λz'=>z ⟨z'.1,z'.2.elim .inl λw=>.inr ⟨w.1,Â⟩⟩
   .rw[gH]at z z';have old:∀n y,cQ kvs (ky n y)=some (.ref p1)->False:=λn y w=>by obtain⟨_,_,o,w3⟩:=dj.fr n y p1 w;rw[pe]at w3;cases w3
    by_cases h1:ky n y=ky i (fl p 2+j)
    .rw[Í h1]at z;by_cases h2:ky n' y'=ky i (fl p 2+j);.exact zr (h1.trans h2.symm)
     .rw[Ë h2]at z';injection z with z;injection z with z;rw[<-z]at z';exact(old _ _ z').elim
    .rw[Ë h1]at z;by_cases h2:ky n' y'=ky i (fl p 2+j);.rw[Í h2]at z';injection z' with z';injection z' with z';rw[<-z']at z;exact(old _ _ z).elim
     .rw[Ë h2]at z';exact dj.i _ _ _ _ _ z z'
   .rw[gH]at z;by_cases h1:ky n y=ky i (fl p 2+j);.rw[Í h1]at z;injection z with z;injection z with z;rw[<-z];exact⟨Vr,QS,_,ER⟩
    .rw[Ë h1]at z;obtain⟨w1,w2,o,w3⟩:=dj.fr n y d z;exact⟨w1,w2,o,kp _ _ w3 w2⟩
   .have:=dF kvs (ky i (fl p 2+j)) (V.ref p1);lia
  .rintro σ Hj⟨x9,kvs,rfl,dj,lj⟩;refine⟨_,_,_,_,_,_,_,_,kvs,rfl,⟨dj.sm,dj.nf,dj.e,λn y z=>dj.g n y ⟨z.1,?_⟩,λn y z=>dj.no n y λz'=>z ⟨z'.1,z'.2.elim (λw=>by lia) λw=>by lia⟩,dj.i,dj.fr⟩,Â⟩;by_cases hn:n<i;.exact .inl hn
   .have e9:n=i:=by have:=z.2;lia
    refine .inr ⟨e9,?_⟩;obtain⟨_,_,_,w1⟩:=z.1;rw[e9,ep]at w1;lia
 .rintro σ Hc⟨x2,x3,x4,x5,x6,x7,x8,x9,kvs,rfl,dt,lk⟩;refine⟨_,rfl,q fo Hc kvs ⟨dt.sm,dt.nf,dt.e,λn y z=>dt.g n y ⟨z,?_⟩,λn y z=>dt.no n y λz'=>z z'.1,dt.i,dt.fr⟩⟩;rw[rp.l];exact z.2.1
def qT(ps:UV)(f:Int->Int->Int->Int)(s:WF):Bool:=rQ ps s&&(years (fl s 4) (fl (qL ps s) 3)).all λy=>decide (fl s 3<=f (fl s 0) y (fl s 1))
inductive Ũ(vs:List V)(H:Hp)(Q:VK):Prop|mk:∀ap xp ps fo H0 f b kvs t s,(vs=[.ref ap,.ref fo,.ref t])->(È H ap xp ps)->((∀r∈ps,ě r))->(Į fo H0 H (Ź ps) f b kvs)->(H t=some (.tup (s.map V.int)))->(s.length=5)->(∀H',À H H'->Q (.bl (qT ps f s)) H')->Ũ  vs H Q
def xV:Sp:=λvs H Q _=>Ũ  vs H Q
theorem JH{ns:WF}(h1:M∈ns)(h2:∀a∈ns,M<=a):decide (k<=M)=ns.all λa=>decide (k<=a):=by rw[Zas,Ć,ō];exact⟨λh a ha=>ð (Int.le_trans h (h2 a ha)),λh=>ŭ (h M h1)⟩
theorem OD(a:Ev σ H ta (.int i))(b:Ev σ H tb (.int j)):Ev σ H (Ÿ rEq ta tb) (.bl (decide (i=j))):=λQ q=>a _ (b _ ⟨rfl,by have ed:decide (V.int i=V.int j)=decide (i=j):=decide_eq_decide.mpr ⟨λz=>by injection z,λz=>by rw[z]⟩;rw[ed];exact q⟩)
theorem ŉ:Ã [ć,Ň,AAo,AAm,ABj,"_law_buyer",Ϝ,ο,"_law_first","_law_last"] [ć,Ň,AAo] (aD (top 76)):=ö
theorem Qv:([ř,Ň,AAm,ABj]:ó).Nodup:=by decide+kernel
theorem DK(F:ã K "_law_holds" "_law_holds" (top 76) f fd)(T:Mg mg)(Tr:mg "range"=none)(Tm:mg "min"=none):Ñ P w K mg base ä 1 f fd [ć,Ň,AAo] xV:=by refine F.oq ŉ λai A outer s H vs Q E hr h=>?_;obtain⟨ap,xp,ps,fo,H0,g,b,kvs,t,r,rfl,rp,okp,dt,et,h5,q⟩:=h;refine⟨_,aC (d7 (pv 2) (cj rfl (aA (bJ (i:=3) ŉ.nd rfl (Or.inr rfl)) (aA (bJ (i:=4) ŉ.nd rfl (Or.inr rfl)) (aA (Ö 5 ŉ.nd) (aA (Ö 6 ŉ.nd) (aA (Ö 7 ŉ.nd) aY))))))) (aC (bU (PW.pt (gU (bH (gF bY lO az (pv 3) (aG aX rfl T.len PySem.boot_len (au (pv 0) ao)))) (gU (bH (gF bY bY az (pv 4) az)) (gU (bH (gF bY bY az (pv 5) az)) (gO (aZ ig (pv 4) (pv 5) (bf _))))))) (aF (aQ gD)) bj) (aC (Ei (i:=8) (j:=9) rfl ŉ.nd rfl rfl Û rfl rfl (au (pX bQ (pX bQ (pv 0) (pv 3)) az) (au (pX bQ (pX bQ (pv 0) (pv 3)) az) ao)) rfl) (aC (bU (PW.pt (gU (bH (gF bY bY az (pv 6) az)) (gO (bH (gF bY bY (pv 8) (pv 7) (pv 9)))))) (aF (aQ gD)) bj) (aF (aQ (gW vN (aG (rK rfl) rfl Tm į (au (bD [ř,Ň,AAm,ABj] [none,some 1,some 3,some 4] rfl (jM rfl Tr (au (pv 7) (au (aV cu (pv 9) az) ao))) (λC fp Á s₂ Õ=>⟨Ö 0 Qv,bG,qe (fU hr) (gr (fU hr) (pv 1) (bW (au (pv 2) (au (pv 0) ao))) (λ_ _=>rfl)) (pv 3) az (by constructor<;>rfl)⟩) (λC=>cI (cI (cI trivial))) ⟨rfl,rfl,rfl,rfl⟩) ao)) (pv 6) (bf _))))))),?_⟩;have fin:=q;unfold qT rQ at fin;rw[jD h5]at et;refine aP ?_;refine⟨_,rfl,t,_,rfl,Î.of et,rfl,_,_,rfl,_,_,rfl,_,_,rfl,_,_,rfl,_,_,rfl,rfl,?_⟩;dsimp only;refine aP ?_;refine cC (p:=λi j=>decide (i<=j)) (q:=λi j=>decide (i<j)) (i:=0) (j:=fl r 0) (k:=(xp.length:Int)) fO (dZ rfl) (λQ h=>⟨_,rfl,ap,xp,rfl,.inr (Î.of rp.e),h⟩) _ ⟨_,rfl,?_⟩;rw[rp.l];cases e1:(decide (0<=fl r 0)&&decide (fl r 0<ps.length))with|false=>rw[e1]at fin;exact bx (bx (fin H (À.refl H)));|true=>rw[e1]at fin;refine bA ?_;refine cC (p:=λi j=>decide (i<=j)) (q:=λi j=>decide (i<=j)) (i:=0) (j:=fl r 1) (k:=7) fO (dZ rfl) fO _ ⟨_,rfl,?_⟩;dsimp only;rw[show decide (fl r 1<=7)=decide (fl r 1<8)from decide_eq_decide.mpr Â];cases e2:(decide (0<=fl r 1)&&decide (fl r 1<8))with|false=>rw[e2]at fin;exact bx (bx (fin H (À.refl H)));|true=>rw[e2]at fin;refine bA ?_;refine cC (p:=λi j=>decide (i<=j)) (q:=λi j=>decide (i<=j)) (i:=0) (j:=fl r 2) (k:=7) fO (dZ rfl) fO _ ⟨_,rfl,?_⟩;dsimp only;rw[show decide (fl r 2<=7)=decide (fl r 2<8)from decide_eq_decide.mpr Â];cases e3:(decide (0<=fl r 2)&&decide (fl r 2<8))with|false=>rw[e3]at fin;exact bx (bx (fin H (À.refl H)));|true=>rw[e3]at fin;refine bA ?_;refine OD (i:=fl r 1) (j:=fl r 2) (dZ rfl) (dZ rfl) _ ⟨_,rfl,?_⟩;cases e4:decide (fl r 1=fl r 2)with|true=>rw[e4]at fin;exact bx (fin H (À.refl H));|false=>rw[e4]at fin;refine bA (cZ ?_);dsimp only;refine aP ?_;rw[ġ,Ć,Ć]at e1 e2;obtain⟨p,hp,ep,op⟩:=gB okp e1.1 e1.2;have ze:qL ps r=p:=ep;rw[ze]at fin;obtain⟨tp,fm,fw⟩:=iH rp e1.1 hp;rw[fB op.1]at fw;obtain⟨_,_,_,⟨g1,g2,g3⟩,_⟩:=id op;refine⟨_,rfl,_,rfl,ap,xp,_,.ref tp,rfl,rfl,Î.of rp.e,fm,tp,_,2,.int (fl p 2),rfl,rfl,Î.of fw,rfl,?_⟩;refine⟨_,rfl,_,rfl,ap,xp,_,.ref tp,rfl,rfl,Î.of rp.e,fm,tp,_,3,.int (fl p 3),rfl,rfl,Î.of fw,rfl,?_⟩;refine⟨_,_,rfl,?_⟩;dsimp only;refine aP ?_;refine cC (p:=λi j=>decide (i<=j)) (q:=λi j=>decide (i<=j)) (i:=1) (j:=fl r 3) (k:=99) fO (dZ rfl) fO _ ⟨_,rfl,?_⟩;dsimp only;cases e5:(decide (1<=fl r 3)&&decide (fl r 3<=99))with|false=>rw[e5]at fin;exact bx (bx (fin H (À.refl H)));|true=>rw[e5]at fin;refine bA ?_;refine cC (p:=λi j=>decide (i<=j)) (q:=λi j=>decide (i<=j)) (i:=fl p 2) (j:=fl r 4) (k:=fl p 3) (dZ rfl) (dZ rfl) (dZ rfl) _ ⟨_,rfl,?_⟩;dsimp only;cases e6:(decide (fl p 2<=fl r 4)&&decide (fl r 4<=fl p 3))with|false=>rw[e6]at fin;exact bx (fin H (À.refl H));|true=>
 rw[e6]at fin;rw[ġ,Ć,Ć]at e6;refine bA (cZ ?_);dsimp only;refine⟨_,rfl,_,rfl,_,_,rfl,rfl,fl r 4,fl p 3+1,rfl,⟨Â,Â,Â,Â⟩,?_⟩;refine xH (λys Hc=>À H Hc/\ys=((years (fl r 4) (fl p 3)).take ys.length).map λy=>V.int (g (fl r 0) y (fl r 1))) ⟨À.refl _,rfl⟩ ŷ ?_ ?_
 .rintro i ys Hc Qc hi hy⟨sc,ey⟩qc;refine⟨_,rfl,_,rfl,_,rfl,zL,λk hk=>?_⟩;have sk:=sc.updR (o:=.tup [V.int (fl r 0),V.int (fl r 4+i)]) hk;have dk:=dt.same sk;obtain⟨d,kv,q1,q2,q3,q4⟩:=dk.g (fl r 0) (fl r 4+i) ⟨e1.1,e1.2,by rw[ep];lia,by rw[ep];lia⟩;refine⟨fo,.ref d,rfl,by rw[<-q1];exact Ē.t dk.e aj,?_⟩;refine⟨d,rfl,.inl ⟨kv,.inl q2⟩,_,rfl,_,Ē.k (k:=.inl (fl r 1)) q2,?_⟩;rw[q4 _ e2.1 e2.2];refine qc _ _ ⟨sk,?_⟩;have hx:(years (fl r 4) (fl p 3))[ys.length]?=some (fl r 4+(i:Int)):=by rw[hy];exact nY hi
  exact tR ey hx
 .rintro ys Hc hy⟨sc,ey⟩D hD;rw[Ϭ (by rw[nW,hy];exact ß _)]at ey;refine⟨D,(years (fl r 4) (fl p 3)).map λy=>g (fl r 0) y (fl r 1),rfl,Ê.of (by rw[Ĳ];rw[ey];exact aj),?_,λM h1 h2=>⟨_,rfl,_,_,rfl,rfl,?_⟩⟩;.intro z;have:=congrArg List.length z;rw[Ø,nW,List.length_nil]at this;lia
  .have em:=JH (k:=fl r 3) h1 h2;rw[List.all_map]at em;show Q (.bl (decide (fl r 3<=M))) _;rw[em];exact fin _ (sc.updR hD)
def dl(s:WF)(h:Int):Int:=(if h=fl s 2 then fl s 3 else 0)-(if h=fl s 1 then fl s 3 else 0)
def fS(f:Int->Int->Int->Int)(s:WF)(n y h:Int):Int:=if n=fl s 0/\fl s 4<=y then f n y h+dl s h else f n y h
theorem JK:upd (upd H d a) d b=upd H d b:=by
 funext c;by_cases h:c=d;.subst h;rw[aj,aj]
 .rw[aq h,aq h,aq h]
theorem xW(hl:L.length=8)(i0:0<=i)(i1:i<8)(h0:0<=h)(h1:h<8):(lJ L i v).getD h.toNat 0=L.getD h.toNat 0+(if h=i then v else 0):=by
 unfold lJ;rw[Ĭ,List.getElem?_set];by_cases hh:h=i;.subst hh;rw[Í rfl,Í rfl,Í Â];rfl
 .rw[Ë Â,Ë hh,<-Ĭ];lia
theorem DN(hl:L.length=8)(ok:ζ s)(h0:0<=h)(h1:h<8):(Ą n y L s).getD h.toNat 0=if n=fl s 0/\fl s 4<=y then L.getD h.toNat 0+dl s h else L.getD h.toNat 0:=by
 obtain⟨_,⟨a1,a2⟩,b1,b2⟩:=ok;unfold Ą dl;by_cases hc:fl s 0=n/\fl s 4<=y;.rw[Í hc,Í ⟨hc.1.symm,hc.2⟩,xW (by rw[jC];exact hl) b1 b2 h0 h1,xW hl a1 a2 h0 h1];split<;>split<;>lia
 .rw[Ë hc,Ë λz=>hc ⟨z.1.symm,z.2⟩]
theorem DP(kG:fl p 2<=y/\y<=fl p 3)(ok:ζ s)(h0:0<=h)(h1:h<8):(cz p (ss++[s]) n y).getD h.toNat 0=if n=fl s 0/\fl s 4<=y then(cz p ss n y).getD h.toNat 0+dl s h else(cz p ss n y).getD h.toNat 0:=by
 have hl:=gq p ss n y;have e:cz p (ss++[s]) n y=Ą n y (cz p ss n y) s:=by unfold cz;rw[Í kG,Í kG,List.foldl_append];rfl
 rw[e,DN hl ok h0 h1]
inductive ώ(vs:List V)(H:Hp)(Q:VK):Prop|mk:∀ap xp ps fo H0 f b kvs t s,(vs=[.ref ap,.ref fo,.ref t])->(È H ap xp ps)->((∀r∈ps,ě r))->(Į fo H0 H (Ź ps) f (λ_ _=>b) kvs)->(b<=1000)->(H t=some (.tup (s.map V.int)))->(s.length=5)->(qT ps f s=true)->(∀H',Į fo H0 H' (Ź ps) (fS f s) (λ_ _=>b+2) kvs->Q .non H')->ώ  vs H Q
def GR:Sp:=λvs H Q _=>ώ  vs H Q
theorem ĺ:Ã [ć,Ň,AAo,AAm,ABj,"_law_buyer",Ϝ,ο,ř,ABc] [ć,Ň,AAo] (aD (top 77)):=ö
theorem JL(F:ã K "_law_sell" "_law_sell" (top 77) f fd)(Tr:mg "range"=none):Ñ P w K mg base ä 1 f fd [ć,Ň,AAo] GR:=by
 refine F.oq ĺ λai A outer s H vs Q E hr h=>?_;obtain⟨ap,xp,ps,fo,H0,g,b,kvs,t,r,rfl,rp,okp,dt,hb,et,h5,hh,q⟩:=h;refine⟨_,aC (d7 (pv 2) (cj rfl (aA (Ö 3 ĺ.nd) (aA (Ö 4 ĺ.nd) (aA (Ö 5 ĺ.nd) (aA (Ö 6 ĺ.nd) (aA (Ö 7 ĺ.nd) aY))))))) (aF (cP Ĺ rfl (jM rfl Tr (au (pv 7) (au (aV cu (pX bQ (pX bQ (pv 0) (pv 3)) az) az) ao))) (Ö 8 ĺ.nd) (aC (ĕ 9 ĺ.nd (gr (fU hr) (pv 1) (bW (au (pv 3) (au (pv 8) ao))) (λ_ _=>rfl))) (aC (oV (fU hr) (pv 9) (pv 4) (aV dG (gr (fU hr) (pv 9) (pv 4) (λ_ _=>rfl)) (pv 6)) rfl) (aF (oV (fU hr) (pv 9) (pv 5) (aV cu (qe (fU hr) (pv 9) (pv 5) az (by constructor<;>rfl)) (pv 6)) rfl)))))),?_⟩;rw[jD h5]at et;unfold qT rQ at hh;simp only[Bool.and_eq_true,Ć,Bool.not_eq_true',decide_eq_false_iff_not]at hh;obtain⟨⟨⟨n0,n1⟩,⟨a1,a2⟩,⟨b1,b2⟩,L9,⟨k1,k2⟩,y0,y1⟩,hy⟩:=hh;obtain⟨p,hp,ep,op⟩:=gB okp n0 n1;have ze:qL ps r=p:=ep;rw[ze]at y0 y1 hy;obtain⟨tp,fm,fw⟩:=iH rp n0 hp;rw[fB op.1]at fw;obtain⟨_,_,_,⟨g1,g2,g3⟩,_⟩:=id op;refine aP ?_;refine⟨_,rfl,t,_,rfl,Î.of et,rfl,_,_,rfl,_,_,rfl,_,_,rfl,_,_,rfl,_,_,rfl,rfl,?_⟩;dsimp only;refine⟨_,rfl,_,rfl,_,rfl,ap,xp,_,.ref tp,rfl,rfl,Î.of rp.e,fm,tp,_,3,.int (fl p 3),rfl,rfl,Î.of fw,rfl,_,_,rfl,rfl,fl r 4,fl p 3+1,rfl,⟨Â,Â,Â,Â⟩,?_⟩;refine dW (lo:=fl r 4) (n:=(fl p 3+1-fl r 4).toNat) (λj σ Hj=>∃x8 x9,σ=[some (.ref ap),some (.ref fo),some (.ref t),some (.int (fl r 0)),some (.int (fl r 1)),some (.int (fl r 2)),some (.int (fl r 3)),some (.int (fl r 4)),x8,x9]/\Į fo H0 Hj (Ź ps) (λn y h=>if n=fl r 0/\fl r 4<=y/\y<fl r 4+j then g n y h+dl r h else g n y h) (λn y=>if n=fl r 0/\fl r 4<=y/\y<fl r 4+j then b+2 else b) kvs) ?_ ?_ ?_;.refine⟨none,none,rfl,dt.cast λn y hd=>?_⟩;rw[Ë Â];exact⟨ß _,λh _ _=>by rw[Ë Â]⟩
 .rintro j σ Hj hj⟨x8,x9,rfl,dj⟩;refine aJ (aP ?_);refine aW ?_;refine⟨_,rfl,_,rfl,_,rfl,zL,λk hk=>?_⟩;have dk:=dj.new (o:=.tup [V.int (fl r 0),V.int (fl r 4+j)]) hk;have ek:upd Hj k (.tup [V.int (fl r 0),V.int (fl r 4+j)]) k=some (.tup ((ky (fl r 0) (fl r 4+j)).map kV)):=aj;generalize upd Hj k (.tup [V.int (fl r 0),V.int (fl r 4+j)])=H1 at dk ek⊢;have MG:Ź ps (fl r 0) (fl r 4+j):=⟨n0,n1,by rw[ep];lia,by rw[ep];lia⟩;obtain⟨d,kv,q1,q2,⟨q3,qk⟩,q4⟩:=dk.g _ _ MG;rw[Ë Â]at q3;refine⟨fo,.ref d,rfl,by rw[<-q1];exact Ē.t dk.e ek,?_⟩;refine aJ ?_;dsimp only;have kP:=q4 (fl r 1) a1 a2;rw[Ë Â]at kP;have kH:fl r 3<=g (fl r 0) (fl r 4+j) (fl r 1):=by have:=ō.mp hy (fl r 4+j) (ŕ (nY hj));exact ŭ this
  have MH:cQ kv (.inl (fl r 1))=some (.int (g (fl r 0) (fl r 4+j) (fl r 1))):=by cases ev:cQ kv (.inl (fl r 1))with|none=>rw[ev]at kP;injection kP with kP;lia;|some v=>rw[ev]at kP;exact congrArg some kP
  have ES:=q4 (fl r 2) b1 b2;rw[Ë Â]at ES;refine aP ?_;refine⟨_,rfl,_,rfl,d,_,rfl,by rw[<-MH];exact Ē.k (k:=.inl (fl r 1)) q2,_,rfl,_,_,rfl,rfl,_,rfl,_,rfl,d,_,rfl,ŀ.k (k:=.inl (fl r 1)) q2 ŷ,?_⟩;dsimp only;have lp1:=dF kv (.inl (fl r 1)) (V.int (g (fl r 0) (fl r 4+j) (fl r 1)-fl r 3));have vb:(cQ (ú kv (.inl (fl r 1)) (V.int (g (fl r 0) (fl r 4+j) (fl r 1)-fl r 3))) (.inl (fl r 2))).getD (.int 0)=.int (g (fl r 0) (fl r 4+j) (fl r 2)):=by rw[gH,Ë (λz=>L9 (by injection z with z;exact z.symm))];exact ES
  refine⟨_,rfl,d,rfl,.inl ⟨_,.inl aj⟩,_,rfl,_,Ē.k (k:=.inl (fl r 2)) aj,_,rfl,_,_,vb,rfl,_,rfl,_,rfl,d,_,rfl,ŀ.k (k:=.inl (fl r 2)) aj ŷ,?_⟩;have lp2:=dF (ú kv (.inl (fl r 1)) (V.int (g (fl r 0) (fl r 4+j) (fl r 1)-fl r 3))) (.inl (fl r 2)) (V.int (g (fl r 0) (fl r 4+j) (fl r 2)+fl r 3));refine⟨_,_,rfl,?_⟩;rw[JK];refine dk.wr q1 ⟨⟨?_,(qk.put a1 a2 _).put b1 b2 _⟩,λh h0 h8=>?_⟩ λn y hd fy=>⟨?_,λh h0 h8=>?_⟩;.rw[Í ⟨rfl,Â,Â⟩];exact ŝ (dF _ _ _) (Nat.succ_le_succ (ŝ (dF _ _ _) (Nat.succ_le_succ q3)))
  .rw[Í ⟨rfl,Â,Â⟩,gH];unfold dl;by_cases iE:h=fl r 2;.rw[Í (by rw[iE]),Í iE,Ë (λz=>L9 (z.symm.trans iE))];show V.int _=V.int _;rw[iE];congr 1;lia
   .rw[Ë (λz=>iE (by injection z)),Ë iE,gH];by_cases l9:h=fl r 1;.rw[Í (by rw[l9]),Í l9];show V.int _=V.int _;rw[l9];congr 1;lia
    .rw[Ë (λz=>l9 (by injection z)),Ë l9];have:=q4 h h0 h8;rw[Ë Â]at this;rw[this];congr 1;lia
  .split<;>split<;>lia
  .by_cases hc:n=fl r 0/\fl r 4<=y/\y<fl r 4+j;.rw[Í hc,Í ⟨hc.1,hc.2.1,Â⟩]
   .rw[Ë hc,Ë λz=>hc ⟨z.1,z.2.1,by have:y≠fl r 4+j:=λw=>fy ⟨z.1,w⟩;lia⟩]
 .rintro σ Hj⟨x8,x9,rfl,dj⟩;refine q Hj (dj.cast λn y hd=>⟨by split<;>lia,λh h0 h8=>?_⟩);unfold fS;by_cases hc:n=fl r 0/\fl r 4<=y
  .have:y<=fl p 3:=by have:=hd.2.2.2;rw[hc.1,ep]at this;exact this
   rw[Í hc,Í ⟨hc.1,hc.2,Â⟩]
  .rw[Ë hc,Ë λz=>hc ⟨z.1,z.2.1⟩]
inductive Η(vs:List V)(H:Hp)(Q:VK):Prop|mk:∀ap xp ps ar xs ss,(vs=[.ref ap,.ref ar])->(È H ap xp ps)->(ps.length<=10)->((∀r∈ps,ě r))->(È H ar xs ss)->(ss.length<=100)->((∀s∈ss,s.length=5))->(∀t fo H',À H H'->H' t=some (.tup [.ref fo,unV (un ps ss)])->(un ps ss=none->∃b kvs,Į fo H H' (Ź ps) (λn y h=>(cz (ps.getD n.toNat []) ss n y).getD h.toNat 0) b kvs)->Q (.ref t) H')->Η  vs H Q
def vz:Sp:=λvs H Q _=>Η  vs H Q
inductive ύ(vs:List V)(H:Hp)(Q:VK):Prop|mk:∀ap xp ps ar xs ss,(vs=[.ref ap,.ref ar])->(È H ap xp ps)->(ps.length<=10)->((∀r∈ps,ě r))->(È H ar xs ss)->(ss.length<=100)->((∀s∈ss,s.length=5))->(∀t fo H',À H H'->H' t=some (.tup [.ref fo,unV (un ps ss)])->Q (.ref t) H')->ύ  vs H Q
def zu:Sp:=λvs H Q _=>ύ  vs H Q
theorem GX(ok:ě (ps.getD n.toNat []))(kG:fl (ps.getD n.toNat []) 2<=y/\y<=fl (ps.getD n.toNat []) 3)(h0:0<=h)(h8:h<8):(cz (ps.getD n.toNat []) [] n y).getD h.toNat 0=f0 ps n y h:=by
 unfold cz f0;rw[Í kG];generalize ps.getD n.toNat []=p at ok;obtain⟨_,⟨a1,a2⟩,_⟩:=ok;show(ğ p).getD h.toNat 0=_;unfold ğ;rw[Ĭ,List.getElem?_set];by_cases hh:h=fl p 0;.rw[Í (by rw[hh]),Í (by rw[Za9];lia),Í hh];rfl
 .rw[Ë Â,Ë hh,Zbk,Í Â];rfl
theorem π:Ã [ć,ŵ,Ň,"_law_at",AAo] [ć,ŵ] (aD (top 78)):=ö
theorem xX(F:ã K ABf ABf (top 78) f fd)(Te:mg "enumerate"=none)(c1:å P w K mg base 1 "_law_begun" [ć] Bu)(c2:å P w K mg base 1 "_law_holds" [ć,Ň,AAo] xV)(c3:å P w K mg base 1 "_law_sell" [ć,Ň,AAo] GR):Ñ P w K mg base ä 2 f fd [ć,ŵ] vz:=by
 refine F.oq π λai A outer s H vs Q E hr h=>?_;obtain⟨ap,xp,ps,ar,xs,ss,rfl,rp,lp,okp,rs,ls,cw,q⟩:=h;refine⟨_,aC (ĕ 2 π.nd (aH c1 hr (au (pv 0) ao))) (aC (cP Ĺ rfl (ZT.pi_enum true rfl Te (au (pv 1) ao)) (cj rfl (aA (Ö 3 π.nd) (aA (Ö 4 π.nd) aY))) (aC (bU (bH (cA (aH c2 hr (au (pv 0) (au (pv 2) (au (pv 4) ao)))))) (aF (aQ (bW (au (pv 2) (au (pv 3) ao))))) bj) (aF (cB (aH c3 hr (au (pv 0) (au (pv 2) (au (pv 4) ao)))))))) (aF (aQ (bW (au (pv 2) (au j9 ao)))))),?_⟩;refine aP (aW ?_);refine⟨_,rfl,ap,xp,ps,rfl,rp,lp,okp,λfo H1 kvs d1=>?_⟩;refine aJ ?_;dsimp only;refine aP ?_;refine⟨_,rfl,ar,xs,rfl,Î.of (d1.sm _ _ rs.e),?_⟩;have Vs:∀n y,Ź ps n y->ě (ps.getD n.toNat []):=λn y hd=>by obtain⟨p,_,e2,e3⟩:=gB okp hd.1 hd.2.1;rw[e2];exact e3
 refine ZT.for_enum true (xs:=xs) (λi σ Hc=>∃x3 x4,σ=[some (.ref ap),some (.ref ar),some (.ref fo),x3,x4]/\Į fo H Hc (Ź ps) (λn y h=>(cz (ps.getD n.toNat []) (ss.take i) n y).getD h.toNat 0) (λ_ _=>1+2*i) kvs/\∀j,j<i->fH ps (ss.take j) (ss.getD j [])=true) ?_ ?_ ?_ ?_;.exact⟨none,none,rfl,d1.cast λn y hd=>⟨ß _,λh h0 h8=>GX (Vs n y hd) hd.2.2 h0 h8⟩,λj hj=>absurd hj (Za7 _)⟩
 .rintro i σ Hc hi⟨x3,x4,rfl,dt,hh⟩;exact Î.of (dt.sm _ _ rs.e)
 .rintro i x σ Hc T0 hx⟨x3,x4,rfl,dt,hh⟩nT;have hi:i<ss.length:=by have:=(ĵ.mp hx).1;rw[rs.l]at this;exact this
  obtain⟨tr,fR,fq⟩:=rs.g i ss[i] (à hi);have:x=.ref tr:=by rw[hx]at fR;exact ŗ fR
  subst this;have h5:=cw ss[i] (Ě hi);have dT:=dt.new (o:=.tup [V.int i,V.ref tr]) nT;have eT:upd Hc T0 (.tup [V.int i,V.ref tr]) T0=some (.tup [V.int i,V.ref tr]):=aj;generalize upd Hc T0 (.tup [V.int i,V.ref tr])=H2 at dT eT⊢;refine⟨T0,_,rfl,Î.of eT,rfl,_,_,rfl,_,_,rfl,rfl,?_⟩;refine aP ?_;refine⟨_,rfl,_,rfl,_,rfl,ap,xp,ps,fo,H,_,_,kvs,tr,ss[i],rfl,rp.same dT.sm,okp,dT,dT.sm _ _ fq,h5,λH3 s3=>⟨_,rfl,?_⟩⟩;have d3:=dT.same s3;have MI:qT ps (λn y h=>(cz (ps.getD n.toNat []) (ss.take i) n y).getD h.toNat 0) ss[i]=fH ps (ss.take i) ss[i]:=rfl
  cases eh:fH ps (ss.take i) ss[i]with|false=>
   rw[MI,eh];refine bx ⟨_,rfl,_,rfl,zL,λt ht=>q t fo _ (d3.sm.updR ht) ?_ λz=>?_⟩;.rw[v6 hh hi (by rw[á hi];exact eh)];exact aj
   .rw[v6 hh hi (by rw[á hi];exact eh)]at z;cases z;|true=>
   rw[MI,eh];refine bA (cZ ?_);refine⟨_,rfl,_,rfl,_,rfl,ap,xp,ps,fo,H,_,1+2*i,kvs,tr,ss[i],rfl,rp.same d3.sm,okp,d3,Â,d3.sm _ _ fq,h5,MI.trans eh,λH4 d4=>?_⟩;have cb:ss.take (i+1)=ss.take i++[ss[i]]:=by rw[ī,à hi];rfl
   refine⟨_,_,rfl,d4.cast λn y hd=>⟨Â,λh h0 h8=>?_⟩,λj hj=>?_⟩;.rw[cb,DP hd.2.2 (mL h5 eh) h0 h8];rfl
   .rcases Nat.lt_succ_iff_lt_or_eq.mp hj with z|z;.exact hh j z
    .rw[z,á hi];exact eh
 .rintro σ Hc⟨x3,x4,rfl,dt,hh⟩;refine⟨_,rfl,zL,λt ht=>q t fo _ (dt.sm.updR ht) ?_ λ_=>?_⟩;.rw[Bh λj hj=>hh j (by rw[rs.l];exact hj)];exact aj
  .rw[show xs.length=ss.length from rs.l,ł]at dt;exact⟨_,kvs,dt.new ht⟩
theorem JM(F:Ñ P w K mg base ä 2 f fd [ć,ŵ] vz):Ñ P w K mg base ä 2 f fd [ć,ŵ] zu:=by refine F.imp λvs H Q E h=>?_;obtain⟨ap,xp,ps,ar,xs,ss,rfl,rp,lp,okp,rs,ls,cw,q⟩:=h;exact⟨ap,xp,ps,ar,xs,ss,rfl,rp,lp,okp,rs,ls,cw,λt fo H' s e _=>q t fo H' s e⟩
def OJ(st:Addr)(H:Hp)(n:Int)(v:V)(H':Hp):Prop:=∃ps,Ż st H H'/\iy H' st/\Ó (λ_=>False) H' v (cR ps)/\(ps.length:Int)<=n/\∀r∈ps,ě r
inductive ť(vs:List V)(H:Hp)(Q:VK):Prop|mk:∀st n y,(vs=[.ref st,.int n,.int y])->(iy H st)->(1<=n)->(n<=10)->(0<=y)->(y<=1000)->(∀v H',OJ st H n v H'->Q v H')->ť  vs H Q
def xY:Sp:=λvs H Q _=>ť  vs H Q
theorem vA(F:ã K ABo ABo (top 74) f fd)(T:Mg mg)(Tr:mg "range"=none)(Tm:mg "min"=none)(c1:å P w K mg base 1 AAq [ĉ,AAn] jB):Ñ P w K mg base ä 2 f fd [ĉ,Ŭ,AAp] xY:=by
 refine F.oq μ λai A outer s H vs Q E hr h=>?_;obtain⟨st,n,y,rfl,cE,n1,n2,y1,y2,q⟩:=h;refine⟨_,aC (Ei (i:=3) (j:=4) rfl μ.nd rfl rfl Û rfl rfl (au (cX ao) (au (pX bT (cX (jP (by repeat constructor))) (aH c1 hr (au (pv 0) (au az ao)))) ao)) rfl) (aC (cP Ĺ rfl (fK rfl Tr (au (aH c1 hr (au (pv 0) (au (aV cu (pv 1) az) ao))) ao)) (Ö 5 μ.nd) (aC (ĕ 6 μ.nd (aH c1 hr (au (pv 0) (au (aG (iW rfl) rfl Tm į (au az (au (aV cu (pv 2) az) ao))) ao)))) (aC (ĕ 7 μ.nd (aG (iW rfl) rfl Tm į (au az (au (aV cu (pv 6) (aH c1 hr (au (pv 0) (au (pX bT (cX (jP (by repeat constructor))) (aH c1 hr (au (pv 0) (au az ao)))) ao)))) ao)))) (aC (ĕ 8 μ.nd (pX bT (uK (lB az (lB az (lB (aH c1 hr (au (pv 0) (au az ao))) (lB (aV nu az az) bC))))) (aH c1 hr (au (pv 0) (au az ao))))) (aC (ĕ 9 μ.nd (pX bT (uK (lB az (lB az (lB az (lB (aH c1 hr (au (pv 0) (au az ao))) bC))))) (aH c1 hr (au (pv 0) (au az ao))))) (aF (cB (fQ Ŷ Ϯ ϯ d9 (pv 3) (au (tD (fG (bh ⟨pv 9⟩ (bh ⟨aH c1 hr (au (pv 0) (au az ao))⟩ (bh ⟨pv 6⟩ (bh ⟨pv 7⟩ (bh ⟨aV cu az (aH c1 hr (au (pv 0) (au (pv 4) ao)))⟩ (bh ⟨pv 8⟩ bC)))))))) ao))))))))) (aF (aQ (bN bR rfl T.tuple Ò (au (pv 3) ao))))),?_⟩;obtain⟨a,b,es,h1,h2,h3⟩:=id cE;refine aN λc_ ae=>?_;refine⟨zL,λp3 gE=>?_⟩;have hV:p3≠st:=λz=>by rw[z,es]at gE;cases gE
 have g0:Mk3 st p3 [] [] H (upd H p3 (.lst [])):=⟨λb' o' e' _=>À.upd gE _ _ e',⟨a,b,À.upd gE _ _ es,h1,h2,h3⟩,aj,.nil⟩;refine⟨zL,λp hp=>?_⟩;have g1:=g0.new (o:=.lst (([3,12,99]:WF).map V.int)) hp;have np:p≠st:=λz=>by obtain⟨x,y,e7,_⟩:=g0.sa;rw[z,e7]at hp;cases hp
 refine⟨_,rfl,st,3,rfl,g1.sa,by decide,by decide,λr a1 b1 r0 r1 k1 k2 k3=>?_⟩;obtain⟨wd,hw,w1,w2⟩:∃wd:Int,Ņ (([3,12,99]:WF).map V.int) r=some (.int wd)/\1<=wd/\wd<=99:=by
  have:r=0\/r=1\/r=2:=Â;rcases this with rfl|rfl|rfl;.exact⟨3,rfl,by decide,by decide⟩
  .exact⟨12,rfl,by decide,by decide⟩
  .exact⟨99,rfl,by decide,by decide⟩
 refine⟨p,_,r,.int wd,rfl,rfl,Ê.of (by rw[aq np];exact aj),hw,_,_,rfl,?_⟩;have g2:=g1.take hV k1 k2 k3;refine ae _ _ ?_;clear ae c_;try dsimp only
 refine aP ?_;refine⟨_,rfl,_,rfl,_,_,rfl,rfl,st,n+1,rfl,g2.sa,Â,Â,λr2 a2 b2 x0 x1 z1 z2 z3=>⟨r2,rfl,Â,Â,?_⟩⟩;have g3:=g2.take hV z1 z2 z3;refine dW (lo:=0) (n:=r2.toNat) (λi σ H'=>Xe7 λxs ds x5 x6 x7 x8 x9=>Xa4 (σ=[some (.ref st),some (.int n),some (.int y),some (.ref p3),some (.int wd),x5,x6,x7,x8,x9]) (Mk3 st p3 xs ds H H') ((∃rs:UV,ds=rs.map cJ/\rs.length=i/\∀r∈rs,ě r)) (xs.length=i)) ?_ ?_ ?_;.exact⟨[],[],none,none,none,none,none,rfl,g3,⟨[],rfl,rfl,λ_ h=>nomatch h⟩,rfl⟩
 .rintro i σ H' hi⟨xs,ds,x5,x6,x7,x8,x9,rfl,g,⟨rs,ML,QT,MM⟩,hl⟩;have ET:∀{Hc:Hp}{c:Addr},Mk3 st p3 xs ds H Hc->Hc c=none->c≠st:=λ{Hc c}gc hc z=>by obtain⟨x,y,e7,_⟩:=gc.sa;rw[z,e7]at hc;cases hc
  refine aJ ?_;refine aN λc_ ae=>?_;refine aW ?_;refine⟨_,rfl,_,rfl,_,_,rfl,rfl,_,_,rfl,st,_,rfl,g.sa,by split<;>lia,by split<;>lia,λf1 a3 b3 o0 o1 o2 o3 o4=>?_⟩;have g4:=g.take hV o2 o3 o4;have f2:f1<20:=by split at o1<;>lia
  refine aJ ?_;refine ae _ _ ?_;clear ae c_;try dsimp only
  refine aN λc_ ae=>?_;refine aW ?_;refine⟨_,rfl,_,rfl,zL,λp5 A6=>?_⟩;have n5:=ET g4 A6;have g5:=g4.new (o:=.lst (([1,4,20]:WF).map V.int)) A6;refine⟨_,rfl,st,3,rfl,g5.sa,by decide,by decide,λr4 a4 b4 q0 q1 q2 q3 q4=>?_⟩;obtain⟨w5,Vt,w6,w7⟩:∃w5:Int,Ņ (([1,4,20]:WF).map V.int) r4=some (.int w5)/\1<=w5/\w5<=20:=by
   have:r4=0\/r4=1\/r4=2:=Â;rcases this with rfl|rfl|rfl;.exact⟨1,rfl,by decide,by decide⟩
   .exact⟨4,rfl,by decide,by decide⟩
   .exact⟨20,rfl,by decide,by decide⟩
  have g6:=g5.take hV q2 q3 q4;refine⟨p5,_,r4,.int w5,rfl,rfl,Ê.of (by rw[aq n5];exact aj),Vt,st,w5,rfl,g6.sa,w6,Â,λr5 a5 b5 s0 s1 s2 s3 s4=>⟨_,_,rfl,rfl,_,_,rfl,?_⟩⟩;have g7:=g6.take hV s2 s3 s4;refine aJ ?_;refine ae _ _ ?_;clear ae c_;try dsimp only
  refine aN λc_ ae=>?_;refine aW ?_;refine⟨_,rfl,st,1000,rfl,g7.sa,by decide,by decide,λr6 a6 b6 t0 t1 t2 t3 t4=>⟨_,_,rfl,rfl,⟨by decide,by decide,by decide⟩,zL,λp6 A7=>?_⟩⟩;have g8:=g7.take hV t2 t3 t4;have n6:=ET g8 A7;have g9:=g8.new (o:=.lst [V.int 0,V.int 1,V.int r6,V.int (10^(6:Int).toNat)]) A7;refine⟨_,rfl,st,4,rfl,g9.sa,by decide,by decide,λr7 a7 b7 u0 u1 u2 u3 u4=>?_⟩;obtain⟨pr,Vu,Vv,Vw⟩:∃pr:Int,Ņ [V.int 0,V.int 1,V.int r6,V.int (10^(6:Int).toNat)] r7=some (.int pr)/\0<=pr/\pr<=1000000:=by
   have:r7=0\/r7=1\/r7=2\/r7=3:=Â;rcases this with rfl|rfl|rfl|rfl;.exact⟨0,rfl,by decide,by decide⟩
   .exact⟨1,rfl,by decide,by decide⟩
   .exact⟨r6,rfl,t0,Â⟩
   .exact⟨_,rfl,by decide,by decide⟩
  have ga:=g9.take hV u2 u3 u4;refine⟨p6,_,r7,.int pr,rfl,rfl,Ê.of (by rw[aq n6];exact aj),Vu,?_⟩;refine aJ ?_;refine ae _ _ ?_;clear ae c_;try dsimp only
  refine aN λc_ ae=>?_;refine aW ?_;refine⟨_,rfl,st,8,rfl,ga.sa,by decide,by decide,λr8 a8 b8 v0 v1 v2 v3 v4=>⟨zL,λp7 A8=>?_⟩⟩;have gb:=ga.take hV v2 v3 v4;have n7:=ET gb A8;have gc:=gb.new (o:=.lst [V.int 0,V.int 1,V.int 2,V.int r8]) A8;refine⟨_,rfl,st,4,rfl,gc.sa,by decide,by decide,λr9 a9 b9 y0 y3 y4 y5 y6=>?_⟩;obtain⟨ho,Vx,Vy,qo⟩:∃ho:Int,Ņ [V.int 0,V.int 1,V.int 2,V.int r8] r9=some (.int ho)/\0<=ho/\ho<8:=by
   have:r9=0\/r9=1\/r9=2\/r9=3:=Â;rcases this with rfl|rfl|rfl|rfl;.exact⟨0,rfl,by decide,by decide⟩
   .exact⟨1,rfl,by decide,by decide⟩
   .exact⟨2,rfl,by decide,by decide⟩
   .exact⟨r8,rfl,v0,v1⟩
  have gd:=gc.take hV y4 y5 y6;refine⟨p7,_,r9,.int ho,rfl,rfl,Ê.of (by rw[aq n7];exact aj),Vx,?_⟩;refine aJ ?_;refine ae _ _ ?_;clear ae c_;try dsimp only
  refine⟨_,rfl,.inl ⟨rfl,_,Ê.of gd.e3⟩,?_⟩;refine⟨_,rfl,_,rfl,st,3,rfl,gd.sa,by decide,by decide,λra aa ba c0 c1 c2 c3 c4=>?_⟩;have ge:=gd.take hV c2 c3 c4;refine⟨_,rfl,_,rfl,_,rfl,_,rfl,st,wd,rfl,ge.sa,w1,Â,λrb ab bb d0 d1 d2 d3 d4=>⟨_,_,rfl,rfl,_,rfl,zL,λl fe=>?_⟩⟩;have gf:=ge.take hV d2 d3 d4;have gg:=gf.new (o:=.tup [V.int ho,V.int ra,V.int f1,V.int (if f1+r5<19 then f1+r5 else 19),V.int (1+rb),V.int pr]) fe;have D9:l≠p3:=λz=>by rw[z,gf.e3]at fe;cases fe
  refine⟨p3,xs,.ref l,rfl,rfl,gg.e3,by rw[hl,sizeLine_eq];lia,?_⟩;refine⟨xs++[.ref l],ds++[.tuple [.int ho,.int ra,.int f1,.int (if f1+r5<19 then f1+r5 else 19),.int (1+rb),.int pr]],_,_,_,_,_,rfl,⟨λb' o' e' ne=>?_,?_,aj,?_⟩,?_,by rw[õ,hl];rfl⟩;.have:b'≠p3:=aB e' gE;rw[aq this];exact gg.bt b' o' e' ne
  .obtain⟨x,y',e7,k⟩:=gg.sa;exact⟨x,y',by rw[aq hV.symm];exact e7,k⟩
  .refine Ä.append (gg.ts.keep (λc l' e'=>?_) (λ_ _ z _=>z.elim) λ_ _ z _=>z.elim) (.cons (.tup (by rw[aq D9];exact aj) (.cons (.int _) (.cons (.int _) (.cons (.int _) (.cons (.int _) (.cons (.int _) (.cons (.int _) .nil))))))) .nil);have:c≠p3:=λz=>by rw[z,gg.e3]at e';cases e'
   rw[aq this];exact e'
  .refine⟨rs++[[ho,ra,f1,(if f1+r5<19 then f1+r5 else 19),1+rb,pr]],by rw[ML,ô];rfl,by rw[õ,QT];rfl,λr hr=>?_⟩;rcases Ę.mp hr with z|z;.exact MM r z
   .rw[ű.mp z];have lb:f1<=(if f1+r5<19 then f1+r5 else 19)/\(if f1+r5<19 then f1+r5 else 19)<=19:=by split<;>lia
    exact⟨rfl,⟨Vy,qo⟩,⟨c0,c1⟩,⟨o0,lb.1,lb.2⟩,⟨(by show 1<=1+rb;lia),(by show 1+rb<=99;lia)⟩,Vv,Vw⟩
 .rintro σ H'⟨xs,ds,x5,x6,x7,x8,x9,rfl,g,⟨rs,ML,QT,MM⟩,hl⟩;refine⟨_,rfl,p3,xs,rfl,.inl ⟨Ê.of g.e3,λl fe=>?_⟩⟩;have g':=g.new (o:=.tup xs) fe;rw[ML]at g';exact q _ _ ⟨rs,g'.bt,g'.sa,.tup aj (g'.ts.keep (λ_ _ e=>e) (λ_ _ z _=>z.elim) λ_ _ z _=>z.elim),Â,MM⟩
theorem Bv:Ġ X (binaryOp .Add) (λx y H Q=>Xe4 λa b xs ys=>Xa7 (x=.ref a) (y=.ref b) (H a=some (.tup xs)) (H b=some (.tup ys)) (ys≠[]) (xs.length+ys.length<=sizeLine) (∀c H',À H H'->H' c=some (.tup (xs++ys))->Q (.ref c) H')):=by intro Á s σ H x y v u Q I rx ry h;obtain⟨a,b,xs,ys,rfl,rfl,ha,hb,hy,hz,q⟩:=h;refine Fy Á s σ H _ _ v u Q I rx ry ⟨a,b,xs,ys,rfl,rfl,Î.of ha,Î.of hb,hy,hz,λe=>q b H (À.refl H) (by rw[e];exact hb),λ_ p hp=>q p _ (À.upd hp) aj⟩
theorem Dr.rows(g:Dr st H H')(h0:iy H st)(r:È H a xs rs):È H' a xs rs:=by obtain⟨x,y,e,_⟩:=h0;exact r.keep λb l e'=>g.bt _ _ e' λz=>by rw[z,e]at e';cases e'
theorem DQ:bootBuiltins "max"=some (.builtin "max"):=by decide+kernel
theorem tY{r:WF}(h:È H a xs rs)(et:H t=some (.tup (r.map V.int)))(eb:H b=some (.tup (xs++[V.ref t]))):È H b (xs++[V.ref t]) (rs++[r]):=by
 refine⟨eb,by rw[õ,õ,h.l];rfl,λi r' e=>?_⟩;by_cases hi:i<rs.length;.rw[zBd hi]at e;rw[zBd (by rw[h.l];exact hi)];exact h.g i r' e
 .rw[zBc Â]at e;rw[zBc (by rw[h.l];lia),h.l];cases hj:i-rs.length with|zero=>rw[hj]at e;injection e with e;subst e;exact⟨t,rfl,et⟩;|succ k=>rw[hj]at e;simp at e
def smR(s:WF):Prop:=s.length=5/\∀i∈s,-10<=i/\i<=2000000
inductive Ϻ(vs:List V)(H:Hp)(Q:VK):Prop|mk:∀st ap xp ps,(vs=[.ref st,.ref ap])->(iy H st)->(È H ap xp ps)->(ps.length<=10)->((∀r∈ps,ě r))->(∀t s H',Dr st H H'->H' t=some (.tup (s.map V.int))->smR s->Q (.ref t) H')->Ϻ  vs H Q
def Ku:Sp:=λvs H Q _=>Ϻ  vs H Q
theorem Ğ:Ã [ĉ,ć,AAm,AAx,ϭ,"_law_first","_law_last",Ϝ,"_law_price",ABj,"_law_buyer",ο] [ĉ,ć] (aD (top 79)):=ö
theorem Mu(F:ã K ABp ABp (top 79) f fd)(T:Mg mg)(Tm:mg "max"=none)(c1:å P w K mg base 1 AAq [ĉ,AAn] jB):Ñ P w K mg base ä 2 f fd [ĉ,ć] Ku:=by
 refine F.oq Ğ λai A outer s H vs Q E hr h=>?_;obtain⟨st,ap,xp,ps,rfl,cE,rp,lp,okp,q⟩:=h;refine⟨_,aC (ĕ 2 Ğ.nd (aH c1 hr (au (pv 0) (au (aG (sr rfl) rfl Tm DQ (au az (au (aG aX rfl T.len PySem.boot_len (au (pv 1) ao)) ao))) ao)))) (aC (d7 (pX bQ (aV Bv (pv 1) (bW (au (bW (jP (by repeat constructor))) ao))) (pv 2)) (cj rfl (aA (Ö 3 Ğ.nd) (aA (Ö 4 Ğ.nd) (aA (Ö 5 Ğ.nd) (aA (Ö 6 Ğ.nd) (aA (Ö 7 Ğ.nd) (aA (Ö 8 Ğ.nd) aY)))))))) (aC (ĕ 9 Ğ.nd (pX bT (cX (au (pv 3) (au (pv 3) (au (aH c1 hr (au (pv 0) (au az ao))) ao)))) (aH c1 hr (au (pv 0) (au az ao))))) (aC (ĕ 10 Ğ.nd (aV iJ (aV cu (aV cu (pv 9) az) (aH c1 hr (au (pv 0) (au az ao)))) az)) (aC (ĕ 11 Ğ.nd (aV cu (pv 5) (aH c1 hr (au (pv 0) (au (aV cu (aV dG (pv 6) (pv 5)) az) ao))))) (aF (aQ (tD (fG (bh ⟨pv 2⟩ (bh ⟨pv 9⟩ (bh ⟨pv 10⟩ (bh ⟨aV cu az (aH c1 hr (au (pv 0) (au (pv 7) ao)))⟩ (bh ⟨pv 11⟩ bC))))))))))))),?_⟩;have g0:Dr st H H:=⟨Ż.refl,cE⟩;have hxl:xp.length<=10:=by rw[rp.l];exact lp
 refine aP (aW ?_);refine⟨_,rfl,_,rfl,ap,xp,rfl,.inr (Î.of rp.e),_,_,rfl,st,_,rfl,cE,?_,?_,λr1 a1 b1 r0 rn k1 k2 k3=>?_⟩;.split<;>lia
 .split<;>lia
 have g1:=g0.take k1 k2 k3;have kQ:=g1.rows cE rp;have rn2:r1.toNat<xp.length+1:=by split at rn<;>lia
 generalize upd H st (.lst [.int a1,.int b1])=H1 at g1 kQ⊢;refine aJ ?_;dsimp only;refine aP ?_;refine⟨_,rfl,zL,λt0 QU=>⟨zL,λt1 pj=>?_⟩⟩;have g2:=(g1.new (o:=.tup (([0,0,0,3,9,0]:WF).map V.int)) QU).new (o:=.tup [V.ref t0]) pj;have m2:À H1 (upd (upd H1 t0 (.tup (([0,0,0,3,9,0]:WF).map V.int))) t1 (.tup [V.ref t0])):=(À.upd QU).updR pj;have GV:=À.upd (o:=.tup [V.ref t0]) pj t0 (.tup (([0,0,0,3,9,0]:WF).map V.int)) aj;have QV:upd (upd H1 t0 (.tup (([0,0,0,3,9,0]:WF).map V.int))) t1 (.tup [V.ref t0]) t1=some (.tup [V.ref t0]):=aj;generalize upd (upd H1 t0 (.tup (([0,0,0,3,9,0]:WF).map V.int))) t1 (.tup [V.ref t0])=H2 at g2 m2 GV QV⊢;refine⟨ap,t1,xp,_,rfl,rfl,m2 _ _ kQ.e,QV,by simp,by rw[sizeLine_eq];show xp.length+1<=_;lia,λc H3 s3 ec=>?_⟩;have g3:=g2.same s3;have GW:=tY ((kQ.same m2).same s3) (s3 _ _ GV) ec;have MO:∀r∈ps++[[0,0,0,3,9,0]],ě r:=λr hr=>by
  rcases Ę.mp hr with z|z;.exact okp r z
  .rw[ű.mp z];exact⟨rfl,by decide,by decide,by decide,by decide,by decide⟩
 obtain⟨p,hp,_,op⟩:=gB (n:=r1) MO r0 (by rw[õ,<-rp.l];show r1<((xp.length+1:Nat):Int);lia);obtain⟨tp,fm,fw⟩:=iH GW r0 hp;rw[fB op.1]at fw;obtain⟨_,⟨p1,p2⟩,_,⟨p3,p4,p5⟩,⟨p6,p7⟩,_⟩:=id op;refine⟨_,rfl,c,_,r1,.ref tp,rfl,rfl,Î.of ec,fm,?_⟩;refine⟨tp,_,rfl,Î.of fw,rfl,_,_,rfl,_,_,rfl,_,_,rfl,_,_,rfl,_,_,rfl,_,_,rfl,rfl,?_⟩;dsimp only;refine aP (aW ?_);refine⟨_,rfl,_,rfl,_,rfl,st,8,rfl,g3.sa,by decide,by decide,λr2 a2 b2 i0 i1 k4 k5 k6=>⟨zL,λl1 ej=>?_⟩⟩;have g4:=(g3.take k4 k5 k6).new (o:=.lst [V.int (fl p 0),V.int (fl p 0),V.int r2]) ej;have n4:=(g3.take k4 k5 k6).ne ej;refine⟨_,rfl,st,3,rfl,g4.sa,by decide,by decide,λr3 a3 b3 i2 i3 k7 k8 k9=>?_⟩;obtain⟨sl,F3,sl1,kC⟩:∃sl:Int,Ņ [V.int (fl p 0),V.int (fl p 0),V.int r2] r3=some (.int sl)/\0<=sl/\sl<8:=by
  have:r3=0\/r3=1\/r3=2:=Â;rcases this with rfl|rfl|rfl;.exact⟨_,rfl,p1,p2⟩
  .exact⟨_,rfl,p1,p2⟩
  .exact⟨_,rfl,i0,i1⟩
 have g5:=g4.take k7 k8 k9;refine⟨l1,_,r3,.int sl,rfl,rfl,Ê.of (by rw[aq n4];exact aj),F3,?_⟩;refine aJ ?_;dsimp only;refine aP (aW ?_);refine⟨_,rfl,_,_,rfl,rfl,_,rfl,st,7,rfl,g5.sa,by decide,by decide,λr4 a4 b4 i4 i5 m1 Vz m3=>⟨_,_,rfl,rfl,_,_,rfl,rfl,(by show(0:Int)<8;decide),?_⟩⟩;have g6:=g5.take m1 Vz m3;refine aJ ?_;dsimp only;refine aP (aW ?_);refine⟨_,rfl,_,rfl,_,rfl,_,rfl,_,_,rfl,rfl,_,_,rfl,rfl,st,_,rfl,g6.sa,Â,Â,λr5 a5 b5 i6 i7 m4 m5 m6=>⟨_,_,rfl,rfl,?_⟩⟩;have g7:=g6.take m4 m5 m6;refine aJ ?_;dsimp only;refine⟨_,rfl,_,rfl,_,rfl,_,rfl,_,rfl,st,_,rfl,g7.sa,p6,Â,λr6 a6 b6 i8 i9 m7 m8 m9=>⟨_,_,rfl,rfl,_,rfl,zL,λt ht=>?_⟩⟩;have g8:=g7.take m7 m8 m9;refine q t [r1,sl,(sl+1+r4)%8,1+r6,fl p 2+r5] _ (g8.new ht) aj ⟨rfl,λi hi=>?_⟩;simp only[List.mem_cons,List.not_mem_nil,or_false]at hi;have e8:0<=(sl+1+r4)%8/\(sl+1+r4)%8<8:=⟨Zbi _ Û,Za5 _ Û⟩;lia
theorem Β:Ã [ĉ,ć,Ŭ,ϝ,"_law_turn","_law_more"] [ĉ,ć,Ŭ] (aD (top 80)):=ö
theorem ϲ:Ã [ĉ,AAp,Ŭ,ŵ,AAt,ć] [ĉ,AAp,Ŭ,ŵ] (aD (top 81)):=ö
theorem qU:∀{a b:WF},a.Pairwise (·<·)->b.Pairwise (·<·)->(∀x,x∈a↔x∈b)->a=b
 |[],[],_,_,_=>rfl|[],y::b,_,_,h=>absurd ((h y).mpr (.head _)) Ù|x::a,[],_,_,h=>absurd ((h x).mp (.head _)) Ù|x::a,y::b,ha,hb,h=>by
  obtain⟨QW,VA⟩:=List.pairwise_cons.mp ha;obtain⟨ki,iE⟩:=List.pairwise_cons.mp hb;have e:x=y:=by
   rcases ĩ.mp ((h x).mp (.head _))with z|z;.exact z
   .rcases ĩ.mp ((h y).mpr (.head _))with z'|z';.exact z'.symm
    .have:=QW y z';have:=ki x z;lia
  subst e;rw[qU VA iE λz=>⟨λhz=>?_,λhz=>?_⟩]
  .rcases ĩ.mp ((h z).mp (.tail _ hz))with w|w;.have:=QW z hz;lia
   .exact w
  .rcases ĩ.mp ((h z).mpr (.tail _ hz))with w|w;.have:=ki z hz;lia
   .exact w
def iz(p:Key×V):Int:=match p.1 with|.inl h=>h|.inr _=>0
theorem mR:∀{kv:List (Key×V)},Œ kv->(kv.map λp=>kV p.1)=(kv.map iz).map V.int/\kv.map (·.1)=(kv.map iz).map Sum.inl
 |[],_=>⟨rfl,rfl⟩|p::kv,g=>by
  obtain⟨h,e,_⟩:=g p (.head _);obtain⟨i1,i2⟩:=mR λq hq=>g q (.tail _ hq);have ei:iz p=h:=by unfold iz;rw[e]
  refine⟨?_,?_⟩;.rw[Ī,Ī,Ī,i1,ei,e];rfl
  .rw[Ī,Ī,Ī,i2,ei,e]
theorem GZ(hm:h∈kv.map iz)(g:Œ kv):(cQ kv (.inl h)).isSome=true:=by rw[<-gG,List.any_eq_true];obtain⟨p,hp,e⟩:=ñ.mp hm;obtain⟨h',e',_⟩:=g p hp;refine⟨p,hp,ð ?_⟩;rw[e',<-e];unfold iz;rw[e']
theorem JN(hs:(cQ kv (.inl h)).isSome=true):h∈kv.map iz:=by rw[<-gG,List.any_eq_true]at hs;obtain⟨p,hp,e⟩:=hs;have e:=ŭ e;refine ñ.mpr ⟨p,hp,?_⟩;unfold iz;rw[e]
theorem Ha{L ns:WF}(hL:L.length=8)(g:Œ kv)(nd:(kv.map (·.1)).Nodup)(hv:∀h,0<=h->h<8->(cQ kv (.inl h)).getD (.int 0)=.int (L.getD h.toNat 0))(pm:ns.Perm (kv.map iz))(so:ns.Pairwise (·<=·)):(ns.filter λh=>decide (0<L.getD h.toNat 0)).map (λh=>[h,L.getD h.toNat 0])=fJ L 8:=by
 have MQ:(kv.map iz).Nodup:=by rw[(mR g).2]at nd;exact(List.pairwise_map.mp nd).imp λ{a b}h e=>h (by rw[e])
 have MR:ns.Nodup:=pm.nodup_iff.mpr MQ;have lt:ns.Pairwise (·<·):=(so.and MR).imp λ{a b}h=>by have h1:a<=b:=h.1;have h2:a≠b:=h.2;lia
 have eq:(ns.filter λh=>decide (0<L.getD h.toNat 0))=(((List.range 8).filter λh=>decide (0<L.getD h 0)).map λ(h:Nat)=>(h:Int)):=by
  refine qU (lt.filter _) ?_ λx=>?_;.rw[List.pairwise_map];exact(List.pairwise_lt_range.filter _).imp λ{a b}h=>by lia
  .rw[δ,ñ,pm.mem_iff];constructor
   .rintro⟨h1,h2⟩;obtain⟨p,hp,e⟩:=ñ.mp h1;obtain⟨h,e',h0,h8⟩:=g p hp;have ex:x=h:=by rw[<-e];unfold iz;rw[e']
    refine⟨x.toNat,δ.mpr ⟨Ϣ.mpr Â,h2⟩,Â⟩
   .rintro⟨k,hk,rfl⟩;obtain⟨h1,h2⟩:=δ.mp hk;have h1:=Ϣ.mp h1;have h2:=ŭ h2;refine⟨JN ?_,ð (by rw[ś];exact h2)⟩;have:=hv (k:Int) Â Â;rw[ś]at this;cases z:cQ kv (.inl (k:Int))with|some v=>rfl;|none=>rw[z]at this;injection this with this;lia
 rw[eq,Ĳ];unfold fJ;refine Zbg λk _=>?_;show[(k:Int),L.getD ((k:Int)).toNat 0]=_;rw[ś]
theorem Hb:∀{l:WF}{a:Int}{k:Nat},l.Pairwise (·<·)->(∀x∈l,a<=x/\x<a+k)->l.length<=k
 |[],_,_,_,_=>ĥ _|x::l,a,0,h,g=>by have:=g x (.head _);lia;|x::l,a,k+1,h,g=>by
  obtain⟨h1,h2⟩:=List.pairwise_cons.mp h;have gx:=g x (.head _);have:=Hb (a:=a+1) (k:=k) h2 λy hy=>by have:=g y (.tail _ hy);have:=h1 y hy;lia
  rw[ĳ];lia
theorem Bw{ns:WF}(g:Œ kv)(nd:(kv.map (·.1)).Nodup)(pm:ns.Perm (kv.map iz))(so:ns.Pairwise (·<=·)):ns.length<=8:=by
 have MQ:(kv.map iz).Nodup:=by rw[(mR g).2]at nd;exact(List.pairwise_map.mp nd).imp λ{a b}h e=>h (by rw[e])
 have MR:ns.Nodup:=pm.nodup_iff.mpr MQ;have lt:ns.Pairwise (·<·):=(so.and MR).imp λ{a b}h=>by have h1:a<=b:=h.1;have h2:a≠b:=h.2;lia
 refine Hb (a:=0) (k:=8) lt λx hx=>?_;obtain⟨p,hp,e⟩:=ñ.mp (pm.mem_iff.mp hx);obtain⟨h,e',h0,h8⟩:=g p hp;have ex:x=h:=by rw[<-e];unfold iz;rw[e']
 lia
theorem Hf(g:Œ kv)(nd:(kv.map (·.1)).Nodup):(kv.map iz).length<=8:=by
 have pm:=List.mergeSort_perm (kv.map iz) (λa b=>decide (a<=b));have so:((kv.map iz).mergeSort λa b=>decide (a<=b)).Pairwise (·<=·):=(List.pairwise_mergeSort (le:=λa b=>decide (a<=b)) (λa b c h1 h2=>by simp only[Ć]at*;lia) (λa b=>by simp only[Bool.or_eq_true,Ć];lia) _).imp λ{a b}h=>by simpa using h
 rw[<-pm.length_eq];exact Bw g nd pm so
def qW(L ns:WF):UV:=(ns.filter λh=>decide (0<L.getD h.toNat 0)).map λh=>[h,L.getD h.toNat 0]
theorem oH(L ns:WF)(x:Int):qW L (ns++[x])=qW L ns++(if 0<L.getD x.toNat 0 then[[x,L.getD x.toNat 0]]else[]):=by
 unfold qW;rw[Zaz,ô];congr 1;by_cases h:0<L.getD x.toNat 0;.rw[Í h,zBg (p:=λ(h:Int)=>decide (0<L.getD h.toNat 0)) (ð h)];rfl
 .rw[Ë h,zBf (p:=λ(h:Int)=>decide (0<L.getD h.toNat 0)) (by rw[Ć];exact h)];rfl
def tZ(ps ss:UV)(n y h:Int):Int:=(cz (ps.getD n.toNat []) ss n y).getD h.toNat 0
inductive ŏ(vs:List V)(H:Hp)(Q:VK):Prop|mk:∀ap xp ps fo H0 b kvs ss sort year,(vs=[.ref ap,.ref fo,.int sort,.int year])->(È H ap xp ps)->(ps.length<=10)->((∀r∈ps,ě r))->(Į fo H0 H (Ź ps) (tZ ps ss) b kvs)->(∀l xl H',À H H'->H l=none->H' l=some (.lst xl)->ï H' xl ((dO ps ss sort year).map List.tail)->Q (.ref l) H')->ŏ  vs H Q
def u9:Sp:=λvs H Q _=>ŏ  vs H Q
theorem DR(ps ss:UV)(sort year:Int)(i:Nat):((jm ps ss sort year i).map List.tail).length<=8*i:=by rw[Ø];exact mQ ps ss sort year i
theorem zx:bootBuiltins "list"=some (.type "list"):=by decide+kernel
theorem Qx:([AAx,AAm,ABc]:ó).Nodup:=by decide+kernel
theorem ϱ:Ã [ć,Ň,ϭ,ο,ϝ,AAm,"_law_promise",ABc] [ć,Ň,ϭ,ο] (aD (top 83)):=ö
theorem zG(F:ã K "_law_claims" "_law_claims" (top 83) f fd)(Te:mg "enumerate"=none)(Tl:mg "list"=none)(Ts:mg "sorted"=none):Ñ P w K mg base ä 1 f fd [ć,Ň,ϭ,ο] u9:=by
 refine F.oq ϱ λai A outer s H vs Q E hr h=>?_;obtain⟨ap,xp,ps,fo,H0,b,kvs,ss,sort,year,rfl,rp,lp,okp,dt,q⟩:=h;refine⟨_,aC (ĕ 4 ϱ.nd (cX ao)) (aC (cP Ĺ rfl (ZT.pi_enum true rfl Te (au (pv 0) ao)) (cj rfl (aA (bJ (i:=5) ϱ.nd rfl (Or.inr rfl)) (aA (Ö 6 ϱ.nd) aY))) (aC (mZ (i:=7) ϱ.nd rfl (Or.inr rfl) (qe (fU hr) (pv 1) (bW (au (pv 5) (au (pv 3) ao))) wz (by constructor<;>rfl))) (aF (bU (aZ ig (pX bQ (pv 6) az) (pv 2) (bf _)) (aF (cB (fQ Ŷ PySem.F.slot_list_extend PySem.F.type_list_extend Cq (pv 4) (au (bD [AAx,AAm,ABc] [none,some 5,some 7] rfl (dN (aG uT rfl Ts é (au (bN (qD rfl) rfl Tl zx (au (pv 7) ao)) ao))) (λC fp Á s₂ Õ=>⟨Ö 0 Qx,iB (aZ jr (gr (fU hr) (pv 2) (pv 0) (λ_ _=>rfl)) az (bf _)),bW (au (pv 1) (au (pv 0) (au (gr (fU hr) (pv 2) (pv 0) (λ_ _=>rfl)) ao)))⟩) (λC=>cI (cI trivial)) ⟨rfl,rfl,rfl,rfl⟩) ao)))) bj)))) (aF (aQ (pv 4)))),?_⟩;refine aN λc_ ae=>?_;refine aW ?_;refine⟨zL,λl hl=>?_⟩;refine aJ ?_;refine ae _ _ ?_;clear ae c_;try dsimp only
 refine aP ?_;have s0:=À.upd (o:=.lst []) hl;refine⟨_,rfl,ap,xp,rfl,Î.of (s0 _ _ rp.e),?_⟩;refine ZT.for_enum true (xs:=xp) (λi σ Hc=>Xe4 λx5 x6 x7 xl=>Xa4 (σ=[some (.ref ap),some (.ref fo),some (.int sort),some (.int year),some (.ref l),x5,x6,x7]) ((∀b o,H b=some o->Hc b=some o)) (Hc l=some (.lst xl)) (ï Hc xl ((jm ps ss sort year i).map List.tail))) ?_ ?_ ?_ ?_;.exact⟨none,none,none,[],rfl,λb o e=>s0 _ _ e,aj,ï.nil⟩
 .rintro i σ Hc hi⟨x5,x6,x7,xl,rfl,k,el,ht⟩;exact Î.of (k _ _ rp.e)
 .rintro i x σ Hc T0 hx⟨x5,x6,x7,xl,rfl,k,el,ht⟩nT;have hi:i<ps.length:=by have:=(ĵ.mp hx).1;rw[rp.l]at this;exact this
  obtain⟨tr,fR,fq⟩:=rp.g i ps[i] (à hi);have:x=.ref tr:=by rw[hx]at fR;exact ŗ fR
  subst this;have op:=okp ps[i] (Ě hi);have ep:ps.getD i []=ps[i]:=á hi;rw[fB op.1]at fq;have sT:=À.upd (o:=.tup [V.int i,V.ref tr]) nT;have kT:À H (upd Hc T0 (.tup [V.int i,V.ref tr])):=λb o e=>sT _ _ (k _ _ e);have A0:=sT _ _ el;have A1:=ht.same sT;have eT:=aj (H:=Hc) (a:=T0) (o:=.tup [V.int i,V.ref tr]);generalize upd Hc T0 (.tup [V.int i,V.ref tr])=H1 at kT A0 A1 eT⊢;refine⟨T0,_,rfl,Î.of eT,rfl,_,_,rfl,_,_,rfl,rfl,?_⟩;dsimp only;have pE:=dt.same kT;refine aN λc_ ae=>?_;refine aW ?_;refine⟨_,rfl,fo,rfl,.inr ⟨kvs,.inl pE.e⟩,_,rfl,_,rfl,zL,λkk hk=>?_⟩;have s8:=À.upd (o:=.tup [.int i,.int year]) hk;refine λz QX nz=>?_;have s9:=s8.updR (o:=.dK []) QX;have QY:=À.upd (o:=.dK []) QX _ _ (aj (H:=H1) (a:=kk) (o:=.tup [.int i,.int year]));refine⟨_,Ē.t (k:=ky i year) (s9 _ _ pE.e) QY,?_⟩;have row:∃dr kv,(cQ kvs (ky i year)).getD (.ref z)=.ref dr/\upd (upd H1 kk (.tup [.int i,.int year])) z (.dK []) dr=some (.dK kv)/\Œ kv/\∀h,0<=h->h<8->(cQ kv (.inl h)).getD (.int 0)=.int ((cz ps[i] ss i year).getD h.toNat 0):=by
   by_cases hd:Ź ps i year;.obtain⟨dr,kv,q1,q2,q3,q4⟩:=pE.g i year hd;refine⟨dr,kv,by rw[q1];rfl,s9 _ _ q2,q3.2,λh h0 h8=>?_⟩;have:=q4 h h0 h8;unfold tZ at this;rw[ś,ep]at this;exact this
   .refine⟨z,[],by rw[pE.no i year hd];rfl,aj,λp hp=>absurd hp Ù,λh h0 h8=>?_⟩;have:¬(fl ps[i] 2<=year/\year<=fl ps[i] 3):=λw=>hd ⟨Â,Â,by rw[ś,ep];exact w.1,by rw[ś,ep];exact w.2⟩;unfold cz;rw[Ë this,Ĭ,Zbk,Í Â];rfl
  obtain⟨dr,kv,er,vn,ks,hv⟩:=row;have QZ:(cQ kvs (ky i year)).getD (.ref z)=.ref dr:=er;rw[QZ];refine aJ ?_;refine ae _ _ ?_;clear ae c_;try dsimp only
  refine fZ (λH9=>À H1 H9/\H9 dr=some (.dK kv)) ⟨s9,vn⟩ λH9=>?_;rintro⟨s9,vn⟩;clear pE QY er QZ s8;have k9:=kT.trans s9;have MU:=s9 _ _ A0;have Ra:=A1.same s9;have GH:=gq ps[i] ss i year;have va:(jq ps ss sort year i).map List.tail=if fl ps[i] 1=sort then(fJ (cz ps[i] ss i year) 8).map (λr=>(i:Int)::r)else[]:=by
   unfold jq;rw[ep];split;.rw[Ĳ];rfl
   .rfl
  have Rb:(jm ps ss sort year (i+1)).map List.tail=(jm ps ss sort year i).map List.tail++(jq ps ss sort year i).map List.tail:=by show(jm ps ss sort year i++jq ps ss sort year i).map List.tail=_;rw[ô]
  rw[Rb,va];clear Rb va;generalize cz ps[i] ss i year=L at hv GH⊢;refine⟨_,rfl,tr,_,1,.int (fl ps[i] 1),rfl,rfl,Î.of (k9 _ _ fq),rfl,_,rfl,rfl,_,rfl,?_⟩;by_cases hs:fl ps[i] 1=sort
  .rw[ð (by rw[hs])];refine bx ?_;rw[Í hs];refine⟨_,rfl,.inl ⟨rfl,_,Ê.of MU⟩,?_⟩;refine⟨_,rfl,dr,kv,rfl,vn,λnd l2 eR=>?_⟩;rw[(mR ks).1];refine⟨l2,kv.map iz,rfl,Ê.of aj,(by have:=Hf ks nd;lia),λq' ns LJ pm so=>?_⟩;have EU:=(À.upd (o:=.lst ((kv.map iz).map V.int)) eR).updR (o:=.lst (ns.map V.int)) LJ;have EV:=EU _ _ vn;have sv:=aj (H:=upd H9 l2 (.lst ((kv.map iz).map V.int))) (a:=q') (o:=.lst (ns.map V.int));generalize upd (upd H9 l2 (.lst ((kv.map iz).map V.int))) q' (.lst (ns.map V.int))=HA at EU EV sv⊢;have ln:=Bw ks nd pm so;have fin:qW L ns=fJ L 8:=Ha GH ks nd hv pm so;rw[<-fin];have vh:∀h∈ns,cQ kv (.inl h)=some (.int (L.getD h.toNat 0)):=λh hh=>by
    obtain⟨p,hp,e⟩:=ñ.mp (pm.mem_iff.mp hh);obtain⟨h',e',h0,h8⟩:=ks p hp;have ex:h=h':=by rw[<-e];unfold iz;rw[e']
    have vs:=GZ (pm.mem_iff.mp hh) ks;have:=hv h Â Â;cases z:cQ kv (.inl h)with|none=>rw[z]at vs;cases vs;|some v=>rw[z]at this;exact congrArg some this
   have kA:=k9.trans EU;have Rc:=EU _ _ MU;have VB:=Ra.same EU;refine⟨q',rfl,⟨_,Ê.of sv⟩,gK ns.length (λj ys σ Hc=>À HA Hc/\(∃o1,σ=[o1,some (.int i),some (.ref dr)])/\ï Hc ys ((qW L (ns.take j)).map (λr=>(i:Int)::r))) ⟨À.refl _,⟨_,rfl⟩,ï.nil⟩ ŷ ?_ ?_⟩
   .rintro j ys σ Hj hj hy⟨sc,⟨o1,rfl⟩,kN⟩;have kr:Ê K Hj q' (ns.map V.int):=Ê.of (sc _ _ sv);have hx:(ns.map V.int)[j]?=some (.int ns[j]):=by rw[ċ,à hj];rfl
    have cb:ns.take (j+1)=ns.take j++[ns[j]]:=by rw[ī,à hj];rfl
    have vk:=vh ns[j] (Ě hj);have Rf:=sc _ _ EV;refine⟨⟨_,_,kr,hx⟩,λx H' yv R hR=>?_⟩;obtain⟨rfl,yv⟩:=yv;have yv:=yv _ kr;rw[hx]at yv;cases yv;refine aJ ?_;refine⟨_,rfl,_,rfl,dr,_,rfl,by rw[<-vk];exact Ē.k (k:=.inl ns[j]) Rf,_,_,rfl,rfl,_,rfl,?_⟩;by_cases aS:0<L.getD (ns[j]).toNat 0;.rw[ð aS];refine bx ⟨_,rfl,_,rfl,_,rfl,_,rfl,dr,_,rfl,by rw[<-vk];exact Ē.k (k:=.inl ns[j]) Rf,zL,λt iq=>hR _ _ _ (by rw[õ];show ys.length+1<=j+1;lia) ⟨sc.updR iq,⟨_,rfl⟩,?_⟩⟩;rw[cb,oH,Í aS,ô];exact(kN.same (À.upd iq)).app (ï.one aj)
    .rw[Ĝ aS];refine bA (hR _ _ _ Â ⟨sc,⟨_,rfl⟩,?_⟩);rw[cb,oH,Ë aS,Ś];exact kN
   .rintro ys σ Hj hy⟨sc,_,kN⟩;rw[ł]at kN;refine⟨⟨_,Ê.of (sc _ _ sv),by rw[Ø];exact ß _⟩,λD hD=>?_⟩;have sD:=sc.updR (o:=.lst ys) hD;have ll:=DR ps ss sort year i;have:=ht.1;refine⟨l,D,xl,ys,rfl,rfl,sD _ _ Rc,aj,by rw[sizeLine_eq];lia,?_⟩;refine⟨_,_,_,xl++ys,rfl,λb o e=>?_,aj,?_⟩;.rw[aq (aB e hl)];exact sD _ _ (kA _ _ e)
    .refine((VB.same sD).app (kN.same (À.upd (o:=.lst ys) hD))).keep λb z e=>?_;rw[aq λw=>by rw[w,sD _ _ Rc]at e;cases e];exact e
  .rw[Ĝ (λz=>hs (by injection z))];refine bA ?_;rw[Ë hs,Ś];exact⟨_,_,_,xl,rfl,λb o e=>k9 _ _ e,MU,Ra⟩
 .rintro σ Hc⟨x5,x6,x7,xl,rfl,k,el,ht⟩;rw[show xp.length=ps.length from rp.l]at ht;exact⟨_,rfl,q l xl Hc (λb o e=>k b o e) hl el ht⟩
theorem ĸ.same(h:ĸ H d M)(s:À H H'):ĸ H' d M:=by obtain⟨Mo,e,pm⟩:=h;exact⟨Mo,s _ _ e,pm⟩
theorem ĸ.pm{M M':UV}(h:ĸ H d M)(p:M.Perm M'):ĸ H d M':=by obtain⟨Mo,e,pm⟩:=h;exact⟨Mo,e,pm.trans p⟩
theorem È.but(h:È H a xs rs)(k:∀b o,b≠lk->H b=some o->H' b=some o)(el:H lk=some (.dT MV)):È H' a xs rs:=by have tp:∀b z,H b=some (.tup z)->H' b=some (.tup z):=λb z e=>k b _ (λw=>by rw[w,el]at e;cases e) e;exact⟨tp _ _ h.e,h.l,λi r e=>by obtain⟨t,e1,e2⟩:=h.g i r e;exact⟨t,e1,tp _ _ e2⟩⟩
structure Wd(H Hc:Hp)(lk lg ll:Addr)(xg:List V)(G:UV)(L:WF)(M:UV):Prop where
 k:∀b o,b≠lk->H b=some o->Hc b=some o
 eg:Hc lg=some (.lst xg)elg:ï Hc xg G
 el:Hc ll=some (.lst (L.map V.int))lka:ĸ Hc lk M
 nk:lg≠lk
 nl:ll≠lk
 ng:lg≠ll
 fg:H lg=none
 fl:H ll=none
section
theorem Wd.same(d:Wd H Hc lk lg ll xg G L M)(s:À Hc Hd):Wd H Hd lk lg ll xg G L M:=⟨λb o n e=>s _ _ (d.k b o n e),s _ _ d.eg,d.elg.same s,s _ _ d.el,d.lka.same s,d.nk,d.nl,d.ng,d.fg,d.fl⟩
theorem Wd.gone{r:WF}(d:Wd H Hc lk lg ll xg G L M)(et:Hc t=some (.tup (r.map V.int))):Wd H (upd Hc lg (.lst (xg++[.ref t]))) lk lg ll (xg++[.ref t]) (G++[r]) L M:=by
 have tp:∀b z,Hc b=some (.tup z)->upd Hc lg (.lst (xg++[.ref t])) b=some (.tup z):=λb z e=>by rw[aq λw=>by rw[w,d.eg]at e;cases e];exact e
 obtain⟨kvs,e,pm⟩:=d.lka;exact⟨λb o n e=>by rw[aq (aB e d.fg)];exact d.k b o n e,aj,(d.elg.app (ï.one et)).keep tp,by rw[aq d.ng.symm];exact d.el,⟨kvs,by rw[aq d.nk.symm];exact e,pm⟩,d.nk,d.nl,d.ng,d.fg,d.fl⟩
theorem Wd.put{M' A3:UV}(d:Wd H Hc lk lg ll xg G L M)(pm:A3.Perm M'):Wd H (upd Hc lk (.dT (A3.map ý))) lk lg ll xg G L M':=by obtain⟨kvs,e,_⟩:=d.lka;exact⟨λb o n e=>by rw[aq n];exact d.k b o n e,by rw[aq d.nk];exact d.eg,d.elg.keep λb z e'=>by rw[aq λw=>by rw[w,e]at e';cases e'];exact e',by rw[aq d.nl];exact d.el,⟨A3,aj,pm⟩,d.nk,d.nl,d.ng,d.fg,d.fl⟩
theorem Wd.down(d:Wd H Hc lk lg ll xg G L M):Wd H (upd Hc ll (.lst ((L++[x]).map V.int))) lk lg ll xg G (L++[x]) M:=by obtain⟨kvs,e,pm⟩:=d.lka;exact⟨λb o n e=>by rw[aq (aB e d.fl)];exact d.k b o n e,by rw[aq d.ng];exact d.eg,d.elg.keep λb z e'=>by rw[aq λw=>by rw[w,d.el]at e';cases e'];exact e',aj,⟨kvs,by rw[aq d.nl.symm];exact e,pm⟩,d.nk,d.nl,d.ng,d.fg,d.fl⟩
end
theorem Wd.oth(d:Wd H Hc lk lg ll xg G L M)(e:Hc a=some (.dT kv))(n1:a≠lg)(n2:a≠ll)(n3:a≠lk)(n0:H a=none):Wd H (upd Hc a o) lk lg ll xg G L M:=by obtain⟨kvs,e1,pm⟩:=d.lka;exact⟨λb o n e=>by rw[aq (aB e n0)];exact d.k b o n e,by rw[aq n1.symm];exact d.eg,d.elg.keep λb z e'=>by rw[aq λw=>by rw[w,e]at e';cases e'];exact e',by rw[aq n2.symm];exact d.el,⟨kvs,by rw[aq n3.symm];exact e1,pm⟩,d.nk,d.nl,d.ng,d.fg,d.fl⟩
theorem Į.but{f:Int->Int->Int->Int}(g:Į fo H0 H dm f b kvs)(k:∀b o,b≠lk->H b=some o->H' b=some o)(nf:fo≠lk)(n0:H0 lk=none)(el:H lk=some (.dT MV)):Į fo H0 H' dm f b kvs:=by
 have nd:∀n y d,cQ kvs (ky n y)=some (.ref d)->d≠lk:=λn y d h z=>by
  by_cases hd:dm n y;.obtain⟨d',kv,e1,e2,_⟩:=g.g n y hd;rw[h]at e1;cases e1;rw[z,el]at e2;cases e2
  .rw[g.no n y hd]at h;cases h
 exact⟨λb o e=>k _ _ (aB e n0) (g.sm _ _ e),g.nf,k _ _ nf g.e,λn y h=>by obtain⟨d,kv,e1,e2,r⟩:=g.g n y h;exact⟨d,kv,e1,k _ _ (nd n y d e1) e2,r⟩,g.no,g.i,λn y d h=>by obtain⟨e1,e2,o',e3⟩:=g.fr n y d h;exact⟨e1,e2,o',k _ _ (nd n y d h) e3⟩⟩
theorem Kv{α β:Type}{f:α->β}:∀{L:List β}{T:List α},L.Perm (T.map f)->∃S:List α,S.Perm T/\L=S.map f|[],T,h=>⟨T,.refl _,(List.map_eq_nil_iff.mpr (List.map_eq_nil_iff.mp h.nil_eq.symm)).symm⟩|x::L,T,h=>by obtain⟨t,ht,rfl⟩:=ñ.mp (h.mem_iff.mp (.head _));obtain⟨A,B,rfl⟩:=List.append_of_mem ht;have e:((A++t::B).map f).Perm (f t::(A++B).map f):=(List.perm_middle (a:=t) (l₁:=A) (l₂:=B)).map f;obtain⟨S,p,rfl⟩:=Kv (h.trans e).cons_inv;exact⟨t::S,(p.cons t).trans List.perm_middle.symm,rfl⟩
theorem rR{S:UV}{w:Int}(hj:j<S.length):(S.take (j+1)).zip (bI w (S.take (j+1)))=(S.take j).zip (bI w (S.take j))++[(S[j],if w-(bI w (S.take j)).sum<fl S[j] 3 then w-(bI w (S.take j)).sum else fl S[j] 3)]:=by rw[ī,à hj,show(some S[j]).toList=[S[j]]from rfl,ir,List.zip_append (by rw[gZ])];rfl
theorem Hg(a b:Int):(if b<a then b else a)=if a<b then a else b:=by split<;>split<;>lia
inductive Κ(vs:List V)(H:Hp)(Q:VK):Prop|mk:∀ap xp ps fo H0 b kvs lk M,∀y:Nat,∀tc cs ss,(vs=[.ref ap,.ref fo,.ref lk,.int y,.ref tc])->(È H ap xp ps)->(ps.length<=10)->((∀r∈ps,ě r))->(Į fo H0 H (Ź ps) (tZ ps ss) b kvs)->(fo≠lk)->(H0 lk=none)->(ĸ H lk M)->(Lk cs ps ss y M)->(y<100)->(H tc=some (.tup ((cs.getD y []).map V.int)))->((cs.getD y []).length=3)->((∀x∈cs.getD y [],0<=x))->(un ps ss=none)->((∀s∈ss,s.length=5))->(∀t g tl M' H',(∀b o,b≠lk->H b=some o->H' b=some o)->H' t=some (.tup [.ref g,.ref tl])->ĸ H' lk M'->Lk cs ps ss (y+1) M'->Q (.ref t) H')->Κ  vs H Q
def Bx:Sp:=λvs H Q _=>Κ  vs H Q
theorem DW:bootBuiltins "min"=some (.builtin "min"):=by decide+kernel
theorem Qy:(["_law_claim"]:ó).Nodup:=by decide+kernel
theorem Qz:([ABc]:ó).Nodup:=by decide+kernel
theorem QB:([ř,ć,ϭ]:ó).Nodup:=by decide+kernel
theorem Ĥ:Ã [ć,Ň,AAr,ο,ABg,"_law_gone","_law_down","_law_have",ϭ,"_law_some","_law_wanted","_law_shares","_law_fresh",AAm,AAx,Ϝ,"_law_share",ř,"_law_made"] [ć,Ň,AAr,ο,ABg] (aD (top 84)):=ö
theorem Hh(F:ã K "_law_year" "_law_year" (top 84) f fd)(T:Mg mg)(Tr:mg "range"=none)(Tz:mg "zip"=none)(To:mg "sorted"=none)(Tn:mg "min"=none)(Ts:mg "sum"=none)(c1:å P w K mg base 1 "_law_claims" [ć,Ň,ϭ,ο] u9)(c2:å P w K mg base 1 "_law_parted" [Ϝ,ABd] K51P.spLParts):Ñ P w K mg base ä 2 f fd [ć,Ň,AAr,ο,ABg] Bx:=by
 refine F.oq Ĥ λai A outer s H vs Q E hr h=>?_;obtain⟨ap,xp,ps,fo,H0,b,kvs,lk,M,y,tc,cs,ss,rfl,rp,lp,okp,dt,nf,n0,la,GY,y99,se,lc,hc,hu,h5,q⟩:=h;refine K51P.ok_b (aM ⟨Ag (i:=5) (j:=6) (k:=7) rfl Ĥ.nd rfl rfl rfl Û Û Û rfl rfl rfl (au (cX ao) (au (cX ao) (au az ao))) rfl⟩ (aM ⟨cP Ĺ rfl (fK rfl Tr (au az ao)) (bJ (i:=8) Ĥ.nd rfl (Or.inr rfl)) (jZ (aM (fV 7 Ĥ.nd (km cu ⟨pv 7⟩ (qp bQ ⟨pv 4⟩ ⟨pv 8⟩ (λ_ _=>rfl)))) (aM (fV 9 Ĥ.nd ⟨aH c1 hr (au (pv 0) (au (pv 1) (au (pv 8) (au (pv 3) ao))))⟩) (aM ⟨jd (i:=10) ["_law_claim"] [none] rfl Ĥ.nd rfl (Or.inl rfl) (dN (pv 9)) (λC fp Á s₂ Õ=>⟨Ö 0 Qy,bG,pX (K51P.ix_tupK (K:=K) rfl) (pv 0) az⟩) (λC=>trivial) ⟨rfl,rfl,rfl,rfl⟩⟩ (aM (fV 11 Ĥ.nd ⟨pK (aZ bY (aG (dB rfl) rfl Ts ê (au (pv 10) ao)) (pv 7) (bf _)) (pv 10) (aH c2 hr (au (pv 7) (au (pv 10) ao)))⟩) (aM (fV 12 Ĥ.nd ⟨qd⟩) (aM ⟨cP Ĺ rfl (ZT.pi_zip false false rfl Tz (au (pv 9) (au (pv 11) ao))) (cj rfl (aA (cj rfl (aA (Ö 13 Ĥ.nd) (aA (Ö 14 Ĥ.nd) (aA (Ö 15 Ĥ.nd) aY)))) (aA (Ö 16 Ĥ.nd) aY))) (jZ (aM ⟨cB (fQ Ŷ Ϯ ϯ d9 (pv 5) (au (bW (au (pv 3) (au (pv 13) (au (pv 14) (au (pv 16) ao))))) ao))⟩ (cF ⟨oV (fU hr) (pv 12) (bW (au (pv 3) (au (pv 13) (au (pv 14) ao)))) (aV dG (pv 15) (pv 16)) rfl⟩)))⟩ (aM (fV 7 Ĥ.nd (km dG ⟨pv 7⟩ ⟨aG (dB rfl) rfl Ts ê (au (pv 11) ao)⟩)) (aM ⟨cP Ĺ rfl (dN (aG jj rfl To é (au (yS (bD [ř,ć,ϭ] [none,some 0,some 8] rfl (uR (pv 2)) (λC fp Á s₂ Õ=>⟨Ö 0 QB,iB (aZ ig (pX (K51P.ix_tupK (K:=K) rfl) (pX (K51P.ix_tupK (K:=K) rfl) (pv 1) (pX (K51P.ix_tupK (K:=K) rfl) (pv 0) az)) az) (pv 2) (bf _)),pv 0⟩) (λC=>cI (cI trivial)) ⟨rfl,rfl,rfl,rfl⟩)) ao))) (Ö 17 Ĥ.nd) (jZ (aM (fV 18 Ĥ.nd ⟨aG (iW rfl) rfl Tn DW (au (pv 7) (au (gr (fU hr) (pv 2) (pv 17) (λ_ _=>rfl)) ao))⟩) (aM ⟨cB (fQ Ŷ Ϯ ϯ d9 (pv 5) (au (aV zR (pv 17) (bW (au (pv 18) ao))) ao))⟩ (cF ⟨d7 (bW (au (aV dG (gr (fU hr) (pv 2) (pv 17) (λ_ _=>rfl)) (pv 18)) (au (aV dG (pv 7) (pv 18)) ao))) (cj rfl (aA (mY (pv 2) (pv 17) (ϰ (fU hr))) (aA (Ö 7 Ĥ.nd) aY)))⟩))))⟩ (aM ⟨cB (fQ PySem.F.plainAttrs_dict PySem.F.slot_dict_update PySem.F.type_dict_update (LK (fU hr)) (pv 2) (au (pv 12) ao))⟩ (cF ⟨cB (fQ Ŷ Ϯ ϯ d9 (pv 6) (au (pv 7) ao))⟩)))))))))))⟩ (cF (gQ (fG (bh ⟨aG gA rfl To é (au (bD [ABc] [none] rfl (dN (pv 5)) (λC fp Á s₂ Õ=>⟨Ö 0 Qz,iB (aZ jr (pX (K51P.ix_tupK (K:=K) rfl) (pv 0) az) az (bf _)),pv 0⟩) (λC=>trivial) ⟨rfl,rfl,rfl,rfl⟩) ao)⟩ (bh ⟨bN bR rfl T.tuple Ò (au (pv 6) ao)⟩ bC))))))) ?_;obtain⟨Mo0,A9,pm0⟩:=id la;have g0:=GY.start (xD (cs.getD y []) ps ss (oS cs ps ss y) y);have nx:∀{M' G':UV},Stg ps (xD (cs.getD y []) ps ss (oS cs ps ss y) y) (oS cs ps ss y) y 3 M' G'->Lk cs ps ss (y+1) M':=λg=>g.next;have hX:∀s:Nat,xD (cs.getD y []) ps ss (oS cs ps ss y) y s=aU (dO ps ss s y)+oS cs ps ss y s-(cs.getD y []).getD s 0:=λ_=>rfl;generalize xD (cs.getD y []) ps ss (oS cs ps ss y) y=X at g0 nx hX;generalize oS cs ps ss y=os at g0 nx hX;generalize cs.getD y []=c at se lc hc hX;have VC:tc≠lk:=λz=>by rw[z,A9]at se;cases se
 refine aN λc_ ae=>?_;refine⟨zL,λlg vi=>⟨zL,λll gz=>⟨_,_,_,rfl,?_⟩⟩⟩;refine ae _ _ ?_;clear ae c_;try dsimp only
 have W0:Wd H (upd (upd H lg (.lst [])) ll (.lst [])) lk lg ll [] [] [] M:=by have s1:=À.upd (o:=.lst []) vi;have s2:=À.upd (o:=.lst []) gz;exact⟨λb o n e=>s2 _ _ (s1 _ _ e),s2 _ _ aj,ï.nil,aj,la.same (s1.trans s2),(aB A9 vi).symm,(aB A9 (s1.free gz)).symm,(λz=>by rw[<-z,aj]at gz;cases gz),vi,s1.free gz⟩
 refine fZ (λH1=>Wd H H1 lk lg ll [] [] [] M) W0 λH1 W0=>?_;clear vi gz;refine aP ?_;refine⟨3,rfl,by decide,by decide,?_⟩;refine dW (lo:=0) (λi σ Hc=>Xe15 λx8 x9 l8 lP kM fF fI fN mT nh nr xg G L Mi=>Xa4 (σ=[some (.ref ap),some (.ref fo),some (.ref lk),some (.int y),some (.ref tc),some (.ref lg),some (.ref ll),some (.int (dn X i)),x8,x9,l8,lP,kM,fF,fI,fN,mT,nh,nr]) (Wd H Hc lk lg ll xg G L Mi) (L.length=i) (Stg ps X os y i Mi G)) ?_ ?_ ?_;.exact⟨none,none,none,none,none,none,none,none,none,none,none,[],[],[],M,rfl,W0,rfl,g0⟩
 .rintro i σ Hc hi⟨x8,x9,l8,lP,kM,fF,fI,fN,mT,nh,nr,xg,G,L,Mi,rfl,W,lL,g⟩;have hi:i<3:=hi;have Mc:(c.map V.int)[i]?=some (.int (c.getD i 0)):=by have eB:i<c.length:=Â;rw[ċ,Ĭ,à eB];rfl
  have vt:=Ow (n:=i) (y:=y) hu h5 okp lp;have nn:=GC X i;have VD:=hX i;obtain⟨w1,ew⟩:∃w1,w1=c.getD i 0+dn X i:=⟨_,rfl⟩;obtain⟨cl,va⟩:∃cl,cl=dO ps ss i y:=⟨_,rfl⟩;have MW:0<=w1:=by have:=vg hc i;lia
  rw[<-va]at vt VD;have dQ:=λr hr=>(vt.ok r hr).1;have VF:=vt.len;refine aJ ?_;have z0:(0:Int)+(i:Int)=i:=Â;rw[z0];refine Gn λDe GI=>?_;refine aN λc_ ae=>?_;refine aW ?_;refine⟨_,rfl,_,rfl,_,rfl,tc,_,i,.int (c.getD i 0),rfl,rfl,Î.of (W.k _ _ VC se),fj Mc,_,_,rfl,rfl,?_⟩;refine aJ ?_;refine ae _ _ ?_;clear ae c_;try dsimp only
  rw[Int.add_comm,<-ew];refine aN λc_ ae=>?_;refine aW ?_;refine⟨_,rfl,_,rfl,_,rfl,_,rfl,ap,xp,ps,fo,H0,b,kvs,ss,i,y,rfl,rp.but W.k A9,lp,okp,dt.but W.k nf n0 A9,λnv Bi H2 s2 G0 Bn nB=>?_⟩;refine aJ ?_;refine ae _ _ ?_;clear ae c_;try dsimp only
  rw[<-va]at nB;have W2:=W.same s2;have VG:nv≠lg/\nv≠ll/\nv≠lk:=⟨(aB W.eg G0).symm,(aB W.el G0).symm,by obtain⟨Mo,e,_⟩:=W.lka;exact(aB e G0).symm⟩;clear s2 G0;refine aN λc_ ae=>?_;refine⟨_,rfl,nv,rfl,⟨_,Ê.of Bn⟩,dD cl.length (λj ys σ Hj=>À H2 Hj/\(∃o1,σ=[o1])/\ys=(Ċ (cl.take j)).map V.int) ⟨À.refl _,⟨_,rfl⟩,rfl⟩ ŷ ?_ ?_⟩
  .rintro j ys σ Hj hj hy⟨sj,⟨o1,rfl⟩,rfl⟩;obtain⟨t,ex,et⟩:=nB.2 j cl[j].tail (by rw[ċ,à hj];rfl);have e4:=(dQ _ (Ě hj)).l;have MX:cl[j].tail=[fl cl[j] 1,fl cl[j] 2,fl cl[j] 3]:=by
    conv=>lhs;rw[fY e4]
    rfl
   rw[MX]at et;refine⟨⟨_,_,Ê.of (sj _ _ Bn),ex⟩,λv H' y' R hR=>?_⟩;obtain⟨rfl,y'⟩:=y';have hv:=y' _ (Ê.of (sj _ _ Bn));rw[ex]at hv;cases hv;refine aJ ?_;refine⟨_,rfl,t,_,2,.int (fl cl[j] 3),rfl,rfl,Î.of (sj _ _ et),rfl,hR _ _ _ ⟨sj,⟨_,rfl⟩,?_⟩⟩;unfold Ċ;rw[ī,à hj,ô,ô];rfl
  rintro ys σ Hj hy⟨sj,_,rfl⟩;rw[ł];refine⟨⟨_,Ê.of (sj _ _ Bn),by rw[nB.1,Ø];exact ß _⟩,λlw Bz=>?_⟩;have W3:=(W2.same sj).same (À.upd (o:=.lst ((Ċ cl).map V.int)) Bz);have s3:=sj.updR (o:=.lst ((Ċ cl).map V.int)) Bz;have He:=aj (H:=Hj) (a:=lw) (o:=.lst ((Ċ cl).map V.int));have zI:=s3 _ _ Bn;have nE:=nB.same s3;have VH:lw≠lg/\lw≠ll/\lw≠lk:=⟨(aB (sj _ _ W2.eg) Bz).symm,(aB (sj _ _ W2.el) Bz).symm,by obtain⟨Mo,e,_⟩:=W2.lka;exact(aB (sj _ _ e) Bz).symm⟩;generalize upd Hj lw (.lst ((Ċ cl).map V.int))=H3 at W3 He zI nE⊢;clear Bz sj s3 Bn nB W2 W;refine ae _ _ ?_;clear ae c_;try dsimp only
  refine aN λcc Fu=>?_;have rest:∀(sh:WF)ϴ H4,Ő w1 cl sh->Wd H H4 lk lg ll xg G L Mi->H4 nv=some (.lst Bi)->ï H4 Bi (cl.map List.tail)->H4 ϴ=some (.lst (sh.map V.int))->(ϴ≠lg/\ϴ≠ll/\ϴ≠lk)->cc [some (.ref ap),some (.ref fo),some (.ref lk),some (.int y),some (.ref tc),some (.ref lg),some (.ref ll),some (.int w1),some (.int i),some (.ref nv),some (.ref lw),some (.ref ϴ),kM,fF,fI,fN,mT,nh,nr] H4:=by
   intro sh lsa H4 ζ W4 zS vw Ap VI;have A2:=ζ.len;have jS:0<=w1-sh.sum:=by have:=ζ.sum;lia
   refine Fu _ _ ?_;refine aN λc_ ae=>?_;refine aW ?_;refine λlf sA=>?_;refine aJ ?_;refine ae _ _ ?_;clear ae c_;try dsimp only
   have s5:=À.upd (o:=.dT []) sA;have W5:=W4.same s5;have Rg:=aj (H:=H4) (a:=lf) (o:=.dT []);have As:=s5 _ _ zS;have nK:=vw.same s5;have nN:=s5 _ _ Ap;have pT:lf≠lg/\lf≠ll/\lf≠lk/\lf≠nv/\lf≠lsa:=⟨(aB W4.eg sA).symm,(aB W4.el sA).symm,(by obtain⟨Mo,e,_⟩:=W4.lka;exact(aB e sA).symm),(aB zS sA).symm,(aB Ap sA).symm⟩;have VJ:H lf=none:=by cases z:H lf with|none=>rfl;|some o=>rw[W4.k _ _ pT.2.2.1 z]at sA;cases sA
   generalize upd H4 lf (.dT [])=H5 at W5 Rg As nK nN⊢;clear s5 W4 sA zS vw Ap;have gl:=g.glen;have VL:Bi.length=cl.length:=by rw[nK.1,Ø]
   refine aN λc_ ae=>?_;refine⟨_,rfl,_,rfl,nv,lsa,_,_,rfl,Ê.of As,Ê.of nN,?_⟩;refine ZT.for_zip (t1:=false) (t2:=false) (xs:=Bi) (ys:=sh.map V.int) (λj σ Hj=>Xe5 λfF fI fN mT sC=>Xa6 (σ=[some (.ref ap),some (.ref fo),some (.ref lk),some (.int y),some (.ref tc),some (.ref lg),some (.ref ll),some (.int w1),some (.int i),some (.ref nv),some (.ref lw),some (.ref lsa),some (.ref lf),fF,fI,fN,mT,nh,nr]) (Wd H Hj lk lg ll sC (G++((cl.zip sh).take j).map iw) L Mi) (Hj lf=some (.dT ((((cl.zip sh).take j).map dJ).map ý))) (Hj nv=some (.lst Bi)) (ï Hj Bi (cl.map List.tail)) (Hj lsa=some (.lst (sh.map V.int)))) (by rw[VL,Ø,A2]) ?_ ?_ ?_ ?_;.exact⟨fF,fI,fN,mT,xg,rfl,by rw[Zbd,List.map_nil,Ś];exact W5,Rg,As,nK,nN⟩
   .rintro j σ Hj hj⟨fF,fI,fN,mT,sC,rfl,Wj,nS,nV,hZ,gu⟩;exact⟨Ê.of nV,Ê.of gu⟩
   .rintro j x z σ Hj T0 hx hz⟨fF,fI,fN,mT,sC,rfl,Wj,nS,nV,hZ,gu⟩nT;have hj:j<cl.length:=by have:=(ĵ.mp hx).1;lia
    have Rh:j<sh.length:=Â;obtain⟨t,ex,et⟩:=hZ.2 j cl[j].tail (by rw[ċ,à hj];rfl);rw[hx]at ex;cases ex;rw[ċ,à Rh]at hz;cases hz;have e4:=(dQ _ (Ě hj)).l;have MX:cl[j].tail=[fl cl[j] 1,fl cl[j] 2,fl cl[j] 3]:=by
     conv=>lhs;rw[fY e4]
     rfl
    rw[MX]at et;have Ri:fl cl[j] 0=y:=vt.yr _ (Ě hj);have MY:(cl.zip sh)[j]?=some (cl[j],sh[j]):=by rw[List.getElem?_zip_eq_some];exact⟨à hj,à Rh⟩
    have cb:(cl.zip sh).take (j+1)=(cl.zip sh).take j++[(cl[j],sh[j])]:=by rw[ī,MY];rfl
    have sT:=À.upd (o:=.tup [V.ref t,.int sh[j]]) nT;have W6:=Wj.same sT;have EW:=sT _ _ nS;have EZ:=sT _ _ nV;have vx:=hZ.same sT;have vE:=sT _ _ gu;have Rj:=sT _ _ et;have eT:=aj (H:=Hj) (a:=T0) (o:=.tup [V.ref t,.int sh[j]]);generalize upd Hj T0 (.tup [V.ref t,.int sh[j]])=H6 at W6 EW EZ vx vE Rj eT⊢;clear sT Wj nT;refine⟨T0,_,rfl,Î.of eT,rfl,_,_,rfl,t,_,rfl,Î.of Rj,rfl,_,_,rfl,_,_,rfl,_,_,rfl,rfl,_,_,rfl,rfl,?_⟩;refine Gn λDe2 VM=>?_;try dsimp only
    refine aN λc_ ae=>?_;refine⟨_,rfl,.inl ⟨rfl,_,Ê.of W6.eg⟩,_,rfl,_,rfl,_,rfl,_,rfl,zL,λtt vF=>⟨lg,_,_,rfl,rfl,À.upd vF _ _ W6.eg,?_,?_⟩⟩;.rw[W6.elg.1,õ,Ø,Ĵ,Ž,sizeLine_eq];have:i*(240*(y:Int).toNat+400)<=3*(240*(y:Int).toNat+400):=Nat.mul_le_mul_right _ Â;lia
    refine ae _ _ ?_;clear ae c_;try dsimp only
    have sU:=À.upd (o:=.tup [V.int y,.int (fl cl[j] 1),.int (fl cl[j] 2),.int sh[j]]) vF;have W7:=(W6.same sU).gone (t:=tt) (r:=iw (cl[j],sh[j])) (by rw[aj];show _=some (HO.tup [V.int (fl cl[j] 0),_,_,_]);rw[Ri]);have keep:∀{b:Addr}{o:HO},b≠lg->H6 b=some o->upd (upd H6 tt (.tup [V.int y,.int (fl cl[j] 1),.int (fl cl[j] 2),.int sh[j]])) lg (.lst (sC++[.ref tt])) b=some o:=λ{b o}n e=>by rw[aq n];exact sU _ _ e
    have bE:∀b z,H6 b=some (.tup z)->upd (upd H6 tt (.tup [V.int y,.int (fl cl[j] 1),.int (fl cl[j] 2),.int sh[j]])) lg (.lst (sC++[.ref tt])) b=some (.tup z):=λb z e=>keep (λw=>by rw[w,W6.eg]at e;cases e) e;have nX:=keep pT.1 EW;have E1:=keep VG.1 EZ;have vS:=vx.keep bE;have vT:=keep VI.1 vE;generalize upd (upd H6 tt (.tup [V.int y,.int (fl cl[j] 1),.int (fl cl[j] 2),.int sh[j]])) lg (.lst (sC++[.ref tt]))=H7 at W7 nX E1 vS vT⊢;clear keep bE sU W6 vF;refine⟨_,rfl,_,rfl,_,_,rfl,rfl,_,rfl,_,rfl,_,rfl,_,rfl,zL,λtk Co=>⟨lf,_,rfl,ŀ.t (k:=(Ì cl[j]).map Sum.inl) (À.upd Co _ _ nX) (by rw[aj];show some (HO.tup [V.int y,V.int (fl cl[j] 1),V.int (fl cl[j] 2)])=some (HO.tup [V.int (fl cl[j] 0),V.int (fl cl[j] 1),V.int (fl cl[j] 2)]);rw[Ri]) ?_,?_⟩⟩;.rw[Ø,Ø,Ĵ,Ž,sizeLine_eq];lia
    have sK:=À.upd (o:=.tup [V.int y,.int (fl cl[j] 1),.int (fl cl[j] 2)]) Co;have W8:=W7.same sK;have kR:=sK _ _ nX;have MZ:ú ((((cl.zip sh).take j).map dJ).map ý) ((Ì cl[j]).map Sum.inl) (.int (fl cl[j] 3-sh[j]))=((((cl.zip sh).take (j+1)).map dJ).map ý):=by
     rw[Ey,cb,ô,ô];.rfl
     .cases zv:cQ ((((cl.zip sh).take j).map dJ).map ý) ((Ì cl[j]).map Sum.inl)with|none=>rfl;|some v=>
       have h1:(cQ ((((cl.zip sh).take j).map dJ).map ý) ((Ì cl[j]).map Sum.inl)).isSome=true:=by rw[zv];rfl
       rw[<-gG,List.any_eq_true]at h1;obtain⟨p,hp,e⟩:=h1;have e:=ŭ e;obtain⟨r,hr,rfl⟩:=ñ.mp hp;have e:=pB (show(Ì r).map Sum.inl=_ from e);have nd:((cl.zip sh).map dJ).map Ì|>.Nodup:=by rw[gM (f:=dJ) (λ_=>rfl) A2];exact vt.nd
       have gT:(cl.zip sh).map dJ=((cl.zip sh).take j).map dJ++dJ (cl[j],sh[j])::((cl.zip sh).drop (j+1)).map dJ:=by
        have Rk:j<(cl.zip sh).length:=by rw[Ž];lia
        have:(cl.zip sh)[j]=(cl[j],sh[j]):=by rw[à Rk]at MY;exact ŗ MY
        rw[<-this,<-Ī,<-ô,<-Zar Rk,zBe]
       rw[gT,ô,Zbb]at nd;exact absurd e (nd.2.2 _ (ñ.mpr ⟨r,hr,rfl⟩) _ (.head _))
    rw[MZ];refine VM _ _ ⟨_,_,_,_,sC++[.ref tt],rfl,?_,aj,?_,?_,?_⟩
    .have eG:G++((cl.zip sh).take (j+1)).map iw=G++((cl.zip sh).take j).map iw++[iw (cl[j],sh[j])]:=by rw[cb,ô,<-Ń];rfl
     rw[eG];exact W8.oth kR pT.1 pT.2.1 pT.2.2.1 VJ
    .rw[aq pT.2.2.2.1.symm];exact sK _ _ E1
    .exact(vS.same sK).keep λb z e=>by rw[aq λw=>by rw[w,kR]at e;cases e];exact e
    .rw[aq pT.2.2.2.2.symm];exact sK _ _ vT
   rintro σ Hj⟨fF,fI,fN,mT,sC,rfl,Wj,nS,nV,hZ,gu⟩;rw[Ϭ (by rw[Ž];lia)]at Wj nS;refine ae _ _ ?_;clear ae c_;try dsimp only
   refine aN λc_ ae=>?_;refine aW ?_;refine⟨_,rfl,_,rfl,lsa,sh,rfl,.inl (Ê.of gu),_,_,rfl,rfl,?_⟩;refine aJ ?_;refine ae _ _ ?_;clear ae c_;try dsimp only
   clear nV hZ gu;obtain⟨w2,M0⟩:∃w2,w2=w1-sh.sum:=⟨_,rfl⟩;rw[<-M0]at jS⊢;obtain⟨Mo,iP,BA⟩:=id Wj.lka;have VN:Mo.length<=30000:=by have:=g.len;have:=BA.length_eq;lia
   refine aP ?_;refine⟨lk,_,iP,λo=>?_⟩;have ez:=aj (H:=Hj) (a:=lk) (o:=.frz o (.dT (Mo.map ý)));have sz:∀b u,b≠lk->Hj b=some u->upd Hj lk (.frz o (.dT (Mo.map ý))) b=some u:=λb u n e=>by rw[aq n];exact e
   have uz:∀b u,b≠lk->upd Hj lk (.frz o (.dT (Mo.map ý))) b=some u->Hj b=some u:=λb u n e=>by rw[aq n]at e;exact e
   generalize upd Hj lk (.frz o (.dT (Mo.map ý)))=Hz at ez sz uz⊢;have tz:∀{Hd:Hp},À Hz Hd->∀b z,H b=some (.tup z)->Hd b=some (.tup z):=λ{Hd}sd b z e=>by
    have nb:b≠lk:=λw=>by rw[w,A9]at e;cases e
    exact sd _ _ (sz _ _ nb (Wj.k _ _ nb e))
   refine⟨_,rfl,lk,o,_,rfl,ez,gK Mo.length (λj ys σ Hd=>À Hz Hd/\(∃o1,σ=[o1,some (.ref ap),some (.int i)])/\ï Hd ys (((Mo.take j).filter λr=>decide (bz ps r=i)).map Ì)) ⟨À.refl _,⟨_,rfl⟩,ï.nil⟩ ŷ ?_ ?_⟩
   .rintro j ys σ Hd hj hy⟨sd,⟨o1,rfl⟩,BB⟩;have Na:=g.ok Mo[j] (BA.mem_iff.mp (Ě hj));obtain⟨p,hp,ep,op⟩:=gB okp Na.2.1 Na.2.2.1;obtain⟨tp,fm,fw⟩:=iH rp Na.2.1 hp;rw[fB op.1]at fw;have es:bz ps Mo[j]=fl p 1:=by unfold bz;rw[ep]
    have cb:((Mo.take (j+1)).filter λr=>decide (bz ps r=i)).map Ì=((Mo.take j).filter λr=>decide (bz ps r=i)).map Ì++(if fl p 1=i then[Ì Mo[j]]else[]):=by
     rw[ī,à hj,show(some Mo[j]).toList=[Mo[j]]from rfl,Zaz,ô];congr 1;by_cases h:fl p 1=i;.rw[Í h,zBg (by rw[es];exact ð h)];rfl
     .rw[Ë h,zBf (by rw[es,Ć];exact h)];rfl
    refine⟨⟨sd _ _ ez,by rw[Ø];exact hj⟩,λx H' yv R hR=>?_⟩;obtain⟨rfl,bb,kk,vv,rfl,wa,kS⟩:=yv;rw[ċ,à hj]at wa;cases wa;have kS:H' bb=some (.tup [.int (fl Mo[j] 0),.int (fl Mo[j] 1),.int (fl Mo[j] 2)]):=kS;refine aJ ?_;refine⟨_,rfl,_,rfl,bb,_,1,.int (fl Mo[j] 1),rfl,rfl,Î.of kS,rfl,ap,xp,_,.ref tp,rfl,rfl,Î.of (tz sd _ _ rp.e),fm,tp,_,1,.int (fl p 1),rfl,rfl,Î.of (tz sd _ _ fw),rfl,_,rfl,rfl,_,rfl,?_⟩;by_cases h:fl p 1=i;.rw[ð (by rw[h])];refine bx ⟨_,rfl,hR _ _ _ (by rw[õ];show ys.length+1<=j+1;lia) ⟨sd,⟨_,rfl⟩,?_⟩⟩;rw[cb,Í h];exact BB.app (ï.one kS)
    .rw[Ĝ (λz=>h (by injection z))];refine bA (hR _ _ _ Â ⟨sd,⟨_,rfl⟩,?_⟩);rw[cb,Ë h,Ś];exact BB
   rintro ys σ Hd hy⟨sd,_,BB⟩;rw[ł]at BB;refine⟨⟨sd _ _ ez,by rw[Ø];exact ß _⟩,λD hD=>⟨À.upd hD _ _ (sd _ _ ez),?_⟩⟩;have nD:D≠lk:=λz=>by rw[z,sd _ _ ez]at hD;cases hD
   have S6:À Hj (upd (upd Hd D (.lst ys)) lk (.dT (Mo.map ý))):=λb u e=>by
    by_cases hb:b=lk;.subst hb;rw[iP]at e;cases e;exact aj
    .rw[aq hb];exact À.upd hD _ _ (sd _ _ (sz _ _ hb e))
   have eD:upd (upd Hd D (.lst ys)) lk (.dT (Mo.map ý)) D=some (.lst ys):=by rw[aq nD];exact aj
   have sF:upd Hd D (.lst ys) lk=some (.frz o (.dT (Mo.map ý))):=À.upd hD _ _ (sd _ _ ez);have iO:ï (upd (upd Hd D (.lst ys)) lk (.dT (Mo.map ý))) ys ((Mo.filter λr=>decide (bz ps r=i)).map Ì):=(BB.same (À.upd hD)).keep λb z e=>by rw[aq λw=>by rw[w,sF]at e;cases e];exact e
   generalize upd (upd Hd D (.lst ys)) lk (.dT (Mo.map ý))=H6 at S6 eD iO⊢;clear BB sd sz uz tz ez hD sF;obtain⟨ads,ey,FF,wb⟩:=pA iO;subst ey;refine⟨D,ads,jG H6,rfl,Ê.of eD,λa ha=>⟨Î.of (wb a ha),λz=>?_⟩,λq' l' hq pm=>?_⟩
   .have:jG H6 a∈(Mo.filter λr=>decide (bz ps r=i)).map Ì:=by rw[FF];exact List.mem_map_of_mem ha
    obtain⟨r,_,e⟩:=ñ.mp this;rw[z]at e;cases e
   obtain⟨S,pS,Rl⟩:=Kv (show(l'.map (jG H6)).Perm ((Mo.filter λr=>decide (bz ps r=i)).map Ì)by rw[FF];exact pm.map _);have pS:S.Perm (bu ps Mi i):=pS.trans (BA.filter _);have Nd:∀r∈S,0<=fl r 3:=λr hr=>(g.ok r (δ.mp (pS.mem_iff.mp hr)).1).2.2.2.1;obtain⟨md,HC⟩:∃md,md=bI w2 S:=⟨_,rfl⟩;obtain⟨g',ed⟩:=g.step (w:=w1) hi vt pS Â MW ζ (by rw[<-M0];exact Gr jS Nd);rw[<-HC]at g';rw[<-M0,<-HC]at ed;have cx:Mi.Perm (ò ps Mi i++S):=((List.Perm.append_left _ pS).trans (List.perm_append_comm.trans (List.filter_append_perm (λr=>decide (bz ps r=i)) Mi))).symm;have S7:=S6.updR (o:=.lst (l'.map V.ref)) hq;have HE:=aj (H:=H6) (a:=q') (o:=.lst (l'.map V.ref));have sL:ï (upd H6 q' (.lst (l'.map V.ref))) (l'.map V.ref) (S.map Ì):=by rw[<-Rl];exact zf λa ha=>À.upd hq _ _ (wb a (pm.mem_iff.mp ha))
   have nq:Hj q'=none:=S6.free hq;generalize upd H6 q' (.lst (l'.map V.ref))=H7 at S7 HE sL⊢;clear wb FF iO eD S6 hq pm Rl;have W7:=Wj.same S7;have nX:=S7 _ _ nS;have dq:q'≠lg/\q'≠ll/\q'≠lk:=⟨(aB Wj.eg nq).symm,(aB Wj.el nq).symm,(aB iP nq).symm⟩;have lS:S.length<=30000:=by have:=cx.length_eq;have:=g.len;rw[õ]at*;lia
   generalize l'.map V.ref=xq at HE sL⊢;have Rm:xq.length=S.length:=by rw[sL.1,Ø]
   have VO:∀j,(ò ps Mi i++((S.take j).zip (bI w2 (S.take j))).map dJ++S.drop j).map Ì|>.Nodup:=λj=>by rw[ô,ô,gM (f:=dJ) (λ_=>rfl) (gZ _ _),Ń,<-ô,zBe,<-ô];exact(cx.map _).nodup_iff.mp g.kd
   refine⟨q',rfl,⟨_,Ê.of HE⟩,?_⟩;refine iV (xs:=xq) (λj σ Hk=>Xe3 λnh nr om=>Xa5 (σ=[some (.ref ap),some (.ref fo),some (.ref lk),some (.int y),some (.ref tc),some (.ref lg),some (.ref ll),some (.int (w2-(bI w2 (S.take j)).sum)),some (.int i),some (.ref nv),some (.ref lw),some (.ref lsa),some (.ref lf),fF,fI,fN,mT,nh,nr]) (Wd H Hk lk lg ll om (G++(cl.zip sh).map iw++((S.take j).zip (bI w2 (S.take j))).map iw) L (ò ps Mi i++((S.take j).zip (bI w2 (S.take j))).map dJ++S.drop j)) (Hk lf=some (.dT (((cl.zip sh).map dJ).map ý))) (Hk q'=some (.lst xq)) (ï Hk xq (S.map Ì))) ?_ ?_ ?_ ?_
   .refine⟨nh,nr,sC,?_,?_,nX,HE,sL⟩;.rw[Zbd];show[_,_,_,_,_,_,_,some (V.int w2),_,_,_,_,_,_,_,_,_,_,_]=[_,_,_,_,_,_,_,some (V.int (w2-0)),_,_,_,_,_,_,_,_,_,_,_];rw[Int.sub_zero]
    .have e:ò ps Mi i++((S.take 0).zip (bI w2 (S.take 0))).map dJ++S.drop 0=ò ps Mi i++S:=by rw[Zbd,List.drop_zero];show ò ps Mi i++[]++S=_;rw[Ś]
     have e2:G++(cl.zip sh).map iw++((S.take 0).zip (bI w2 (S.take 0))).map iw=G++(cl.zip sh).map iw:=by rw[Zbd];exact Ś _
     rw[e,e2];exact⟨W7.k,W7.eg,W7.elg,W7.el,W7.lka.pm cx,W7.nk,W7.nl,W7.ng,W7.fg,W7.fl⟩
   .rintro j σ Hk hj⟨nh,nr,om,rfl,Wk,sM,HG,sN⟩;exact Ê.of HG
   .rintro j x σ Hk hx⟨nh,nr,om,rfl,Wk,sM,HG,sN⟩;have hj:j<S.length:=by have:=(ĵ.mp hx).1;lia
    obtain⟨t,ex,et⟩:=sN.2 j (Ì S[j]) (by rw[ċ,à hj];rfl);rw[hx]at ex;cases ex;have vn:S.drop j=S[j]::S.drop (j+1):=Zar hj;have kd:=VO j;have E2:S[j]∈ò ps Mi i++((S.take j).zip (bI w2 (S.take j))).map dJ++S.drop j:=Ę.mpr (.inr (by rw[vn];exact .head _));have eZ:=rR (w:=w2) hj;have eM:bI w2 (S.take (j+1))=bI w2 (S.take j)++[if w2-(bI w2 (S.take j)).sum<fl S[j] 3 then w2-(bI w2 (S.take j)).sum else fl S[j] 3]:=by rw[ī,à hj,show(some S[j]).toList=[S[j]]from rfl,ir]
    have em:=Hg (w2-(bI w2 (S.take j)).sum) (fl S[j] 3);generalize hm:(if w2-(bI w2 (S.take j)).sum<fl S[j] 3 then w2-(bI w2 (S.take j)).sum else fl S[j] 3)=m at eZ eM em;refine aJ ?_;refine Gn λDe3 VP=>?_;refine aN λc_ ae=>?_;refine aW ?_;refine⟨_,rfl,_,rfl,_,rfl,lk,.int (fl S[j] 3),rfl,Wk.lka.get kd E2 et,_,_,rfl,?_⟩;rw[em];refine aJ ?_;refine ae _ _ ?_;clear ae c_;try dsimp only
    refine aN λc_ ae=>?_;refine⟨_,rfl,.inl ⟨rfl,_,Ê.of Wk.eg⟩,_,rfl,_,rfl,zL,λt1 pj=>?_⟩;have s1:=À.upd (o:=.tup [V.int m]) pj;refine⟨t,t1,_,_,rfl,rfl,Î.of (s1 _ _ et),Î.of aj,by unfold Ì;simp,(by show 3+1<=sizeLine;decide),λz=>absurd z Ù,λ_ t2 EE=>⟨lg,om,.ref t2,rfl,rfl,À.upd EE _ _ (s1 _ _ Wk.eg),?_,?_⟩⟩;.rw[Wk.elg.1,õ,õ,Ø,Ø,Ž,Ž,Ĵ,sizeLine_eq];have:i*(240*(y:Int).toNat+400)<=3*(240*(y:Int).toNat+400):=Nat.mul_le_mul_right _ Â;lia
    have s2:=À.upd (o:=.tup ((Ì S[j]).map V.int++[V.int m])) EE;have W8:=((Wk.same s1).same s2).gone (t:=t2) (r:=iw (S[j],m)) aj;have keep:∀{b:Addr}{u:HO},b≠lg->Hk b=some u->upd (upd (upd Hk t1 (.tup [V.int m])) t2 (.tup ((Ì S[j]).map V.int++[V.int m]))) lg (.lst (om++[.ref t2])) b=some u:=λ{b u}n e=>by rw[aq n];exact s2 _ _ (s1 _ _ e)
    have bE:∀b z,Hk b=some (.tup z)->upd (upd (upd Hk t1 (.tup [V.int m])) t2 (.tup ((Ì S[j]).map V.int++[V.int m]))) lg (.lst (om++[.ref t2])) b=some (.tup z):=λb z e=>keep (λw=>by rw[w,Wk.eg]at e;cases e) e;have kR:=keep pT.1 sM;have Nl:=keep dq.1 HG;have Au:=sN.keep bE;have HI:=bE _ _ et;refine ae _ _ ?_;clear ae c_;try dsimp only
    refine fZ (λH8=>Wd H H8 lk lg ll (om++[.ref t2]) (G++(cl.zip sh).map iw++((S.take j).zip (bI w2 (S.take j))).map iw++[iw (S[j],m)]) L (ò ps Mi i++((S.take j).zip (bI w2 (S.take j))).map dJ++S.drop j)/\H8 lf=some (.dT (((cl.zip sh).map dJ).map ý))/\H8 q'=some (.lst xq)/\ï H8 xq (S.map Ì)/\H8 t=some (.tup ((Ì S[j]).map V.int))) ⟨W8,kR,Nl,Au,HI⟩ λH8=>?_;rintro⟨W8,kR,Nl,Au,HI⟩;clear keep bE s1 s2 pj EE;obtain⟨Mk,E3,AB⟩:=id W8.lka;rw[vn]at AB kd;obtain⟨Mn,VQ,VR⟩:=DG (x:=fl S[j] 3-m) AB kd;refine⟨_,rfl,_,rfl,lk,.int (fl S[j] 3),rfl,W8.lka.get (by rw[vn];exact kd) E2 HI,_,rfl,_,_,rfl,rfl,_,rfl,_,rfl,_,_,rfl,rfl,zL,λtp VS=>?_⟩;have sP:=À.upd (o:=.tup [V.int (fl S[j] 3-m),V.int (w2-(bI w2 (S.take j)).sum-m)]) VS;have eP:=aj (H:=H8) (a:=tp) (o:=.tup [V.int (fl S[j] 3-m),V.int (w2-(bI w2 (S.take j)).sum-m)]);refine⟨tp,_,rfl,Î.of eP,rfl,_,_,rfl,_,rfl,_,rfl,lk,_,rfl,ŀ.t (k:=(Ì S[j]).map Sum.inl) (sP _ _ E3) (by rw[sP _ _ HI,Ĳ];rfl) ?_,_,_,rfl,rfl,?_⟩;.have:=AB.length_eq;have:=cx.length_eq;have:=g.len;rw[Ø,sizeLine_eq];rw[õ,õ,ĳ,Ø,Ž,Ĵ,Zav,gZ,Ĵ]at*;lia
    rw[VQ];have W9:=(W8.same sP).put VR;have lT:∀b,b≠lk->upd (upd H8 tp (.tup [V.int (fl S[j] 3-m),V.int (w2-(bI w2 (S.take j)).sum-m)])) lk (.dT (Mn.map ý)) b=upd H8 tp (.tup [V.int (fl S[j] 3-m),V.int (w2-(bI w2 (S.take j)).sum-m)]) b:=λb n=>aq n;refine VP _ _ ⟨some (.ref t),some (.int m),om++[.ref t2],?_,?_,?_,?_,?_⟩;.rw[eM,List.sum_append,Ľ,List.sum_nil,Int.add_zero,<-Int.sub_sub];rfl
    .have e1:G++(cl.zip sh).map iw++((S.take (j+1)).zip (bI w2 (S.take (j+1)))).map iw=G++(cl.zip sh).map iw++((S.take j).zip (bI w2 (S.take j))).map iw++[iw (S[j],m)]:=by rw[eZ,ô,<-Ń];rfl
     have e2:ò ps Mi i++((S.take (j+1)).zip (bI w2 (S.take (j+1)))).map dJ++S.drop (j+1)=ò ps Mi i++((S.take j).zip (bI w2 (S.take j))).map dJ++[fl S[j] 0,fl S[j] 1,fl S[j] 2,fl S[j] 3-m]::S.drop (j+1):=by rw[eZ,ô,<-Ń,Ń _ _ (S.drop (j+1))];rfl
     rw[e1,e2];exact W9
    .rw[lT _ pT.2.2.1];exact sP _ _ kR
    .rw[lT _ dq.2.2];exact sP _ _ Nl
    .exact(Au.same sP).keep λb z e=>by rw[lT _ λw=>by rw[w,sP _ _ E3]at e;cases e];exact e
   rintro σ Hk⟨nh,nr,om,rfl,Wk,sM,HG,sN⟩;rw[Rm,ł,List.drop_length,Ś,<-HC]at Wk;rw[Rm,ł,<-HC,ed];dsimp only;obtain⟨Mk,E4,AB⟩:=id Wk.lka;have lMk:=AB.length_eq;have glen:=g'.len;have lF:((cl.zip sh).map dJ).length<=80:=by rw[Ø,Ž];lia
   refine aN λc_ ae=>?_;refine⟨_,rfl,.inr (.inr (.inl ⟨rfl,.inr ⟨_,E4⟩⟩)),_,rfl,lk,lf,Mk.map ý,((cl.zip sh).map dJ).map ý,rfl,rfl,pT.2.2.1.symm,E4,sM,?_,?_,λ_=>?_,?_⟩;.rw[õ]at glen;rw[Ø,Ø,sizeLine_eq];lia
   .rw[<-ô];exact vo (((AB.append_right _).map _).nodup_iff.mpr g'.kd)
   .intro w;refine Mt (y:=y) Â Â (λr hr=>?_) ?_ w;.obtain⟨p,hp,rfl⟩:=ñ.mp hr;have hm:=(Ϫ (show(p.1,p.2)∈_ from hp)).1;have a:=dQ _ hm;have a3:=a.n1;exact⟨(vt.yr p.1 hm:),a.n0,by show fl p.1 1<10;lia,a.h0,a.h1⟩
    .rw[gM (f:=dJ) (λ_=>rfl) A2];exact vt.nd
   rw[<-ô];have WA:=Wk.put (AB.append_right ((cl.zip sh).map dJ));refine ae _ _ ?_;clear ae c_;try dsimp only
   refine fZ (λHA=>Wd H HA lk lg ll om (G++(cl.zip sh).map iw++(S.zip md).map iw) L (ò ps Mi i++(S.zip md).map dJ++(cl.zip sh).map dJ)) WA λHA WA=>?_;refine⟨_,rfl,.inl ⟨rfl,_,Ê.of WA.el⟩,_,rfl,ll,_,_,rfl,rfl,WA.el,?_,?_⟩;.rw[Ø,lL,sizeLine_eq];lia
   have WB:=WA.down (x:=dn X (i+1));rw[ô]at WB;exact GI _ _ ⟨_,_,_,_,_,_,_,_,_,_,_,om,_,L++[dn X (i+1)],_,rfl,WB,by rw[õ,lL];rfl,g'⟩
  refine aW ?_;refine⟨_,rfl,lw,Ċ cl,rfl,.inl (Ê.of He),_,rfl,_,_,rfl,rfl,_,rfl,?_⟩;by_cases hs:(Ċ cl).sum<=w1;.rw[ð hs];refine bx ⟨_,rfl,?_⟩;exact aJ (rest _ lw H3 (Gs (ŋ.nn dQ) hs) W3 zI nE He VH)
  .rw[Ĝ hs];refine bA ?_;have hok:K51P.OkW (Ċ cl):=by
    refine⟨?_,by unfold Ċ;rw[Ø];exact VF,λx hx=>?_⟩;.cases hz:Ċ cl with|nil=>rw[hz]at hs;exact absurd MW (by simpa using hs);|cons a l=>rw[ĳ];lia
    .obtain⟨r,hr,rfl⟩:=ñ.mp hx;exact⟨(dQ r hr).s0,(dQ r hr).s1⟩
   refine⟨_,rfl,_,rfl,w1,lw,Ċ cl,rfl,He,hok,MW,Â,λH4 q4 p4 pk s4 nq eq4=>?_⟩;refine aJ (rest _ q4 H4 (Kr pk Â) (W3.same s4) (s4 _ _ zI) (nE.same s4) eq4 ⟨(aB W3.eg nq).symm,(aB W3.el nq).symm,?_⟩);obtain⟨Mo,e,_⟩:=W3.lka;exact(aB e nq).symm
 .rintro σ Hc⟨x8,x9,l8,lP,kM,fF,fI,fN,mT,nh,nr,xg,G,L,Mi,rfl,W,lL,g⟩;have g:Stg ps X os y 3 Mi G:=g;dsimp only;have g4:=g.g4;have gl:=g.glen;refine⟨_,rfl,lg,rfl,⟨_,Ê.of W.eg⟩,gK G.length (λj ys σ Hd=>À Hc Hd/\(∃o1,σ=[o1])/\∃ads:Č,ys=ads.map V.ref/\∀a∈ads,∃r:WF,Hd a=some (.tup (r.map V.int))/\r.length=4) ⟨À.refl _,⟨_,rfl⟩,[],rfl,λ_ h=>(nomatch h)⟩ ŷ ?_ ?_⟩
  .rintro j ys σ Hd hj hy⟨sd,⟨o1,rfl⟩,ads,rfl,wb⟩;obtain⟨t,ex,et⟩:=W.elg.2 j G[j] (à hj);have e4:=g4 _ (Ě hj);have GV:=et;rw[fY e4]at et;refine⟨⟨_,_,Ê.of (sd _ _ W.eg),ex⟩,λv H' y' R hR=>?_⟩;obtain⟨rfl,y'⟩:=y';have hv:=y' _ (Ê.of (sd _ _ W.eg));rw[ex]at hv;cases hv;refine aJ ?_;refine⟨_,rfl,t,_,3,.int (fl G[j] 3),rfl,rfl,Î.of (sd _ _ et),rfl,_,_,rfl,rfl,_,rfl,?_⟩;by_cases h:0<fl G[j] 3;.rw[ð h];exact bx ⟨_,rfl,hR _ _ _ (by rw[õ];show(ads.map V.ref).length+1<=j+1;lia) ⟨sd,⟨_,rfl⟩,ads++[t],by rw[ô];rfl,λa ha=>(Ę.mp ha).elim (wb a) λz=>⟨_,by rw[ű.mp z];exact sd _ _ GV,e4⟩⟩⟩
   .rw[Ĝ h];exact bA (hR _ _ _ Â ⟨sd,⟨_,rfl⟩,ads,rfl,wb⟩)
  rintro ys σ Hd hy⟨sd,_,ads,rfl,wb⟩;refine⟨⟨_,Ê.of (sd _ _ W.eg),by rw[W.elg.1];exact ß _⟩,λD hD=>?_⟩;have s6:=sd.updR (o:=.lst (ads.map V.ref)) hD;have AD:∀a∈ads,upd Hd D (.lst (ads.map V.ref)) a=some (.tup ((jG Hd a).map V.int))/\jG Hd a≠[]:=λa ha=>by obtain⟨r,e,e4⟩:=wb a ha;rw[Bq e];exact⟨À.upd hD _ _ e,λz=>by rw[z]at e4;cases e4⟩
  have eD:=aj (H:=Hd) (a:=D) (o:=.lst (ads.map V.ref));generalize upd Hd D (.lst (ads.map V.ref))=H6 at s6 AD eD⊢;refine⟨D,ads,jG Hd,rfl,Ê.of eD,λa ha=>⟨Î.of (AD a ha).1,(AD a ha).2⟩,λg1 l' VT GS pm=>?_⟩;have W7:=(W.same s6).same (À.upd (o:=.lst (l'.map V.ref)) VT);refine⟨_,rfl,ll,_,rfl,.inl ⟨Ê.of W7.el,λtl GU=>⟨zL,λt ht=>?_⟩⟩⟩;have W8:=(W7.same (À.upd (o:=.tup (L.map V.int)) GU)).same (À.upd (o:=.tup [.ref g1,.ref tl]) ht);exact q t g1 tl Mi _ W8.k aj W8.lka (nx g)
def YAt(H0:Hp)(l:Addr)(cs ps ss:UV)(H:Hp)(a:Addr)(j:Nat):Prop:=∃g k tl xg xk G K L,H a=some (.tup [.ref g,.ref k,.ref tl])/\H0 g=none/\H0 k=none/\g≠l/\k≠l/\H g=some (.lst xg)/\ï H xg G/\H k=some (.lst xk)/\ï H xk K/\H tl=some (.tup ((L:WF).map V.int))/\(g≠sysModules/\k≠sysModules)/\(∀r∈G,ŋ ps r)/\G.length<=240*(j+1)/\Ω cs ps ss (j+1) K/\L.length=3
theorem YAt.keep(h:YAt H0 l cs ps ss H a j)(k:∀b o,b≠l->H b=some o->H' b=some o)(hl:∃xs,H l=some (.lst xs)):YAt H0 l cs ps ss H' a j:=by
 obtain⟨xs,hl⟩:=hl;obtain⟨g,kk,tl,xg,xk,G,K,L,e1,n1,n2,d1,d2,e2,e3,e4,e5,e6,e7⟩:=h;have nt:∀b z,H b=some (.tup z)->b≠l:=λb z e w=>by rw[w,hl]at e;cases e
 exact⟨g,kk,tl,xg,xk,G,K,L,k _ _ (nt _ _ e1) e1,n1,n2,d1,d2,k _ _ d1 e2,e3.keep λb z e=>k _ _ (nt _ _ e) e,k _ _ d2 e4,e5.keep λb z e=>k _ _ (nt _ _ e) e,k _ _ (nt _ _ e6) e6,e7⟩
inductive Ε(vs:List V)(H:Hp)(Q:VK):Prop|mk:∀bk y ac xc cs ap xp ps ar xs ss,(vs=[.ref bk,.int y])->(H bk=some (.tup [.ref ac,.ref ap,.ref ar]))->(È H ac xc cs)->((∀r∈cs,r.length=3/\∀x∈r,0<=x))->(cs.length<=100)->(0<=y)->(y<cs.length)->(È H ap xp ps)->(ps.length<=10)->((∀r∈ps,ě r))->(È H ar xs ss)->(ss.length<=12)->((∀s∈ss,s.length=5))->(un ps ss=none)->(∀l(ts:Č)H',À H H'->H l=none->H' l=some (.lst (ts.map V.ref))->(ts.length:Int)=y+1->(∀j a,ts[j]?=some a->YAt H l cs ps ss H' a j)->Q (.ref l) H')->Ε  vs H Q
def By:Sp:=λvs H Q _=>Ε  vs H Q
theorem ι:Ã ["book","year","years","owed","at","gifts","left"] ["book","year"] (aD (top 60)):=ö
theorem Hl(F:ã K "years_given" "years_given" (top 60) f fd)(Tr:mg "range"=none)(c1:å P w K mg base 9 "year_given" ["book","year","owed"] GF):Ñ P w K mg base ä 10 f fd ["book","year"] By:=by
 refine F.oq ι λai A outer s H vs Q E hr h=>?_;obtain⟨bk,y,ac,xc,cs,ap,xp,ps,ar,xs,ss,rfl,eb,rc,okc,lc,y0,y1,rp,lp,okp,rs,ls,h5,hu,q⟩:=h;refine⟨_,aC (ĕ 2 ι.nd (cX ao)) (aC (ĕ 3 ι.nd (cX ao)) (aC (cP Ĺ rfl (fK rfl Tr (au (aV cu (pv 1) az) ao)) (Ö 4 ι.nd) (aC (d7 (aH c1 hr (au (pv 0) (au (pv 4) (au (pv 3) ao)))) (cj rfl (aA (Ö 5 ι.nd) (aA (Ö 3 ι.nd) (aA (Ö 6 ι.nd) aY))))) (aF (cB (fQ Ŷ Ϯ ϯ d9 (pv 2) (au (bW (au (pv 5) (au (pv 3) (au (pv 6) ao)))) ao)))))) (aF (aQ (pv 2))))),?_⟩;refine aP (aW ?_);refine⟨zL,λl hl=>?_⟩;refine aJ ?_;dsimp only;refine aP (aW ?_);refine⟨zL,λNn tq=>?_⟩;refine aJ ?_;dsimp only;have s1:=À.upd (o:=.lst []) hl;have s2:=À.upd (o:=.lst []) tq;have VU:Nn≠l:=λz=>by rw[z,aj]at tq;cases tq
 refine fZ (λH1=>À H H1/\H1 l=some (.lst [])/\H1 Nn=some (.lst [])) ⟨s1.trans s2,s2 _ _ aj,aj⟩ λH1=>?_;rintro⟨k1,ń,VW⟩;refine aP ?_;refine⟨_,rfl,_,_,rfl,rfl,y+1,rfl,Â,Â,?_⟩;refine dW (lo:=0) (λi σ Hc=>Xe7 λx4 x5 x6 lo xo ow(ts:Č)=>Xa9 (σ=[some (.ref bk),some (.int y),some (.ref l),some (.ref lo),x4,x5,x6]) (À H Hc) (Hc l=some (.lst (ts.map V.ref))) (ts.length=i) ((∀j a,ts[j]?=some a->YAt H l cs ps ss Hc a j)) (lo≠l) (Hc lo=some (.lst xo)) (ï Hc xo ow) (Ω cs ps ss i ow)) ?_ ?_ ?_;.exact⟨none,none,none,Nn,[],[],[],rfl,k1,ń,rfl,λj a e=>(by simp at e),VU,VW,ï.nil,⟨λ_ h=>(nomatch h),λ_ _=>rfl,ß _⟩⟩
 .rintro i σ Hc hi⟨x4,x5,x6,lo,xo,ow,ts,rfl,k,el,lt,hy,dl,eo,rq,rX⟩;have lno:=rX.len;refine aJ ?_;have z0:(0:Int)+(i:Int)=i:=Â;rw[z0];refine aP ?_;refine⟨_,rfl,_,rfl,_,rfl,bk,i,lo,ac,xc,cs,ap,xp,ps,ar,xs,ss,xo,ow,rfl,k _ _ eb,rc.same k,okc,Â,Â,rp.same k,lp,okp,rs.same k,ls,h5,hu,eo,rq,rX,Â,λt g kk tl xg xk G KK L H2 s2 et ng nk GS eg elg gk gl ek iP xB l3 VX=>?_⟩;rw[ś]at xB gl;refine⟨t,_,rfl,Î.of et,rfl,_,_,rfl,_,_,rfl,_,_,rfl,rfl,?_⟩;dsimp only;have k2:=k.trans s2;have χ:=s2 _ _ el;have dg:g≠l:=(aB el ng).symm;have dk:kk≠l:=(aB el nk).symm;refine⟨_,rfl,.inl ⟨rfl,_,Ê.of χ⟩,_,rfl,_,rfl,_,rfl,zL,λtt vF=>⟨l,_,_,rfl,rfl,À.upd vF _ _ χ,by rw[Ø,lt,sizeLine_eq];lia,?_⟩⟩;have s3:=À.upd (o:=.tup [.ref g,.ref kk,.ref tl]) vF;have nt:tt≠l:=λz=>by rw[z,χ]at vF;cases vF
  have kp:∀{o:HO}b u,b≠l->H2 b=some u->upd (upd H2 tt (.tup [.ref g,.ref kk,.ref tl])) l o b=some u:=λb u n e=>by rw[aq n];exact s3 _ _ e
  have ke:∀{o:HO}b z,H2 b=some (.tup z)->upd (upd H2 tt (.tup [.ref g,.ref kk,.ref tl])) l o b=some (.tup z):=λb z e=>kp b _ (λw=>by rw[w,χ]at e;cases e) e;refine⟨_,_,_,kk,xk,_,ts++[tt],rfl,λb o e=>?_,?_,by rw[õ,lt];rfl,λj a e=>?_,dk,kp _ _ dk ek,iP.keep ke,xB⟩;.exact kp _ _ (aB e hl) (k2 _ _ e)
  .rw[aj,ô];rfl
  .by_cases hj:j<ts.length;.rw[zBd hj]at e;exact(hy j a e).keep (λb o n z=>kp _ _ n (s2 _ _ z)) ⟨_,el⟩
   .have Nw:j=i:=by have:=(ĵ.mp e).1;rw[õ]at this;simp at this;lia
    subst Nw;rw[zBc Â,lt,Nat.sub_self]at e;cases e;exact⟨g,kk,tl,xg,xk,_,_,_,by rw[aq nt];exact aj,k.free ng,k.free nk,dg,dk,kp _ _ dg eg,elg.keep ke,kp _ _ dk ek,iP.keep ke,ke _ _ VX,GS,gk,gl,xB,l3⟩
 .rintro σ Hc⟨x4,x5,x6,lo,xo,ow,ts,rfl,k,el,lt,hy,dl,eo,rq,rX⟩;exact⟨_,rfl,q l ts Hc k hl el (by rw[lt];lia) hy⟩
def okC(r:WF):Prop:=r.length=3/\∀x∈r,0<=x/\x<1000
def P0(st:Addr)(H:Hp)(n:Int)(v:V)(H':Hp):Prop:=∃cs,Ż st H H'/\iy H' st/\Ó (λ_=>False) H' v (cR cs)/\1<=cs.length/\(cs.length:Int)<=n/\∀r∈cs,okC r
inductive ũ(vs:List V)(H:Hp)(Q:VK):Prop|mk:∀st n,(vs=[.ref st,.int n])->(iy H st)->(1<=n)->(n<=20)->(∀v H',P0 st H n v H'->Q v H')->ũ  vs H Q
def xZ:Sp:=λvs H Q _=>ũ  vs H Q
inductive ţ(vs:List V)(H:Hp)(Q:VK):Prop|mk:∀st ap xp ps n,(vs=[.ref st,.ref ap,.int n])->(iy H st)->(È H ap xp ps)->(ps.length<=10)->((∀r∈ps,ě r))->(0<=n)->(n<=12)->(∀a xs ss H',Dr st H H'->È H' a xs ss->(ss.length:Int)<=n->(∀s∈ss,smR s)->un ps ss=none->Q (.ref a) H')->ţ  vs H Q
def yd:Sp:=λvs H Q _=>ţ  vs H Q
inductive Ξ(vs:List V)(H:Hp)(Q:VK):Prop|mk:∀(st:Addr)y m k,(vs=[.ref st,.int y,.int m,.int k])->(iy H st)->(1<=y)->(y<=20)->(1<=m)->(m<=10)->(0<=k)->(k<=12)->(∀a ac xc cs ap xp ps ar xs ss H',Dr st H H'->H' a=some (.tup [.ref ac,.ref ap,.ref ar])->È H' ac xc cs->1<=cs.length->(cs.length:Int)<=y->(∀r∈cs,okC r)->È H' ap xp ps->ps.length<=10->(∀r∈ps,ě r)->È H' ar xs ss->ss.length<=12->(∀s∈ss,smR s)->un ps ss=none->Q (.ref a) H')->Ξ  vs H Q
def BJ:Sp:=λvs H Q _=>Ξ  vs H Q
theorem DX(F:ã K "_law_clips" "_law_clips" (top 73) f fd)(T:Mg mg)(Tr:mg "range"=none)(c1:å P w K mg base 1 AAq [ĉ,AAn] jB):Ñ P w K mg base ä 2 f fd [ĉ,Ŭ] xZ:=by
 refine F.oq Z04 λai A outer s H vs Q E hr h=>?_;obtain⟨st,n,rfl,cE,n1,n2,q⟩:=h;refine⟨_,aC (mZ (i:=2) Z04.nd rfl (Or.inr rfl) (pX bT (cX (jP (by repeat constructor))) (aH c1 hr (au (pv 0) (au az ao))))) (aC (ĕ 3 Z04.nd (cX ao)) (aC (cP Ĺ rfl (fK rfl Tr (au (aV cu az (aH c1 hr (au (pv 0) (au (pv 1) ao)))) ao)) (Ö 4 Z04.nd) (aF (cB (fQ Ŷ Ϯ ϯ d9 (pv 3) (au (bN bR rfl T.tuple Ò (au (bD [ϭ,ĉ,"_law_wide"] [none,some 0,some 2] rfl (fK rfl Tr (au az ao)) (λC fp Á s₂ Õ=>⟨Ö 0 Qn,bG,aH c1 hr (au (pv 1) (au (pX (xF (K:=K) rfl) (cX (au (pv 2) (au az (au (pv 2) (au az ao))))) (aH c1 hr (au (pv 1) (au az ao)))) ao))⟩) (λC=>cI (cI trivial)) ⟨rfl,rfl,rfl,rfl⟩) ao)) ao))))) (aF (aQ (bN bR rfl T.tuple Ò (au (pv 3) ao)))))),?_⟩;obtain⟨a,b,es,h1,h2,h3⟩:=id cE;refine aN λc_ ae=>?_;refine aW ?_;refine⟨zL,λp hp=>?_⟩;have np:p≠st:=λz=>by rw[z,es]at hp;cases hp
 have qS:∀o,upd H p o st=some (.lst [.int a,.int b]):=λo=>by rw[aq np.symm];exact es
 refine⟨_,rfl,st,4,rfl,⟨a,b,qS _,h1,h2,h3⟩,by decide,by decide,λr a1 b1 r0 r1 g1 g2 g3=>?_⟩;obtain⟨wd,hw,w1,w2⟩:∃wd:Int,Ņ (([4,14,45,1000]:WF).map V.int) r=some (.int wd)/\1<=wd/\wd<=1000:=by
  have:r=0\/r=1\/r=2\/r=3:=Â;rcases this with rfl|rfl|rfl|rfl;.exact⟨4,rfl,by decide,by decide⟩
  .exact⟨14,rfl,by decide,by decide⟩
  .exact⟨45,rfl,by decide,by decide⟩
  .exact⟨1000,rfl,by decide,by decide⟩
 refine⟨p,_,r,.int wd,rfl,rfl,Ê.of (by rw[aq np];exact aj),hw,?_⟩;refine aJ ?_;refine ae _ _ ?_;clear ae c_;try dsimp only
 refine aN λc_ ae=>?_;refine aW ?_;refine⟨zL,λp3 gE=>?_⟩;refine aJ ?_;refine ae _ _ ?_;clear ae c_;try dsimp only
 refine aP ?_;have hV:p3≠st:=λz=>by rw[z,aj]at gE;cases gE
 refine⟨_,rfl,_,rfl,st,n,rfl,⟨a1,b1,by rw[aq hV.symm];exact aj,g1,g2,g3⟩,n1,Â,λr2 a2 b2 x0 x1 y1 y2 y3=>⟨_,_,rfl,rfl,1+r2,rfl,Â,Â,?_⟩⟩;have wc:∀b' o',H b'=some o'->b'≠st->b'≠p/\b'≠p3:=λb' o' e' ne=>by have z:b'≠p:=aB e' hp;refine⟨z,λz2=>?_⟩;rw[<-z2,aq ne,aq z,e']at gE;cases gE
 refine dW (lo:=0) (n:=(1+r2).toNat) (λi σ H'=>∃xs,∃ds:UV,∃x4,σ=[some (.ref st),some (.int n),some (.int wd),some (.ref p3),x4]/\Ż st H H'/\iy H' st/\H' p3=some (.lst xs)/\Ä (λ_=>False) H' xs (ds.map cJ)/\(∀r∈ds,okC r)/\ds.length=i/\xs.length=i) ?_ ?_ ?_
 .refine⟨[],[],none,rfl,λb' o' e' ne=>?_,⟨a2,b2,aj,y1,y2,y3⟩,?_,.nil,(λr hr=>by cases hr),rfl,rfl⟩;.obtain⟨k1,k2⟩:=wc b' o' e' ne;rw[aq ne,aq k2,aq ne,aq k1];exact e'
  .rw[aq hV];exact aj
 .rintro i σ H' hi⟨xs,ds,x4,rfl,bt,sa,e3,ts,tm,hs,hl⟩;refine aJ ?_;refine⟨_,rfl,.inl ⟨rfl,_,Ê.of e3⟩,3,rfl,by decide,by decide,?_⟩;refine⟨λj m ys Rn H2=>m=3-j/\j<=3/\∃is x0,ys=is.map V.int/\is.length=j/\(∀v∈is,0<=v/\v<1000)/\Rn=[x0,some (.ref st),some (.int wd)]/\Ż st H' H2/\iy H2 st,⟨3,rfl,by decide,[],none,rfl,rfl,(λ_ h=>nomatch h),rfl,λ_ _ e _=>e,sa⟩,?_⟩;rintro j m ys Rn H2⟨rfl,hj,is,x0,rfl,DV,hv,rfl,HK,Ro⟩;refine⟨by rw[Ø,DV,sizeLine_eq];lia,?_⟩;by_cases ax:j<3
  .refine .inr ⟨ax,λx H3 y=>?_⟩;obtain⟨e5,e6⟩:=y;subst e5;subst e6;refine aJ ?_;obtain⟨a5,b5,e7,k1,k2,k3⟩:=Ro;refine⟨_,rfl,_,rfl,_,rfl,zL,λp4 AE=>?_⟩;have Rp:p4≠st:=λz=>by rw[z,e7]at AE;cases AE
   refine⟨_,rfl,st,4,rfl,⟨a5,b5,by rw[aq Rp.symm];exact e7,k1,k2,k3⟩,by decide,by decide,λr3 a6 b6 z0 z1 l1 l2 l3=>?_⟩;obtain⟨wn,VY,u1,u2⟩:∃wn:Int,Ņ [V.int wd,V.int 1,V.int wd,V.int 3] r3=some (.int wn)/\1<=wn/\wn<=1000:=by
    have:r3=0\/r3=1\/r3=2\/r3=3:=Â;rcases this with rfl|rfl|rfl|rfl;.exact⟨wd,rfl,w1,w2⟩
    .exact⟨1,rfl,by decide,by decide⟩
    .exact⟨wd,rfl,w1,w2⟩
    .exact⟨3,rfl,by decide,by decide⟩
   refine⟨p4,_,r3,.int wn,rfl,rfl,Ê.of (by rw[aq Rp];exact aj),VY,st,wn,rfl,⟨a6,b6,aj,l1,l2,l3⟩,u1,Â,λr4 a7 b7 v0 v1 m1 m2 m3=>?_⟩;refine⟨3-(j+1),Â,rfl,ax,is++[r4],_,by rw[ô];rfl,by rw[õ,DV];rfl,λv VZ=>?_,rfl,λb' o' e' ne=>?_,⟨a7,b7,aj,m1,m2,m3⟩⟩
   .rcases Ę.mp VZ with z|z;.exact hv v z
    .rw[ű.mp z];lia
   .have e8:=HK b' o' e' ne;rw[aq ne,aq ne,aq (aB e8 AE)];exact e8
  .have e5:j=3:=Â;subst e5;have e9:=HK _ _ e3 hV;refine .inl ⟨ß _,λD hD=>⟨D,_,rfl,.inl ⟨Ê.of aj,λl fx=>?_⟩⟩⟩;have sm:À H2 (upd (upd H2 D (.lst (is.map V.int))) l (.tup (is.map V.int))):=(À.upd hD).updR fx;refine⟨p3,xs,.ref l,rfl,rfl,sm _ _ e9,by rw[hl,sizeLine_eq];lia,?_⟩;have D9:l≠p3:=λz=>by rw[z,À.upd hD _ _ e9]at fx;cases fx
   have tk:∀c l',(upd (upd H2 D (.lst (is.map V.int))) l (.tup (is.map V.int))) c=some (.tup l')->(upd (upd (upd H2 D (.lst (is.map V.int))) l (.tup (is.map V.int))) p3 (.lst (xs++[.ref l]))) c=some (.tup l'):=λc l' e'=>by
    have:c≠p3:=λz=>by rw[z,sm _ _ e9]at e';cases e'
    rw[aq this];exact e'
   refine⟨xs++[.ref l],ds++[is],_,rfl,λb' o' e' ne=>?_,?_,aj,?_,?_,?_,by rw[õ,hl];rfl⟩;.have k4:=(wc b' o' e' ne).2;rw[aq k4];exact sm _ _ (HK _ _ (bt b' o' e' ne) ne)
   .obtain⟨a5,b5,e7,k1,k2,k3⟩:=Ro;exact⟨a5,b5,by rw[aq hV.symm];exact sm _ _ e7,k1,k2,k3⟩
   .rw[ô];refine Ä.append ?_ (.cons (.tup (by rw[aq D9];exact aj) (Ä.ints is)) .nil);have V0:Ä (λ_=>False) H2 xs (ds.map cJ):=ts.keep (λc l' e'=>HK c _ e' (λz=>by obtain⟨a5,b5,e7,_⟩:=sa;rw[z,e7]at e';cases e')) (λ_ _ z _=>z.elim) λ_ _ z _=>z.elim;exact(V0.same sm).keep tk (λ_ _ z _=>z.elim) λ_ _ z _=>z.elim
   .intro r hr;rcases Ę.mp hr with z|z;.exact tm r z
    .rw[ű.mp z];exact⟨DV,hv⟩
   .rw[õ,hs];rfl
 .rintro σ H'⟨xs,ds,x4,rfl,bt,sa,e3,ts,tm,hs,hl⟩;refine⟨_,rfl,p3,xs,rfl,.inl ⟨Ê.of e3,λl fe=>q _ _ ⟨ds,λb' o' e' ne=>?_,?_,.tup aj ?_,Â,Â,tm⟩⟩⟩;.rw[aq (aB (bt b' o' e' ne) fe)];exact bt b' o' e' ne
  .obtain⟨a',b',e',j1,j2,j3⟩:=sa;exact⟨a',b',by rw[aq (aB e' fe)];exact e',j1,j2,j3⟩
  .exact(ts.same (À.upd fe)).keep (λ_ _ e=>e) (λ_ _ z _=>z.elim) λ_ _ z _=>z.elim
theorem Hm(h:decide (unV u=.non)=true):u=none:=by have:=ŭ h;cases u with|none=>rfl;|some n=>cases this
theorem DY(F:ã K "_law_sales" "_law_sales" (top 80) f fd)(T:Mg mg)(Tr:mg "range"=none)(c1:å P w K mg base 1 AAq [ĉ,AAn] jB)(c2:å P w K mg base 2 ABp [ĉ,ć] Ku)(c3:å P w K mg base 2 ABf [ć,ŵ] zu):Ñ P w K mg base ä 3 f fd [ĉ,ć,Ŭ] yd:=by
 refine F.oq Β λai A outer s H vs Q E hr h=>?_;obtain⟨st,ap,xp,ps,n,rfl,cE,rp,lp,okp,n0,n1,q⟩:=h;refine⟨_,aC (ĕ 3 Β.nd (Ad bC)) (aC (cP Ĺ rfl (fK rfl Tr (au (aV gP (aH c1 hr (au (pv 0) (au (aV cu (pv 2) az) ao))) (bN Ck rfl T.int Ō (au (gW jr (aG aX rfl T.len PySem.boot_len (au (pv 1) ao)) az (bf _)) ao))) ao)) (Ö 4 Β.nd) (aC (ĕ 5 Β.nd (aV Bv (pv 3) (bW (au (aH c2 hr (au (pv 0) (au (pv 1) ao))) ao)))) (aF (bU (aZ yt (pX bQ (aH c3 hr (au (pv 1) (au (pv 5) ao))) az) j9 (bf _)) (aF (ĕ 3 Β.nd (pv 5))) bj)))) (aF (aQ (pv 3)))),?_⟩;have g0:Dr st H H:=⟨Ż.refl,cE⟩;refine aN λc_ ae=>?_;refine aW ?_;refine⟨zL,λe0 Rq=>?_⟩;have g1:=g0.new (o:=.tup []) Rq;have r1:È (upd H e0 (.tup [])) e0 [] []:=⟨aj,rfl,λi r e=>by simp at e⟩;have kQ:=rp.same (À.upd (o:=.tup []) Rq);generalize upd H e0 (.tup [])=H1 at g1 r1 kQ⊢;refine aJ ?_;refine ae _ _ ?_;clear ae c_;try dsimp only
 refine aP ?_;refine⟨_,rfl,_,rfl,_,_,rfl,rfl,st,n+1,rfl,g1.sa,Â,Â,λr a1 b1 k0 kn k1 k2 k3=>?_⟩;have g2:=g1.take k1 k2 k3;have NA:=(Dr.take ⟨Ż.refl,g1.sa⟩ k1 k2 k3:Dr st H1 _).rows g1.sa kQ;have r2:=(Dr.take ⟨Ż.refl,g1.sa⟩ k1 k2 k3:Dr st H1 _).rows g1.sa r1;generalize upd H1 st (.lst [.int a1,.int b1])=H2 at g2 NA r2⊢;refine⟨_,rfl,ap,xp,rfl,.inr (Î.of NA.e),_,_,rfl,rfl,.inr ⟨_,rfl,_,_,rfl,rfl,.inl ⟨Â,Â⟩,_,rfl,?_,?_,?_⟩⟩;.split<;>lia
 .split<;>lia
 refine dW (lo:=0) (λi σ Hc=>Xe5 λa xs ss x4 x5=>Xa7 (σ=[some (.ref st),some (.ref ap),some (.int n),some (.ref a),x4,x5]) (Dr st H Hc) (È Hc ap xp ps) (È Hc a xs ss) (ss.length<=i) ((∀s∈ss,smR s)) (un ps ss=none)) ?_ ?_ ?_;.exact⟨e0,[],[],none,none,rfl,g2,NA,r2,ß _,(λ_ h=>nomatch h),rfl⟩
 .rintro i σ Hc hi⟨a,xs,ss,x4,x5,rfl,g,NC,HL,ls,cw,sQ⟩;have hi:i<12:=by split at hi<;>lia
  refine aJ ?_;refine aN λc_ ae=>?_;refine aW ?_;refine⟨_,rfl,_,rfl,_,rfl,st,ap,xp,ps,rfl,g.sa,NC,lp,okp,λt s' H3 d3 et sm=>⟨zL,λt1 pj=>?_⟩⟩;have V1:=d3.rows g.sa NC;have ND:=d3.rows g.sa HL;have m4:=À.upd (o:=.tup [V.ref t]) pj;refine⟨a,t1,xs,_,rfl,rfl,m4 _ _ ND.e,aj,by simp,by rw[HL.l,sizeLine_eq];show _+1<=_;lia,λc H5 s5 ec=>?_⟩;have Rr:=tY ((ND.same m4).same s5) (s5 _ _ (m4 _ _ et)) ec;have NF:=(V1.same m4).same s5;have g5:=((g.trans d3).same m4).same s5;have Rt:∀s∈ss++[s'],smR s:=λs hs=>by
   rcases Ę.mp hs with z|z;.exact cw s z
   .rw[ű.mp z];exact sm
  have l5:(ss++[s']).length<=i+1:=by rw[õ];show ss.length+1<=_;lia
  refine aJ ?_;refine ae _ _ ?_;clear ae c_;try dsimp only
  refine⟨_,rfl,_,rfl,ap,xp,ps,c,_,ss++[s'],rfl,NF,lp,okp,Rr,Â,λs hs=>(Rt s hs).1,λtt fo H6 s6 HM=>?_⟩;refine⟨tt,_,1,unV (un ps (ss++[s'])),rfl,rfl,Î.of HM,rfl,rfl,_,rfl,jW (λhb=>?_) λ_=>?_⟩;.exact⟨_,rfl,c,_,ss++[s'],_,_,rfl,g5.same s6,NF.same s6,Rr.same s6,l5,Rt,Hm hb⟩
  .exact⟨a,xs,ss,_,_,rfl,g5.same s6,NF.same s6,((ND.same m4).same s5).same s6,Â,cw,sQ⟩
 .rintro σ Hc⟨a,xs,ss,x4,x5,rfl,g,NC,HL,ls,cw,sQ⟩;refine⟨_,rfl,q a xs ss Hc g HL ?_ cw sQ⟩;split at ls<;>lia
theorem Ea(F:ã K "_law_book" "_law_book" (top 81) f fd)(T:Mg mg)(c1:å P w K mg base 2 "_law_clips" [ĉ,Ŭ] xZ)(c2:å P w K mg base 2 ABo [ĉ,Ŭ,AAp] xY)(c3:å P w K mg base 3 "_law_sales" [ĉ,ć,Ŭ] yd):Ñ P w K mg base ä 4 f fd [ĉ,AAp,Ŭ,ŵ] BJ:=by
 refine F.oq ϲ λai A outer s H vs Q E hr h=>?_;obtain⟨st,y,m,k,rfl,cE,y1,y2,m1,m2,k1,k2,q⟩:=h;refine⟨_,aC (ĕ 4 ϲ.nd (aH c1 hr (au (pv 0) (au (pv 1) ao)))) (aC (ĕ 5 ϲ.nd (aH c2 hr (au (pv 0) (au (pv 2) (au (aG aX rfl T.len PySem.boot_len (au (pv 4) ao)) ao))))) (aF (aQ (bW (au (pv 4) (au (pv 5) (au (aH c3 hr (au (pv 0) (au (pv 5) (au (pv 3) ao)))) ao))))))),?_⟩;refine aN λc_ ae=>?_;refine aW ?_;refine⟨_,rfl,_,rfl,st,y,rfl,cE,y1,y2,λvc H1 mc=>?_⟩;obtain⟨cs,V2,NH,V3,ij,NI,okc⟩:=mc;have d1:Dr st H H1:=⟨V2,NH⟩;obtain⟨ac,xc,rfl,rc⟩:=jl V3;refine aJ ?_;refine ae _ _ ?_;clear ae c_;try dsimp only
 refine aN λc_ ae=>?_;refine aW ?_;have lc:=rc.l;refine⟨_,rfl,_,rfl,_,rfl,ac,xc,rfl,.inr (Î.of rc.e),st,m,_,rfl,NH,m1,m2,Â,Â,λvp H2 mp=>?_⟩;obtain⟨ps,V4,HP,F5,lps,okp⟩:=mp;have d2:Dr st H1 H2:=⟨V4,HP⟩;obtain⟨ap,xp,rfl,rp⟩:=jl F5;have V5:=d2.rows NH rc;refine aJ ?_;refine ae _ _ ?_;clear ae c_;try dsimp only
 refine⟨_,rfl,_,rfl,_,rfl,_,rfl,_,rfl,st,ap,xp,ps,k,rfl,HP,rp,Â,okp,k1,k2,λar xs ss H3 d3 rs ls cw sQ=>⟨zL,λa ha=>?_⟩⟩;have NJ:=(d1.trans d2).trans d3;have ma:=À.upd (o:=.tup [V.ref ac,V.ref ap,V.ref ar]) ha;exact q a ac xc cs ap xp ps ar xs ss _ (NJ.new ha) aj ((d3.rows HP V5).same ma) ij NI okc ((d3.rows HP rp).same ma) Â okp (rs.same ma) Â cw sQ
inductive ϒ(vs:List V)(H:Hp)(Q:VK):Prop|mk:∀S v d,(vs=[v])->(Ó S H v d)->(sz d<=4000)->(j6 d=true)->(∀H',À H H'->Q .non H')->ϒ  vs H Q
def Hn:Sp:=λvs H Q _=>ϒ  vs H Q
theorem Pa:Ã ["thing","least","most"] ["thing","least","most"] (aD (top 21)):=ö
theorem rT(F:ã K "is_whole_from" "is_whole_from" (top 21) f fd)(c1:å P w K mg base 1 "is_whole" ["thing"] (Ĕ bB)):Ñ P w K mg base ä 2 f fd ["thing","least","most"] (jX gh):=by refine F.oq Pa λai A outer s H vs Q E hr h=>?_;obtain⟨S,v,d,n,m,rfl,th,hz,q⟩:=h;refine⟨_,aF (aQ (cO (aH c1 hr (aK (pv 0) ao)) (fD (dH bY bY (pv 1) (pv 0) (pv 2))))),?_⟩;refine⟨_,rfl,S,v,d,rfl,th,hz,λH1 s1=>⟨_,rfl,?_⟩⟩;have fin:=q H1 s1;unfold gh at fin;cases e:bB d with|false=>rw[e]at fin;exact bA fin;|true=>rw[e]at fin;obtain⟨i,rfl,rfl⟩:=j0 th e;exact bx (cC (dZ rfl) (dZ rfl) (dZ rfl) _ fin)
theorem Kw:Ã ["thing"] ["thing"] (aD (top 44)):=ö
theorem JP(F:ã K "refuse_no_book" "refuse_no_book" (top 44) f fd)(c1:å P w K mg base 6 "is_book" ["thing"] (Ĕ j6)):Ñ P w K mg base ä 7 f fd ["thing"] Hn:=by refine F.oq Kw λai A outer s H vs Q E hr h=>?_;obtain⟨S,v,d,rfl,th,hz,hb,q⟩:=h;refine⟨_,aF (bU (bH (cA (aH c1 hr (aK (pv 0) ao)))) (aF lM) bj),?_⟩;refine⟨_,rfl,S,v,d,rfl,th,hz,λH1 s1=>⟨_,rfl,?_⟩⟩;rw[hb];exact bA (q _ s1)
structure Ĉ(H:Hp)(bk ac:Addr)(xc:List V)(cs:UV)(ap:Addr)(xp:List V)(ps:UV)(ar:Addr)(xs:List V)(ss:UV):Prop where
 e:H bk=some (.tup [.ref ac,.ref ap,.ref ar])rc:È H ac xc cs
 okc:∀r∈cs,r.length=3/\∀x∈r,0<=x
 lc:cs.length<=20
 rp:È H ap xp ps
 lp:ps.length<=10
 okp:∀r∈ps,ě r
 rs:È H ar xs ss
 ls:ss.length<=12
 h5:∀s∈ss,s.length=5
 un:un ps ss=none
theorem Ĉ.same(b:Ĉ H bk ac xc cs ap xp ps ar xs ss)(s:À H H'):Ĉ H' bk ac xc cs ap xp ps ar xs ss:=⟨s _ _ b.e,b.rc.same s,b.okc,b.lc,b.rp.same s,b.lp,b.okp,b.rs.same s,b.ls,b.h5,b.un⟩
theorem uc:∀(is:WF),ù (is.map PyData.int)=is.length|[]=>rfl|i::is=>by show 1+ù (is.map PyData.int)=is.length+1;rw[uc is];lia
theorem jH:∀{rs:UV},(∀r∈rs,r.length=k)->ù (rs.map cJ)=(k+1)*rs.length|[],_=>rfl|r::rs,h=>by show(1+ù (r.map PyData.int))+ù (rs.map cJ)=(k+1)*(rs.length+1);rw[uc,h r (.head _),jH λq hq=>h q (.tail _ hq),Nat.mul_add];lia
theorem Mv(h:ě r):∀i∈r,-10<=i/\i<=2000000:=by obtain⟨h0,h1,h2,h3,h4,h5⟩:=h;rw[fB h0];intro i hi;simp only[List.mem_cons,List.not_mem_nil,or_false]at hi;rcases hi with rfl|rfl|rfl|rfl|rfl|rfl<;>lia
theorem ud(rs:UV):Ü (cR rs)=rs:=by show(rs.map cJ).map (λx=>(items x).map í)=rs;rw[Ĳ];refine(Zbg λr _=>?_).trans (List.map_id rs);show((r.map PyData.int)).map í=r;rw[Ĳ];exact List.map_id r
theorem o7{n:Nat}(h:r.length=n):bK (cJ r) n=true:=by
 show(bM (.tuple (r.map PyData.int)) n n&&(r.map PyData.int).all bB)=true;rw[ġ];refine⟨?_,ō.mpr λx hx=>?_⟩;.show(true&&(decide ((n:Int)<=(r.map PyData.int).length)&&decide (((r.map PyData.int).length:Int)<=n)))=true;rw[Ø,h,ð (ϵ _)];rfl
 .obtain⟨i,_,rfl⟩:=ñ.mp hx;rfl
theorem zH(h1:a<=ds.length)(h2:(ds.length:Int)<=b):bM (.tuple ds) a b=true:=by show(true&&(decide (a<=(ds.length:Int))&&decide ((ds.length:Int)<=b)))=true;rw[ð h1,ð h2];rfl
theorem BK{cs ps ss:UV}(ij:1<=cs.length)(lc:cs.length<=20)(okc:∀r∈cs,okC r)(lp:ps.length<=10)(okp:∀r∈ps,ě r)(ls:ss.length<=12)(h5:∀s∈ss,s.length=5)(hu:un ps ss=none):j6 (.tuple [cR cs,cR ps,cR ss])=true:=by
 have b0:iR (cR cs)=true:=by show(bM (.tuple (cs.map cJ)) 1 20&&(cs.map cJ).all kI)=true;rw[zH (by rw[Ø];lia) (by rw[Ø];lia),Zba];refine ō.mpr λx hx=>?_;obtain⟨r,hr,rfl⟩:=ñ.mp hx;obtain⟨h3,hb⟩:=okc r hr;show(bK (cJ r) 3&&(r.map PyData.int).all λx=>decide (0<=í x)&&decide (í x<=999))=true;rw[show bK (cJ r) 3=true from o7 h3,Zba];refine ō.mpr λx hx=>?_;obtain⟨i,hi,rfl⟩:=ñ.mp hx;have:=hb i hi;show(decide (0<=i)&&decide (i<=999))=true;rw[ð Â,ð Â];rfl
 have b1:fW (cR ps)=true:=by
  show(bM (.tuple (ps.map cJ)) 0 10&&(ps.map cJ).all iZ)=true;rw[zH Â (by rw[Ø];lia),Zba];refine ō.mpr λx hx=>?_;obtain⟨r,hr,rfl⟩:=ñ.mp hx;obtain⟨h6,h1,h2,h3,h4,V6⟩:=okp r hr;show(bK (cJ r) 6&&lE (at_ (cJ r) 0) (at_ (cJ r) 1) (at_ (cJ r) 2) (at_ (cJ r) 3) (at_ (cJ r) 4) (at_ (cJ r) 5))=true;rw[show bK (cJ r) 6=true from o7 h6,Zba];have ea:∀i,i<6->at_ (cJ r) i=fl r i:=λi hi=>by unfold at_ fl;show í ((r.map PyData.int).getD i .none)=r.getD i 0;rw[Ĭ,Ĭ,ċ,à Â];rfl
  rw[ea 0 Û,ea 1 Û,ea 2 Û,ea 3 Û,ea 4 Û,ea 5 Û];unfold lE;simp only[Bool.and_eq_true,Ć];exact⟨h1,h2,⟨h3.1,h3.2.1,h3.2.2⟩,h4,V6⟩
 have b2:fX (cR ss)=true:=by show(bM (.tuple (ss.map cJ)) 0 12&&(ss.map cJ).all λx=>bK x 5)=true;rw[zH Â (by rw[Ø];lia),Zba];refine ō.mpr λx hx=>?_;obtain⟨r,hr,rfl⟩:=ñ.mp hx;exact o7 (h5 r hr)
 show(bM (.tuple [cR cs,cR ps,cR ss]) 3 3&&(iR (cR cs)&&(fW (cR ps)&&(fX (cR ss)&&(un (Ü (cR ps)) (Ü (cR ss))).isNone))))=true;rw[b0,b1,b2,ud,ud,hu];rfl
end K51
open K51P (ok_b)
namespace K51
open PySem L2
def Ho(P:Program)(w:World)(K:Frag)(mg:TX)(base:Heap)(k:Nat)(x:Str)(ps:ó)(sp:Sp):Prop:=∃f fd,Ñ P w K mg base (Ŵ P w) k f fd ps sp/\mg x=some (.ref f)/\PySem.W.keepIn K (.ref f)=true/\ø K fd ps []
theorem pC{p pos:Pos}(c:Ho X.prog X.w X.K X.mg X.base j x ps sp)(hr:ì k X.A)(hjk:j<=k)(hg:Gl X x)(W:wO X λa C H=>E (.ref a) (some C) H)(hx:X.ex=[])(ha:PA X (e::es) t)(fk:ź x:=by decide)(he:Qa8 X e es:=by rfl)(ff:Qa9 X pos es:=by rfl):PE X (.Call (.Name x p) (e::es) [] pos) (vO sp [] E t):=by obtain⟨f,fd,F,m,k',b⟩:=c;exact zQ F (hr.mono hjk) hg m k' b .nil (Kh W hx) ha fk he ff
abbrev VE:ā:=[.type "ValueError",.type "Exception",.type "BaseException",.type "object"]
def words:ó:=["clips","promises","sales","book","number","year","weights","paper","growth","promise","sort","clip","sale","deed","text","line"]
theorem cW(h:te σ H λx H1=>tr σ H1 λxs H2=>Q (x::xs) H2):fP te tr σ H Q:=h
theorem Hq:PE X e (λ_ _ _=>False):=λ_ _ _ _ _ _ h=>h.elim
structure BT(X:Cx)(e:Expr)(t:TT):Prop where run:PT X e t
section
theorem Hr{j}(hl:BE X (.Name y q') tl)(hline:(p.endLine==pos.line)=true:=by rfl):BE X (.Call (.Attribute (.Name y q') "count" p) [.Constant (.bool k) j q] [] pos) (tBM X.K "list" Aq tl (fP (tC (.bl k)) pN)):=⟨fQ Ŷ PySem.F.slot_list_count PySem.F.type_list_count Dm hl.run (au gD ao) (hline:=hline)⟩
theorem Hs{j}(hl:BE X (.Name y q') tl)(hline:(p.endLine==pos.line)=true:=by rfl):BE X (.Call (.Attribute (.Name y q') "index" p) [.Constant (.bool k) j q] [] pos) (tBM X.K "list" Ar tl (fP (tC (.bl k)) pN)):=⟨fQ Ŷ PySem.F.slot_list_index PySem.F.type_list_index Dn hl.run (au gD ao) (hline:=hline)⟩
theorem Mw(hc:BT X c t)(ha:BE X a ta)(hb:BE X b tb):BE X (.IfExp c a b pos) (tIf t ta tb):=⟨pK hc.run ha.run hb.run⟩
theorem Mx(h:BE X (.Subscript a b p) ta):BT X (.Subscript a b p) (tB ta):=⟨cA h.run⟩
theorem BL{es ks}(h:BE X (.Call a es ks p) ta):BT X (.Call a es ks p) (tB ta):=⟨cA h.run⟩
theorem Ht(h:BT X a t):BT X (.UnaryOp .Not a pos) (MP t):=⟨bH h.run⟩
theorem My(ha:BT X a t)(hb:BT X b u):BT X (.BoolOp .Or [a,b] pos) (tOr t u):=⟨PW.pt (gU ha.run (gO hb.run))⟩
theorem Pb{j}(ha:BE X a ta):BT X (.Compare a [.NotEq] [.Constant (.int i) j q] pos) (En (Ÿ rNe ta (tC (.int i)))):=⟨aZ rZ ha.run az (bf _)⟩
theorem ye(hc:BT X c t)(hx:BSs X x v)(hy:BSs X y z):BS X (.If c x y pos) (N6 t v z):=⟨bU hc.run hx.run hy.run⟩
theorem mU:BSs X [] Eg:=⟨bj⟩
end
structure Z0r(mg:TX)(Cs:Nat->Addr):Prop where n0:mg "NoClips"=some (.ref (Cs 0))n1:mg "NoPromises"=some (.ref (Cs 1))n2:mg "NoSales"=some (.ref (Cs 2))n3:mg "NoBook"=some (.ref (Cs 3))n4:mg "NoNumber"=some (.ref (Cs 4))n5:mg "NoYear"=some (.ref (Cs 5))n6:mg "NoWeights"=some (.ref (Cs 6))n7:mg "NoPaper"=some (.ref (Cs 7))n8:mg "NoGrowth"=some (.ref (Cs 8))n9:mg "NoPromise"=some (.ref (Cs 9))n10:mg "NoSort"=some (.ref (Cs 10))n11:mg "NoClip"=some (.ref (Cs 11))n12:mg "NoSale"=some (.ref (Cs 12))n13:mg "NoDeed"=some (.ref (Cs 13))n14:mg "NoText"=some (.ref (Cs 14))n15:mg "NoLine"=some (.ref (Cs 15))n16:mg "TooMany"=some (.ref (Cs 16))wool:mg "WoolError"=some (.ref (Cs 17))
structure ϥ(K:Frag)(Cs:Nat->Addr)(j:Nat):Prop where
 lt:j<16
 ex:Z03 K (Cs j)ca:ų K (Cs j) (Cs 17)on:∀i,i<17->PySem.W.kitOne K (.ref (Cs j)) (.ref (Cs i))=some (decide (i=j))ve:PySem.W.kitOne K (.ref (Cs j)) (.type "ValueError")=some true
inductive ϔ(K:Frag)(Cs:Nat->Addr)(vs:List V)(H:Hp)(Q:VK):Prop|mk:∀a j,(vs=[.ref a])->(H a=some (.ext (þ a (Cs j))))->(ϥ K Cs j)->(∀p H',À H H'->H' p=some (.tup [.str (words.getD j "")])->Q (.ref p) H')->ϔ K Cs vs H Q
def Hu(K:Frag)(Cs:Nat->Addr):Sp:=λvs H Q _=>ϔ K Cs vs H Q
def Ļ(j:Nat):List Bool:=(List.range 17).map λi=>decide (i=j)
theorem yf:∀j,j<17->(Ļ j).count true=1:=by decide+kernel
theorem Hv(h:j<17):(Ļ j)[j]?=some true:=by unfold Ļ;rw[ċ,Zbh h];simp
theorem Hw(h:i<j):(Ļ j)[i]?≠some true:=by
 unfold Ļ;rw[ċ];by_cases hi:i<17;.rw[Zbh hi];simp;lia
 .rw[Zaj (by simp;lia)];simp
theorem JQ:bootBuiltins "ValueError"=some (.type "ValueError"):=by decide+kernel
theorem Hy{j:Nat}(h:j<16):Ņ (words.map V.str) (j:Int)=some (.str (words.getD j "")):=by
 have hl:words.length=16:=rfl;have:words[j]?=some (words.getD j ""):=by rw[Ĭ,à Â];rfl
 refine fj ?_;rw[ċ,this];rfl
theorem dR{p q r pos:Pos}(hN:X.N[i]?=some y)(hv:Vis X.env.scope y)(hI:Gl X "isinstance")(mI:X.mg "isinstance"=none)(hg:Gl X x)(hm:X.mg x=some (.ref D))(hd:(y==("__debug__":Str))=false:=by decide)(eI:(y==("__classdict__":Str))=false:=by decide)(hd2:ź x:=by decide):BE X (.Call (.Name "isinstance" p) [.Name y q,.Name x r] [] pos) (tCB (λxs H Q=>∃a C c b,xs=[.ref a,c]/\H a=some (.ext (þ a C))/\Z03 X.K C/\((∃D,c=.ref D/\PySem.W.kitOne X.K (.ref C) (.ref D)=some b)\/∃n,c=.ty n/\PySem.W.kitOne X.K (.ref C) (.type n)=some b)/\Q (.bl b) H) (fP (vK i) (fP (tC (.ref D)) pN))):=⟨aG mD hI mI É (au (ym hN hv hd eI) (au (cg (v:=.ref D) hg hm rfl hd2) ao))⟩
theorem dU(Z:ϥ K Cs j)(hi:i<17)(e:H a=some (.ext (þ a (Cs j))))(fA:σ[0]?=some (some (.ref a)))(h:Q (.bl (decide (i=j))) H):tCB (λxs H Q=>∃a C c b,xs=[.ref a,c]/\H a=some (.ext (þ a C))/\Z03 K C/\((∃D,c=.ref D/\PySem.W.kitOne K (.ref C) (.ref D)=some b)\/∃n,c=.ty n/\PySem.W.kitOne K (.ref C) (.type n)=some b)/\Q (.bl b) H) (fP (vK 0) (fP (tC (.ref (Cs i))) pN)) σ H Q:=⟨_,fA,a,Cs j,.ref (Cs i),_,rfl,e,Z.ex,.inl ⟨_,rfl,Z.on i hi⟩,h⟩
theorem Α:Ã ["_law_e","_law_names","_law_kinds"] ["_law_e"] (aD (top 85)):=ö
theorem JR(F:ã K "_law_kind" "_law_kind" (top 85) f fd)(T:Mg mg)(Tv:mg "ValueError"=none)(L:Z0r mg Cs):ū P w K mg base ä 1 f fd ["_law_e"] (Hu K Cs):=by
 refine F.oqU Α λai A outer s H vs Q E hr h=>?_;obtain⟨a,j,rfl,ea,Z,q⟩:=h;refine ok_b (aM (fV 1 Α.nd (eF (bh cU (bh cU (bh cU (bh cU (bh cU (bh cU (bh cU (bh cU (bh cU (bh cU (bh cU bC))))))))))))) (aM (fV 1 Α.nd (km jc ⟨pv 1⟩ (eF (bh cU (bh cU (bh cU (bh cU (bh cU bC)))))))) (aM (fV 2 Α.nd (eF (bh (dR (i:=0) rfl (Or.inl rfl) rfl T.isinstance rfl L.n0) (bh (dR (i:=0) rfl (Or.inl rfl) rfl T.isinstance rfl L.n1) (bh (dR (i:=0) rfl (Or.inl rfl) rfl T.isinstance rfl L.n2) (bh (dR (i:=0) rfl (Or.inl rfl) rfl T.isinstance rfl L.n3) bC)))))) (aM (fV 2 Α.nd (km jc ⟨pv 2⟩ (eF (bh (dR (i:=0) rfl (Or.inl rfl) rfl T.isinstance rfl L.n4) (bh (dR (i:=0) rfl (Or.inl rfl) rfl T.isinstance rfl L.n5) (bh (dR (i:=0) rfl (Or.inl rfl) rfl T.isinstance rfl L.n6) bC)))))) (aM (fV 2 Α.nd (km jc ⟨pv 2⟩ (eF (bh (dR (i:=0) rfl (Or.inl rfl) rfl T.isinstance rfl L.n7) (bh (dR (i:=0) rfl (Or.inl rfl) rfl T.isinstance rfl L.n8) (bh (dR (i:=0) rfl (Or.inl rfl) rfl T.isinstance rfl L.n9) bC)))))) (aM (fV 2 Α.nd (km jc ⟨pv 2⟩ (eF (bh (dR (i:=0) rfl (Or.inl rfl) rfl T.isinstance rfl L.n10) (bh (dR (i:=0) rfl (Or.inl rfl) rfl T.isinstance rfl L.n11) (bh (dR (i:=0) rfl (Or.inl rfl) rfl T.isinstance rfl L.n12) (bh (dR (i:=0) rfl (Or.inl rfl) rfl T.isinstance rfl L.n13) bC))))))) (aM (fV 2 Α.nd (km jc ⟨pv 2⟩ (eF (bh (dR (i:=0) rfl (Or.inl rfl) rfl T.isinstance rfl L.n14) (bh (dR (i:=0) rfl (Or.inl rfl) rfl T.isinstance rfl L.n15) (bh (dR (i:=0) rfl (Or.inl rfl) rfl T.isinstance rfl L.n16) bC)))))) (aM (ye (My (Pb (Hr ⟨pv 2⟩)) (Ht (BL ⟨aG mD rfl T.isinstance É (au (pv 0) (au (dM rfl Tv JQ (v:=.ty "ValueError") rfl) ao))⟩))) (cF (gQ (fG (bh cU bC)))) mU) (cF (gQ (Mw (Mx (qp bT ⟨pv 2⟩ gm (λ_ _=>rfl))) ⟨Hq⟩ (fG (bh (qp bT ⟨pv 1⟩ (Hs ⟨pv 2⟩) (λ_ _=>rfl)) bC))))))))))))) ?_;refine aN λc_ ae=>?_;refine⟨by decide,λp1 pe=>?_⟩;refine aJ ?_;refine ae _ _ ?_;clear ae c_;try dsimp only
 refine fZ (λH1=>À H H1/\H1 p1=some (.lst [.str "clips",.str "promises",.str "sales",.str "book",.str "number",.str "year",.str "weights",.str "paper",.str "growth",.str "promise",.str "sort"])) ⟨À.upd pe,aj⟩ λH1=>?_;rintro⟨s1,e1⟩;refine aN λc_ ae=>?_;refine⟨_,rfl,by decide,λp2 hJ=>⟨p1,p2,_,_,rfl,rfl,À.upd hJ _ _ e1,aj,by decide,λl2 eR=>?_⟩⟩;refine aJ ?_;refine ae _ _ ?_;clear ae c_;try dsimp only
 refine fZ (λH2=>À H H2/\H2 l2=some (.lst (words.map V.str))) ⟨(s1.updR hJ).updR eR,aj⟩ λH2=>?_;rintro⟨s2,e2⟩;have rh:=s2 _ _ ea;refine aN λc_ ae=>?_;refine aW (lC ?_);refine cW ?_;refine dU (i:=0) Z Û rh rfl ?_;refine cW ?_;refine dU (i:=1) Z Û rh rfl ?_;refine cW ?_;refine dU (i:=2) Z Û rh rfl ?_;refine cW ?_;refine dU (i:=3) Z Û rh rfl ?_;refine⟨zL,λp3 gE=>?_⟩;refine aJ ?_;refine ae _ _ ?_;clear ae c_;try dsimp only
 refine fZ (λH3=>À H H3/\H3 l2=some (.lst (words.map V.str))/\H3 p3=some (.lst ([decide (0=j),decide (1=j),decide (2=j),decide (3=j)].map V.bl))) ⟨s2.updR gE,À.upd gE _ _ e2,aj⟩ λH3=>?_;rintro⟨s3,e3,f3⟩;have NL:=s3 _ _ ea;refine aN λc_ ae=>?_;refine aW ?_;refine⟨_,rfl,?_⟩;refine lC (cW ?_);refine dU (i:=4) Z Û NL rfl ?_;refine cW ?_;refine dU (i:=5) Z Û NL rfl ?_;refine cW ?_;refine dU (i:=6) Z Û NL rfl ?_;refine⟨zL,λp4 AE=>⟨p3,p4,_,_,rfl,rfl,À.upd AE _ _ f3,aj,zL,λl4 fx=>?_⟩⟩;refine aJ ?_;refine ae _ _ ?_;clear ae c_;try dsimp only
 refine fZ (λH4=>À H H4/\H4 l2=some (.lst (words.map V.str))/\H4 l4=some (.lst ([decide (0=j),decide (1=j),decide (2=j),decide (3=j),decide (4=j),decide (5=j),decide (6=j)].map V.bl))) ⟨(s3.updR AE).updR fx,À.upd fx _ _ (À.upd AE _ _ e3),aj⟩ λH4=>?_;rintro⟨s4,e4,f4⟩;have AW:=s4 _ _ ea;refine aN λc_ ae=>?_;refine aW ?_;refine⟨_,rfl,?_⟩;refine lC (cW ?_);refine dU (i:=7) Z Û AW rfl ?_;refine cW ?_;refine dU (i:=8) Z Û AW rfl ?_;refine cW ?_;refine dU (i:=9) Z Û AW rfl ?_;refine⟨zL,λp5 A6=>⟨l4,p5,_,_,rfl,rfl,À.upd A6 _ _ f4,aj,zL,λl5 Ru=>?_⟩⟩;refine aJ ?_;refine ae _ _ ?_;clear ae c_;try dsimp only
 refine fZ (λH5=>À H H5/\H5 l2=some (.lst (words.map V.str))/\H5 l5=some (.lst ([decide (0=j),decide (1=j),decide (2=j),decide (3=j),decide (4=j),decide (5=j),decide (6=j),decide (7=j),decide (8=j),decide (9=j)].map V.bl))) ⟨(s4.updR A6).updR Ru,À.upd Ru _ _ (À.upd A6 _ _ e4),aj⟩ λH5=>?_;rintro⟨s5,e5,f5⟩;have HU:=s5 _ _ ea;refine aN λc_ ae=>?_;refine aW ?_;refine⟨_,rfl,?_⟩;refine lC (cW ?_);refine dU (i:=10) Z Û HU rfl ?_;refine cW ?_;refine dU (i:=11) Z Û HU rfl ?_;refine cW ?_;refine dU (i:=12) Z Û HU rfl ?_;refine cW ?_;refine dU (i:=13) Z Û HU rfl ?_;refine⟨zL,λp6 A7=>⟨l5,p6,_,_,rfl,rfl,À.upd A7 _ _ f5,aj,zL,λl6 F4=>?_⟩⟩;refine aJ ?_;refine ae _ _ ?_;clear ae c_;try dsimp only
 refine fZ (λH6=>À H H6/\H6 l2=some (.lst (words.map V.str))/\H6 l6=some (.lst ([decide (0=j),decide (1=j),decide (2=j),decide (3=j),decide (4=j),decide (5=j),decide (6=j),decide (7=j),decide (8=j),decide (9=j),decide (10=j),decide (11=j),decide (12=j),decide (13=j)].map V.bl))) ⟨(s5.updR A7).updR F4,À.upd F4 _ _ (À.upd A7 _ _ e5),aj⟩ λH6=>?_;rintro⟨s6,e6,f6⟩;have NM:=s6 _ _ ea;refine aN λc_ ae=>?_;refine aW ?_;refine⟨_,rfl,?_⟩;refine lC (cW ?_);refine dU (i:=14) Z Û NM rfl ?_;refine cW ?_;refine dU (i:=15) Z Û NM rfl ?_;refine cW ?_;refine dU (i:=16) Z Û NM rfl ?_;refine⟨zL,λp7 A8=>⟨l6,p7,_,_,rfl,rfl,À.upd A8 _ _ f6,aj,zL,λl7 Rv=>?_⟩⟩;refine aJ ?_;refine ae _ _ ?_;clear ae c_;try dsimp only
 refine fZ (λH7=>À H H7/\H7 l2=some (.lst (words.map V.str))/\H7 l7=some (.lst ([decide (0=j),decide (1=j),decide (2=j),decide (3=j),decide (4=j),decide (5=j),decide (6=j),decide (7=j),decide (8=j),decide (9=j),decide (10=j),decide (11=j),decide (12=j),decide (13=j),decide (14=j),decide (15=j),decide (16=j)].map V.bl))) ⟨(s6.updR A8).updR Rv,À.upd Rv _ _ (À.upd A8 _ _ e6),aj⟩ λH7=>?_;rintro⟨s7,e7,f7⟩;have V7:=s7 _ _ ea;have f7:H7 l7=some (.lst ((Ļ j).map V.bl)):=f7;have lt:=Z.lt;refine aN λc_ ae=>?_;refine⟨_,rfl,.inl ⟨rfl,_,Ê.of f7⟩,l7,Ļ j,true,rfl,rfl,f7,rfl,_,rfl,?_⟩;rw[yf j Â];refine bA ?_;refine⟨_,rfl,a,Cs j,.ty "ValueError",true,rfl,V7,Z.ex,.inr ⟨_,rfl,Z.ve⟩,_,rfl,?_⟩;refine bA (cZ ?_);refine ae _ _ ?_;clear ae c_;try dsimp only
 refine⟨_,rfl,l7,_,16,.bl (decide (16=j)),rfl,rfl,Ê.of f7,rfl,_,rfl,?_⟩;rw[Ĝ (by lia:¬16=j)];refine bA ?_;refine⟨_,rfl,_,rfl,.inl ⟨rfl,_,Ê.of f7⟩,l7,Ļ j,true,j,rfl,rfl,f7,Hv Â,λi hi=>Hw hi,l2,_,j,_,rfl,rfl,Ê.of e7,Hy lt,zL,λp8 V8=>?_⟩;exact q p8 _ (s7.updR V8) aj
def toE(EX:Addr->Addr->Hp->Prop):XK:=λe C H=>match e,C with|.ref a,some C'=>EX a C' H|_,_=>False
def BP(P:Program)(w:World)(K:Frag)(mg:TX)(base:Heap)(kk:Nat)(H:Hp)(fl:Addr)(Qw:VK)(Ew:Addr->Addr->Hp->Prop):Prop:=∃(fd:FuncData)(body:Expr)(N:ó)(vs:List V)(cs:T7),Ų H fl fd/\ő fd body N/\(∀b o,cs.lookup b=some o->H b=some (held o))/\(∀x c,fd.closure.lookup x=some c->∃o v,cs.lookup c=some o/\o.data=.cell v)/\(∀(i:Nat)(x:Str)(v:V),N[i]?=some x->vs[i]?=some v->∃c u o,fd.closure.lookup x=some c/\Ô v u/\cs.lookup c=some o/\o.data=.cell (some u))/\vs.length=N.length/\∀(A:Around)(outer:List Env)(Q':VK)(E':XK),ì kk A->(∀v H1,Qw v H1->Q' v H1)->(∀a C H1,Ew a C H1->E' (.ref a) (some C) H1)->∃te,(∀s,PE (cxL P w K mg base N fd fl A outer s (er H cs) (λe C H1=>NoC cs H1->E' e C (fz H1 cs))) body te)/\te (vs.map some) (er H cs) λv H1=>NoC cs H1->Q' v (fz H1 cs)
theorem Mz{fl:Addr}(LG:σ[i]?=some (some (.ref fl)))(L:BP X.prog X.w X.K X.mg X.base kk H fl Qw Ew)(hr:ì kk X.A)(q1:∀v H1,Qw v H1->Q v H1)(q2:∀a C H1,Ew a C H1->E (.ref a) (some C) H1):M4 X i E σ H Q:=by obtain⟨fd,body,N,vs,cs,L,Z,fr,cell,val,hl,run⟩:=L;obtain⟨te,kF,q⟩:=run X.A X.stack Q E hr q1 q2;exact⟨fl,fd,body,N,vs,cs,te,LG,L,Z,fr,cell,val,hl,kF,q⟩
def MF(P:Program)(w:World)(K:Frag)(mg:TX)(base:Heap)(k:Nat)(x:Str)(ps:ó)(sp:Sp):Prop:=∃f fd,ū P w K mg base ä k f fd ps sp/\mg x=some (.ref f)/\PySem.W.keepIn K (.ref f)=true/\ø K fd ps []
theorem JS{p pos:Pos}(c:MF X.prog X.w X.K X.mg X.base j x ps sp)(hr:Ď k X.A)(hjk:j<=k)(hg:Gl X x)(ha:PA X (e::es) t)(fk:ź x:=by decide)(he:Qa8 X e es:=by rfl)(ff:Qa9 X pos es:=by rfl):PE X (.Call (.Name x p) (e::es) [] pos) (vO sp [] E0 t):=by obtain⟨f,fd,F,m,k',b⟩:=c;exact G4 F (hr.mono hjk) hg m k' b ha fk he ff
inductive ϐ(P:Program)(w:World)(K:Frag)(mg:TX)(base:Heap)(Cs:Nat->Addr)(kk:Nat)(vs:List V)(H:Hp)(Q:VK):Prop|mk:∀fl Qw Ew,(vs=[.ref fl])->(BP P w K mg base kk H fl Qw Ew)->((∀v H1,Qw v H1->∀p,H1 p=none->p≠sysModules->Q (.ref p) (upd H1 p (.lst [v]))))->((∀a C H1,Ew a C H1->∃j,C=Cs j/\ϥ K Cs j/\(H1 a=none->∀p H2,À H1 H2->H2 p=some (.tup [.str (words.getD j "")])->Q (.ref p) H2)))->ϐ P w K mg base Cs kk vs H Q
def zJ(P:Program)(w:World)(K:Frag)(mg:TX)(base:Heap)(Cs:Nat->Addr)(kk:Nat):Sp:=λvs H Q _=>ϐ P w K mg base Cs kk vs H Q
theorem Z0o:Ã [ABh,ϝ,"_law_e"] [ABh] (aD (top 86)):=ö
theorem JT(F:ã K "_law_said" "_law_said" (top 86) f fd)(L:Z0r mg Cs)(c1:MF P w K mg base 1 "_law_kind" ["_law_e"] (Hu K Cs)):Ñ P w K mg base ä (kk+2) f fd [ABh] (zJ P w K mg base Cs kk):=by
 refine F.oq Z0o λai A outer s H vs Q E hr h=>?_;obtain⟨fl,Qw,Ew,rfl,S,q1,q2⟩:=h;refine⟨_,aC (M3 (i:=2) (tb:=λEX=>yo (M4 (jt ä P w K mg base [ABh,ϝ,"_law_e"] "_law_said" (aD (top 86)) f ai A outer s H E).nox 0 (toE EX)) (bO 1)) L.wool rfl Z0o.nd rfl rfl rfl rfl (λÁ xe EX W=>aF (ĕ 1 Z0o.nd (M5 (E:=toE EX) (k:=kk) (hr.mono Â) rfl (Or.inl rfl) W rfl))) (λv=>aF (aQ (JS c1 (hr.toU.mark v) Â rfl (au (pv 2) ao))))) (aF (aQ (Ab (au (pv 1) ao)))),?_⟩;refine aP (aW ?_);refine Mz (kk:=kk) rfl S (hr.mono Â) (λv H1 hq=>?_) (λa C H1 hE=>?_);.refine aJ ?_;refine⟨_,rfl,zL,λp hp np=>q1 v H1 hq p hp np⟩
 .obtain⟨j,rfl,Z,q3⟩:=q2 a C H1 hE;refine⟨Z.ca,λah fA fa=>⟨.ref a,?_,a,j,rfl,aj,Z,λp H2 s2 e2=>q3 fa p H2 ((À.upd fa).trans s2) e2⟩⟩;rw[Zay];have fA:ah.length=3:=fA;lia
open PySem.W in
def JV(K:Frag)(L:Č)(j:Nat):Bool:=decide (j<16)&&((clsIn K (L.getD j 0)).isSome&&(findIn K (.ref (L.getD j 0)) "__getattribute__"==some (some (.builtin "BaseException.__getattribute__"))&&(findIn K (.ref (L.getD j 0)) "__getattr__"==some none&&(findIn K (.ref (L.getD j 0)) "__class__"==some (some (.builtin "object.__class__"))&&(specialIn K (.builtin "object.__class__") "__get__"==some (some (.builtin "getset_descriptor.__get__"))&&(takesIn K (.builtin "object.__class__")==some true&&(mroIn K (L.getD j 0) (.type "object")==some true&&(mroIn K (L.getD j 0) (.type "BaseException")==some true&&(typeIn K (.ref (L.getD 17 0))==some (.type "type")&&((clsIn K (L.getD 17 0)).isSome&&(subIn K (.ref (L.getD 17 0)) (.type "BaseException")==some true&&(subIn K (.ref (L.getD j 0)) (.ref (L.getD 17 0))==some true&&((List.range 17).all (λi=>kitOne K (.ref (L.getD j 0)) (.ref (L.getD i 0))==some (decide (i=j)))&&kitOne K (.ref (L.getD j 0)) (.type "ValueError")==some true)))))))))))))
theorem Ky(h:JV K L j=true):ϥ K (λi=>L.getD i 0) j:=by unfold JV at h;simp only[Bool.and_eq_true,beq_iff_eq,Ć]at h;obtain⟨h0,h1,h2,h3,h4,h5,h6,h7,h8,h9,V9,Wa,Wb,Wc,We⟩:=h;refine⟨h0,⟨h1,h2,h3,h4,h5,h6,h7,h8⟩,⟨h9,V9,Wa,Wb⟩,λi hi=>?_,We⟩;have:=ō.mp Wc i (Ϣ.mpr hi);simpa using this
theorem tab_mk(h1:PySem.W.nsIn K mainGlobals x=some (some (.ref f)))(h2:K.lookup f=some ⟨a1,b1,.func fd,s1⟩)(h3:fd.code=.ref c)(h4:K.lookup c=some ⟨a2,b2,.fields vs,s2⟩)(h5:vs[11]?=some (.ref T)):PySem.W.tabIn K x=some (c,T):=by unfold PySem.W.tabIn;rw[h1];show(match K.lookup f with|some ⟨_,_,.func fd,_⟩=>_|_=>none)=_;rw[h2];show(match fd.code with|.ref c=>_|_=>none)=_;rw[h3];show(match K.lookup c with|some ⟨_,_,.fields vs,_⟩=>_|_=>none)=_;rw[h4];show(match vs[11]? with|some (.ref P)=>some (c,P)|_=>none)=_;rw[h5]
def up(g:Int)(r:WF):WF:=r.map λn=>n*(100+g)/100
def gi(g:Int)(rs:UV):Nat->UV|0=>rs|i+1=>gi g rs i++[up g ((gi g rs i).getLastD [])]
def OkR(b:Nat)(rs:UV):Prop:=∀r∈rs,r.length=3/\∀n∈r,0<=n/\n<(b:Int)
theorem jJ(g:Int)(rs:UV):∀i,(gi g rs i).length=rs.length+i|0=>rfl|i+1=>by show(gi g rs i++[_]).length=_;rw[õ,jJ g rs i];rfl
theorem Pg(h1:-100<=g)(h2:g<=100){b:Nat}(h:r.length=3/\∀n∈r,0<=n/\n<(b:Int)):(up g r).length=3/\∀n∈up g r,0<=n/\n<((2*b:Nat):Int):=by refine⟨by unfold up;rw[Ø];exact h.1,λn hn=>?_⟩;obtain⟨m,hm,rfl⟩:=ñ.mp hn;obtain⟨a1,a2⟩:=h.2 m hm;have b1:0<=m*(100+g):=Int.mul_nonneg a1 Â;have b2:m*(100+g)<=m*200:=Za4 Â a1;refine⟨Int.ediv_nonneg b1 Û,?_⟩;have:m*(100+g)/100<=m*200/100:=Int.ediv_le_ediv Û b2;have e:m*200/100=2*m:=Â;push_cast;lia
theorem MJ(h:OkR b rs)(hbc:b<=c):OkR c rs:=λr hr=>⟨(h r hr).1,λn hn=>(let⟨a,b'⟩:=(h r hr).2 n hn;⟨a,Â⟩)⟩
theorem qX{rs:UV}(h:rs≠[]):rs.getLastD []∈rs:=by cases rs with|nil=>exact absurd rfl h;|cons a t=>rw[List.getLastD_eq_getLast?,List.getLast?_eq_some_getLast Ù];exact List.getLast_mem _
theorem ue(h1:-100<=g)(h2:g<=100)(h:OkR 1000 rs)(hn:rs≠[]):∀i,OkR (1000*2^i) (gi g rs i)
 |0=>by show OkR (1000*1) rs;exact h;|i+1=>λr hr=>by
  have ih:=ue h1 h2 h hn i;have ne:gi g rs i≠[]:=λz=>by have:=jJ g rs i;rw[z]at this;cases rs with|nil=>exact hn rfl;|cons a t=>simp at this;lia
  have e:1000*2^(i+1)=2*(1000*2^i):=by rw[Nat.pow_succ];lia
  rcases Ę.mp (show r∈gi g rs i++[up g ((gi g rs i).getLastD [])]from hr)with z|z;.rw[e];exact MJ ih Â r z
  .rw[ű.mp z,e];exact Pg h1 h2 (ih _ (qX ne))
theorem BR{Fin:List V->Hp->Prop}(e:H0 a=some (.tup (r.map V.int)))(hl:r.length=3)(h1:-100<=g)(h2:g<=100)(fin:Fin ((up g r).map V.int) H0):jY (Itt K a) (bO 0) uC (Ÿ (rI Nj λi j=>.int (i/j)) (Ÿ (rI Z0a λi j=>.int (i*j)) (vK 0) (Ÿ (ς λi j=>.int (i+j)) (tC (.int 100)) (vK 1))) (tC (.int 100))) Fin [x0,some (.int g)] H0:=by
 refine dD 3 (λi ys σ H=>H=H0/\(∃x,σ=[x,some (.int g)])/\ys=((up g r).map V.int).take i) ⟨rfl,⟨x0,rfl⟩,rfl⟩ Û ?_ ?_;.rintro i ys σ H hi hy⟨rfl,⟨x,rfl⟩,rfl⟩;refine⟨⟨_,.int (r[i]'Â),Î.of e,by simp⟩,λv H' y R hR=>?_⟩;obtain⟨rfl,y2⟩:=y;have y2:=y2 _ (Î.of e);rw[ċ,à Â]at y2;cases y2;refine aJ ?_;refine⟨_,rfl,_,rfl,_,_,rfl,rfl,_,_,rfl,rfl,.inr ⟨Â,Â⟩,_,_,rfl,rfl,⟨by decide,by decide⟩,?_⟩;refine hR _ _ _ ⟨rfl,⟨_,rfl⟩,?_⟩;rw[ī,ċ];unfold up;rw[ċ,à Â];rfl
 .rintro ys σ H hy⟨rfl,_,rfl⟩;refine⟨⟨_,Î.of e,by simp[hl]⟩,?_⟩;rw[Ϭ (by unfold up;simp[hl])];exact fin
theorem pF:∀{xs:List V}{r:WF},Ä S H xs (r.map PyData.int)->xs=r.map V.int|[],[],_=>rfl|_::_,[],h=>nomatch h|[],_::_,h=>nomatch h|x::xs,i::r,h=>by cases h with|cons a b=>cases a;rw[pF b];rfl
theorem qY:∀{xs:List V}{rs:UV},Ä S H xs (rs.map cJ)->Ä S' H xs (rs.map cJ)|[],[],_=>.nil|_::_,[],h=>nomatch h|[],_::_,h=>nomatch h|x::xs,i::r,h=>by cases h with|cons a b=>cases a with|tup e z=>have:=pF z;subst this;exact .cons (.tup e (Ä.ints _)) (qY b)
theorem uf{rs:UV}(h:Ä S H xs (rs.map cJ))(hn:rs≠[]):∃t,Ņ xs (-1)=some (.ref t)/\H t=some (.tup ((rs.getLastD []).map V.int)):=by
 have el:=h.length;rw[Ø]at el;have hp:0<rs.length:=List.length_pos_iff.mpr hn;obtain⟨v,hv⟩:∃v,xs[xs.length-1]?=some v:=⟨xs[xs.length-1]'Â,à Â⟩;obtain⟨d,hd,tv⟩:=h.get hv;have e1:rs[xs.length-1]?=some (rs.getLastD []):=by rw[el,List.getLastD_eq_getLast?,<-List.getLast?_eq_getElem?,List.getLast?_eq_some_getLast hn];rfl
 rw[ċ,e1]at hd;cases hd;have kK:Ņ xs (-1)=xs[xs.length-1]?:=by unfold Ņ υ;rw[Ë Û,Í Â];show xs[((-1:Int)+xs.length).toNat]?=_;congr 1;lia
 cases tv with|tup e r=>refine⟨_,kK.trans hv,?_⟩;rw[pF r]at e;exact e
inductive Μ(vs:List V)(H:Hp)(Q:VK):Prop|mk:∀S v g y rs,(vs=[v,.int g,.int y])->(Ó S H v (.tuple (rs.map cJ)))->(OkR 1000 rs)->(rs≠[])->(rs.length<=20)->(-100<=g)->(g<=100)->((rs.length:Int)<=y)->(y<=100)->(∀v' H',À H H'->Ó (λ_=>False) H' v' (.tuple ((gi g rs (y.toNat-rs.length)).map cJ))->Q v' H')->Μ  vs H Q
def BV:Sp:=λvs H Q _=>Μ  vs H Q
theorem QC:(["sacks","growth"]:ó).Nodup:=by decide+kernel
theorem sc36:Ã ["clips","growth","years","rows"] ["clips","growth","years"] (aD (top 66)):=ö
theorem HB(F:ã K "grown" "grown" (top 66) f fd)(T:Mg mg)(Tl:mg "list"=none):Ñ P w K mg base ä 1 f fd ["clips","growth","years"] BV:=by refine F.oq sc36 λai A outer s H vs Q E hr h=>?_;obtain⟨S,v,g,y,rs,rfl,th,ok,hn,hl,g1,g2,y1,y2,q⟩:=h;refine⟨_,aC (ĕ 3 sc36.nd (bN iQ rfl Tl lG (au (pv 0) ao))) (aC (vL Ĺ (aZ lO (aG aX rfl T.len PySem.boot_len (au (pv 3) ao)) (pv 2) (bf _)) (aF (cB (fQ Ŷ Ϯ ϯ d9 (pv 3) (au (bN bR rfl T.tuple Ò (au (bD ["sacks","growth"] [none,some 1] rfl (dI (pX bT (pv 3) (rY nA az))) (λC fp Á s₂ Õ=>⟨Ö 0 QC,bG,aV jN (aV gP (pv 0) (aV cu az (pv 1))) az⟩) (λC=>cI trivial) ⟨rfl,rfl,rfl,rfl⟩) ao)) ao))))) (aF (aQ (bN bR rfl T.tuple Ò (au (pv 3) ao))))),?_⟩;cases th with|@tup a xs ds ea r=>
  refine aP ?_;refine⟨_,rfl,a,xs,rfl,Î.of ea,λp hp np=>?_⟩;refine aJ ?_;dsimp only;refine aP ?_;have len0:=r.length;rw[Ø]at len0;refine⟨λm σ H'=>∃i ys,m=(y.toNat-rs.length)-i/\i<=y.toNat-rs.length/\σ=[some (.ref a),some (.int g),some (.int y),some (.ref p)]/\(∀b o,b≠p->H b=some o->H' b=some o)/\H' p=some (.lst ys)/\Ä (λ_=>False) H' ys ((gi g rs i).map cJ),⟨_,0,xs,rfl,ĥ _,rfl,λb o n e=>by rw[aq n];exact e,aj,?_⟩,?_⟩;.exact(qY (S':=λ_=>False) r).keep (λc l e=>by rw[aq (aB e hp)];exact e) (λ_ _ z _=>z.elim) λ_ _ z _=>z.elim
  .rintro m σ H'⟨i,ys,rfl,hi,rfl,kp,ep,it⟩;have ly:=it.length;rw[Ø,jJ]at ly;refine⟨_,rfl,p,ys,rfl,.inl (Ê.of ep),_,rfl,_,_,rfl,rfl,_,rfl,?_⟩;refine jW (λc=>?_) (λc=>?_)
   .have c:=ŭ c;have c:(ys.length:Int)<y:=c;refine⟨λah sR=>∃de,ah=[some (.ref a),some (.int g),some (.int y),some (.ref p)]/\(∀b o,b≠p->H b=some o->sR b=some o)/\sR p=some (.lst de)/\Ä (λ_=>False) sR de ((gi g rs (i+1)).map cJ),λah sR⟨de,e1,e2,e3,e4⟩=>⟨y.toNat-rs.length-(i+1),Â,i+1,de,rfl,Â,e1,e2,e3,e4⟩,?_⟩;have ne:gi g rs i≠[]:=λz=>by have:=jJ g rs i;rw[z]at this;have:=List.length_pos_iff.mpr hn;simp at*;lia
    obtain⟨t,e5,e6⟩:=uf it ne;have lr:((gi g rs i).getLastD []).length=3:=(ue g1 g2 ok hn i _ (qX ne)).1;refine⟨_,rfl,.inl ⟨rfl,_,Ê.of ep⟩,_,rfl,1,rfl,p,ys,-1,.ref t,rfl,rfl,Ê.of ep,e5,t,rfl,⟨_,Î.of e6⟩,BR e6 lr g1 g2 λD hD=>⟨D,_,rfl,.inl ⟨Ê.of aj,λl hl=>?_⟩⟩⟩;have sm:À H' (upd (upd H' D (.lst ((up g ((gi g rs i).getLastD [])).map V.int))) l (.tup ((up g ((gi g rs i).getLastD [])).map V.int))):=(À.upd hD).updR hl;have NN:l≠p:=λz=>by rw[z,À.upd hD _ _ ep]at hl;cases hl
    refine⟨p,ys,.ref l,rfl,rfl,sm _ _ ep,by rw[sizeLine_eq];lia,?_⟩;refine⟨ys++[.ref l],rfl,λb o n e=>?_,aj,?_⟩;.rw[aq n];exact sm _ _ (kp b o n e)
    .show Ä _ _ _ ((gi g rs i++[up g ((gi g rs i).getLastD [])]).map cJ);rw[ô];refine Ä.append ?_ (.cons (.tup (by rw[aq NN];exact aj) (Ä.ints _)) .nil);exact(it.same sm).keep (λc l' e'=>by rw[aq λz=>by rw[z,sm _ _ ep]at e';cases e'];exact e') (λ_ _ z _=>z.elim) λ_ _ z _=>z.elim
   .have c:¬(ys.length:Int)<y:=λz=>c (ð z);have ei:i=y.toNat-rs.length:=Â;subst ei;refine⟨_,rfl,p,ys,rfl,.inl ⟨Ê.of ep,λl hl=>q _ _ (λb o e=>?_) (.tup aj ?_)⟩⟩;.have nb:b≠p:=aB e hp;have e2:=kp b o nb e;rw[aq (aB e2 hl)];exact e2
    .exact(it.same (À.upd hl)).keep (λ_ _ e=>e) (λ_ _ z _=>z.elim) λ_ _ z _=>z.elim
theorem vB{cs:UV}(h:∀r∈cs,okC r):OkR 1000 cs:=λr hr=>⟨(h r hr).1,λx hx=>(h r hr).2 x hx⟩
def vC(g:Int)(cs ps ss:UV)(j:Nat):Prop:=cs.length<=j+1/\(∀p∈ps,fl p 3<=(j:Int))/\aO (gi g cs (100-cs.length)) ps ss (j+1) 3=0
def jn(n:Nat)(P:Nat->Prop):Option Nat->Prop|some m=>m<n/\P m/\∀j,j<m->¬P j|none=>∀j,j<n->¬P j
theorem ug{P:Nat->Prop}:∀{a b:Option Nat},jn n P a->jn n P b->a=b
 |none,none,_,_=>rfl|none,some m,h,g=>absurd g.2.1 (h m g.1)|some m,none,g,h=>absurd g.2.1 (h m g.1)|some m,some k,g,h=>by
  rcases Nat.lt_trichotomy m k with z|z|z;.exact absurd g.2.1 (h.2.2 m z)
  .rw[z]
  .exact absurd h.2.1 (g.2.2 k z)
theorem Ω.nil{cs ps ss K:UV}(okp:∀r∈ps,ě r)(h:Ω cs ps ss m K):K=[]↔aO cs ps ss m 3=0:=by rw[<-h.all okp];cases K with|nil=>exact⟨λ_=>rfl,λ_=>rfl⟩;|cons r K=>have a:=(h.ok r (.head _)).s0;have b:=iu λq hq=>ŋ.nn (λq hq=>h.ok q (.tail _ hq)) q hq;have e:aU (r::K)=fl r 3+aU K:=rfl;exact⟨λz=>(nomatch z),λz=>by lia⟩
structure NG(mg:TX):Prop where least:∃t,mg "LEAST_GROWTH"=some (.int (-100) t)mostg:∃t,mg "MOST_GROWTH"=some (.int 100 t)years:∃t,mg "MOST_YEARS"=some (.int 100 t)
inductive ϑ(vs:List V)(H:Hp)(Q:VK):Prop|mk:∀g,(vs=[.int g])->(-100<=g)->(g<=100)->(∀H',À H H'->Q .non H')->ϑ  vs H Q
def HF:Sp:=λvs H Q _=>ϑ  vs H Q
inductive ϊ(vs:List V)(H:Hp)(Q:VK):Prop|mk:∀bk g ac xc cs ap xp ps ar xs ss,(vs=[.ref bk,.int g])->(Ĉ H bk ac xc cs ap xp ps ar xs ss)->((∀r∈cs,okC r))->(1<=cs.length)->(-100<=g)->(g<=100)->(∀o H',À H H'->jn 100 (vC g cs ps ss) o->Q (unV o) H')->ϊ  vs H Q
def HJ:Sp:=λvs H Q _=>ϊ  vs H Q
theorem uh:bootBuiltins "max"=some (.builtin "max"):=by decide+kernel
theorem Ph:Ã ["thing"] ["thing"] (aD (top 65)):=ö
theorem JW(F:ã K "refuse_no_growth" "refuse_no_growth" (top 65) f fd)(N:NG mg)(c1:å P w K mg base 2 "is_whole_from" ["thing","least","most"] (jX gh)):Ñ P w K mg base ä 3 f fd ["thing"] HF:=by
 refine F.oq Ph λai A outer s H vs Q E hr h=>?_;obtain⟨g,rfl,g0,g1,q⟩:=h;obtain⟨t1,e1⟩:=N.least;obtain⟨t2,e2⟩:=N.mostg;refine⟨_,aF (bU (bH (cA (aH c1 hr (aK (pv 0) (aK (cg (v:=.int (-100)) rfl e1 ⟨_,rfl⟩) (aK (cg (v:=.int 100) rfl e2 ⟨_,rfl⟩) ao)))))) (aF lM) bj),?_⟩;refine⟨_,rfl,λ_=>False,.int g,.int g,-100,100,rfl,.int _,(by show 1<=4000;decide),λH1 s1=>⟨_,rfl,?_⟩⟩;have e:gh (.int g) (-100) 100=true:=by show(true&&(decide (-100<=g)&&decide (g<=100)))=true;rw[ð g0,ð g1];rfl
 rw[e];exact bA (q _ s1)
theorem QD:(["promise"]:ó).Nodup:=by decide+kernel
theorem Ŝ:Ã ["book","growth","clips","promises","sales","least","years","at","gifts","owed","left"] ["book","growth"] (aD (top 67)):=ö
theorem JX(F:ã K "year_of_all" "year_of_all" (top 67) f fd)(T:Mg mg)(N:NG mg)(Tm:mg "max"=none)(Te:mg "enumerate"=none)(c1:å P w K mg base 1 "grown" ["clips","growth","years"] BV)(c2:å P w K mg base 10 "years_given" ["book","year"] By):Ñ P w K mg base ä 11 f fd ["book","growth"] HJ:=by
 refine F.oq Ŝ λai A outer s H vs Q E hr h=>?_;obtain⟨bk,g,ac,xc,cs,ap,xp,ps,ar,xs,ss,rfl,B,okc,ij,g0,g1,q⟩:=h;obtain⟨t1,e1⟩:=N.years;refine K51P.ok_b (aM ⟨d7 (pv 0) (cj rfl (aA (Ö 2 Ŝ.nd) (aA (Ö 3 Ŝ.nd) (aA (Ö 4 Ŝ.nd) aY))))⟩ (aM (fV 5 Ŝ.nd ⟨aG (kE rfl) rfl Tm uh (au (aV jc (cX (au (aV dG (aG aX rfl T.len PySem.boot_len (au (pv 2) ao)) az) ao)) (bD ["promise"] [none] rfl (dI (pv 3)) (λC fp Á s₂ Õ=>⟨Ö 0 QD,bG,pX (K51P.ix_tupK (K:=K) rfl) (pv 0) az⟩) (λC=>trivial) ⟨rfl,rfl,rfl,rfl⟩)) ao)⟩) (aM (fV 6 Ŝ.nd ⟨aH c2 hr (aK (bW (aK (aH c1 hr (aK (pv 2) (aK (pv 1) (aK (cg (v:=.int 100) rfl e1 ⟨_,rfl⟩) ao)))) (aK (pv 3) (aK (pv 4) ao)))) (aK (aV dG (cg (v:=.int 100) rfl e1 ⟨_,rfl⟩) az) ao))⟩) (aM ⟨cP Ĺ rfl (ZT.pi_enum false rfl Te (au (pv 6) ao)) (cj rfl (aA (Ö 7 Ŝ.nd) (aA (cj rfl (aA (Ö 8 Ŝ.nd) (aA (Ö 9 Ŝ.nd) (aA (Ö 10 Ŝ.nd) aY)))) aY))) (aF (bU (PW.pt (pJ (aZ vN (pv 7) (pv 5) (bf _)) (lK (bH (Eo (pv 9) (λ_=>rfl)))))) (aF (aQ (pv 7))) bj))⟩ (cF (gQ ⟨j9⟩)))))) ?_;refine aN λc_ ae=>?_;refine⟨_,rfl,bk,_,rfl,Î.of B.e,rfl,_,_,rfl,_,_,rfl,_,_,rfl,rfl,?_⟩;refine ae _ _ ?_;clear ae c_;try dsimp only
 have lx:=B.rc.l;have Wf:=B.rp.l;have lp:=B.lp;have lc:=B.lc;refine aN λc_ ae=>?_;refine aW ?_;refine⟨_,rfl,ac,xc,rfl,.inr (Î.of B.rc.e),_,_,rfl,rfl,zL,λl1 ej=>?_⟩;have s1:=À.upd (o:=.lst [V.int ((xc.length:Int)-1)]) ej;have ń:=aj (H:=H) (a:=l1) (o:=.lst [V.int ((xc.length:Int)-1)]);generalize upd H l1 (.lst [V.int ((xc.length:Int)-1)])=H1 at s1 ń⊢;have B1:=B.same s1;refine⟨_,rfl,ap,rfl,⟨_,Î.of B1.rp.e⟩,dD ps.length (λi ys σ Hc=>Hc=H1/\(∃o1,σ=[o1])/\ys=((ps.take i).map λr=>fl r 3).map V.int) ⟨rfl,⟨_,rfl⟩,rfl⟩ ŷ ?_ ?_⟩
 .rintro i ys σ Hc hi hy⟨rfl,⟨o1,rfl⟩,rfl⟩;obtain⟨t,ex,et⟩:=B1.rp.g i ps[i] (à hi);have cb:ps.take (i+1)=ps.take i++[ps[i]]:=by rw[ī,à hi];rfl
  have l6:=(B.okp _ (Ě hi)).1;refine⟨⟨_,_,Î.of B1.rp.e,ex⟩,λv H' y' R' NO=>?_⟩;obtain⟨rfl,y'⟩:=y';have hv:=y' _ (Î.of B1.rp.e);rw[ex]at hv;cases hv;refine aJ ?_;refine⟨_,rfl,t,_,3,_,rfl,rfl,Î.of et,fj (j:=3) (mK Â),NO _ _ _ ⟨rfl,⟨_,rfl⟩,?_⟩⟩;rw[cb,ô,ô];rfl
 rintro ys σ Hc hy⟨rfl,_,rfl⟩;rw[ł];refine⟨⟨_,Î.of B1.rp.e,Â⟩,λD hD=>?_⟩;have s2:=À.upd (o:=.lst ((ps.map λr=>fl r 3).map V.int)) hD;have eD:=aj (H:=Hc) (a:=D) (o:=.lst ((ps.map λr=>fl r 3).map V.int));generalize upd Hc D (.lst ((ps.map λr=>fl r 3).map V.int))=H2 at s2 eD⊢;refine⟨l1,D,_,_,rfl,rfl,s2 _ _ ń,eD,by rw[Ø,Ø,sizeLine_eq];show 1+_<=_;lia,λl2 eR=>⟨l2,((xc.length:Int)-1)::ps.map λr=>fl r 3,rfl,Ê.of aj,by simp,λM hM hm=>?_⟩⟩;have s3:=(s1.trans s2).trans (À.upd (o:=.lst ([V.int ((xc.length:Int)-1)]++(ps.map λr=>fl r 3).map V.int)) eR);generalize upd H2 l2 (.lst ([V.int ((xc.length:Int)-1)]++(ps.map λr=>fl r 3).map V.int))=H3 at s3⊢;refine aJ ?_;refine ae _ _ ?_;clear ae c_;try dsimp only
 clear s2 eD ń hD eR;refine aN λc_ ae=>?_;refine aW ?_;have B3:=B.same s3;have fy:cs≠[]:=λz=>by rw[z]at ij;exact absurd ij Û
 refine⟨_,rfl,_,rfl,λ_=>False,.ref ac,g,100,cs,rfl,B3.rc.th,vB okc,fy,lc,g0,g1,Â,by decide,λv' H4 s4 Rw=>?_⟩;obtain⟨a4,Wg,rfl,NS⟩:=jl Rw;have B4:=B3.same s4;refine⟨_,rfl,_,rfl,zL,λnb Wh=>?_⟩;have s5:=À.upd (o:=.tup [.ref a4,.ref ap,.ref ar]) Wh;have eb:=aj (H:=H4) (a:=nb) (o:=.tup [.ref a4,.ref ap,.ref ar]);generalize upd H4 nb (.tup [.ref a4,.ref ap,.ref ar])=H5 at s5 eb⊢;have B5:=B4.same s5;rw[show(100:Int).toNat=100 from rfl]at NS;have Rx:=NS.same s5;have gl:(gi g cs (100-cs.length)).length=100:=by rw[jJ];lia
 have BC:∀r∈gi g cs (100-cs.length),r.length=3/\∀x∈r,0<=x:=λr hr=>(let o:=ue g0 g1 (vB okc) fy (100-cs.length) r hr;⟨o.1,λx hx=>(o.2 x hx).1⟩);have Wi:=(s3.trans s4).trans s5;have pV:∀j,vC g cs ps ss j↔(cs.length<=j+1/\(∀p∈ps,fl p 3<=(j:Int))/\aO (gi g cs (100-cs.length)) ps ss (j+1) 3=0):=λj=>Iff.rfl;generalize gi g cs (100-cs.length)=G at Rx gl BC pV;clear Rw NS;refine⟨_,_,rfl,rfl,nb,99,a4,Wg,G,ap,xp,ps,ar,xs,ss,rfl,eb,Rx,BC,Â,by decide,Â,B5.rp,lp,B.okp,B5.rs,B.ls,B.h5,B.un,λl ts H6 s6 nl el lt hy=>?_⟩;refine aJ ?_;refine ae _ _ ?_;clear ae c_;try dsimp only
 refine aP ?_;have lt:ts.length=100:=Â;refine⟨_,rfl,l,ts.map V.ref,rfl,Ê.of el,?_⟩;have Ry:=Wi.trans s6;refine ZT.for_enum false (xs:=ts.map V.ref) (λi σ Hc=>Xe4 λx7 x8 x9 l8=>Xa3 (σ=[some (.ref bk),some (.int g),some (.ref ac),some (.ref ap),some (.ref ar),some (.int M),some (.ref l),x7,x8,x9,l8]) (À H6 Hc) (∀j,j<i->¬vC g cs ps ss j)) ?_ ?_ ?_ ?_;.exact⟨none,none,none,none,rfl,À.refl _,λj hj=>absurd hj (Za7 _)⟩
 .rintro i σ Hc hi⟨x7,x8,x9,l8,rfl,sm,hh⟩;exact Ê.of (sm _ _ el)
 .rintro i x σ Hc T0 hx⟨x7,x8,x9,l8,rfl,sm,hh⟩nT;have hi:i<ts.length:=by have:=(ĵ.mp hx).1;rw[Ø]at this;exact this
  rw[ċ,à hi]at hx;cases hx;obtain⟨gg,k,tl,xg,xk,_,R,_,u1,n1,n2,d1,d2,u2,u3,u4,u5,u6,_,_,_,Rz,_⟩:=hy i ts[i] (à hi);have sT:=À.upd (o:=.tup [.int i,.ref ts[i]]) nT;have eT:=aj (H:=Hc) (a:=T0) (o:=.tup [.int i,.ref ts[i]]);generalize upd Hc T0 (.tup [.int i,.ref ts[i]])=H7 at sT eT⊢;have E5:=sm.trans sT;refine⟨T0,_,rfl,Î.of eT,rfl,_,_,rfl,_,_,rfl,ts[i],_,rfl,Î.of (E5 _ _ u1),rfl,_,_,rfl,_,_,rfl,_,_,rfl,rfl,rfl,?_⟩;dsimp only;have E6:decide (M<=(i:Int))=true↔(cs.length<=i+1/\∀p∈ps,fl p 3<=(i:Int)):=by
   rw[Ć];constructor;.intro h;have a1:=hm _ (.head _);refine⟨Â,λp hp=>?_⟩;have:=hm (fl p 3) (.tail _ (ñ.mpr ⟨p,hp,rfl⟩));lia
   .rintro⟨h1,h2⟩;rcases ĩ.mp hM with z|z;.lia
    .obtain⟨p,hp,rfl⟩:=ñ.mp z;exact h2 p hp
  refine⟨_,rfl,_,rfl,_,_,rfl,rfl,_,rfl,?_⟩;refine jW (λc=>?_) (λc=>?_)
  .have cM:=E6.mp c;refine⟨_,rfl,!xk.isEmpty,.inl ⟨xk,Ê.of (E5 _ _ u4),rfl⟩,?_⟩;have lk:=u5.1;refine jW (λc2=>?_) (λc2=>?_);.have:=(Rz.nil B.okp).mp (by cases xk with|nil=>exact List.eq_nil_of_length_eq_zero lk.symm;|cons _ _=>cases c2);exact⟨_,rfl,q (some i) _ (Ry.trans E5) ⟨Â,(pV i).mpr ⟨cM.1,cM.2,this⟩,hh⟩⟩
   .refine⟨_,_,_,_,rfl,E5,λj hj=>?_⟩;rcases Nat.lt_or_ge j i with z|z;.exact hh j z
    .have:j=i:=Â;subst this;intro m;have e:=(Rz.nil B.okp).mpr ((pV j).mp m).2.2;rw[e]at lk;cases xk with|nil=>exact c2 rfl;|cons _ _=>cases lk
  .refine⟨_,_,_,_,rfl,E5,λj hj=>?_⟩;rcases Nat.lt_or_ge j i with z|z;.exact hh j z
   .have:j=i:=Â;subst this;intro m;have e:=(pV j).mp m;exact c (E6.mpr ⟨e.1,e.2.1⟩)
 .rintro σ Hc⟨x7,x8,x9,l8,rfl,sm,hh⟩;rw[Ø,lt]at hh;exact q none _ (Ry.trans sm) hh
def Pj(R:Int->UV->UV->UV->Option Nat->Prop):Sp:=λvs H Q _=>∃S bk g d ac xc cs ap xp ps ar xs ss,vs=[.ref bk,.int g]/\Ó S H (.ref bk) d/\sz d<=4000/\j6 d=true/\Ĉ H bk ac xc cs ap xp ps ar xs ss/\(∀r∈cs,okC r)/\1<=cs.length/\-100<=g/\g<=100/\∀o H',À H H'->R g cs ps ss o->Q (unV o) H'
def Pk:Int->UV->UV->UV->Option Nat->Prop:=λg cs ps ss o=>jn 100 (vC g cs ps ss) o
theorem Pn:Ã ["book","growth"] ["book","growth"] (aD (top 68)):=ö
theorem HN(F:ã K "met_by" "met_by" (top 68) f fd)(c1:å P w K mg base 7 "refuse_no_book" ["thing"] Hn)(c2:å P w K mg base 3 "refuse_no_growth" ["thing"] HF)(c3:å P w K mg base 11 "year_of_all" ["book","growth"] HJ):Ñ P w K mg base ä 12 f fd ["book","growth"] (Pj Pk):=by refine F.oq Pn λai A outer s H vs Q E hr h=>?_;obtain⟨S,bk,g,d,ac,xc,cs,ap,xp,ps,ar,xs,ss,rfl,th,hz,hb,B,okc,ij,g0,g1,q⟩:=h;refine⟨_,aC (cB (aH c1 hr (au (pv 0) ao))) (aC (cB (aH c2 hr (au (pv 1) ao))) (aF (aQ (aH c3 hr (au (pv 0) (au (pv 1) ao)))))),?_⟩;refine aP ?_;refine⟨_,rfl,S,_,d,rfl,th,hz,hb,λH1 s1=>?_⟩;dsimp only;refine aP ?_;refine⟨_,rfl,g,rfl,g0,g1,λH2 s2=>?_⟩;dsimp only;exact⟨_,rfl,_,rfl,bk,g,ac,xc,cs,ap,xp,ps,ar,xs,ss,rfl,(B.same s1).same s2,okc,ij,g0,g1,λo H3 s3 h=>q o _ ((s1.trans s2).trans s3) h⟩
def QF(Cs:Nat->Addr)(o:Option Nat)(R:VK->Hp->Prop)(H:Hp)(Q:VK)(E:XK):Prop:=(∀j,o=some j->∀a H',À H H'->H' a=none->E (.ref a) (some (Cs j)) H')/\(o=none->R Q H)
def QG:VK->Hp->Prop:=λQ H=>∀H',À H H'->Q .non H'
def τ(d:PyData):Option Nat:=if j6 d=false then some 3 else none
def BW(d:PyData):Option Nat:=if gh d (-100) 100=false then some 8 else none
def JZ(Cs:Nat->Addr)(k:PyData->Option Nat):Sp:=λvs H Q E=>∃S v d,vs=[v]/\Ó S H v d/\sz d<=4000/\QF Cs (k d) QG H Q E
def HQ(Cs:Nat->Addr):Sp:=λvs H Q E=>∃S v d vy y j,vs=[v,vy]/\Ó S H v d/\sz d<=4000/\Ó S H vy y/\sz y<=4000/\(τ d=some j\/(τ d=none/\BW y=some j))/\∀a H',À H H'->H' a=none->E (.ref a) (some (Cs j)) H'
section
theorem HR(F:ã K "refuse_no_book" "refuse_no_book" (top 44) f fd)(O3:PyProof.Rows.OwnCls "NoBook" (Cs 3) VE "ValueError.__new__" mg base)(c1:å P w K mg base 6 "is_book" ["thing"] (Ĕ j6)):Ñ P w K mg base (Ŵ P w) 7 f fd ["thing"] (JZ Cs τ):=by refine F.oqX Kw λai A outer s H vs Q E hr h=>?_;obtain⟨S,v,d,rfl,th,hz,q1,q2⟩:=h;refine⟨_,aF (bU (bH (cA (aH c1 hr (aK (pv 0) ao)))) (aF (wQ O3 PySem.F.excBase_ValueError rfl rfl rfl (au pI ao) oY)) bj),?_⟩;refine⟨_,rfl,S,v,d,rfl,th,hz,λH1 s1=>⟨_,rfl,?_⟩⟩;cases e:j6 d with|true=>exact bA (q2 (Ë (by rw[e];decide)) _ s1);|false=>exact bx ⟨by decide,λa ha=>q1 3 (Í e) a _ s1 ha⟩
theorem HS(F:ã K "refuse_no_growth" "refuse_no_growth" (top 65) f fd)(N:NG mg)(O8:PyProof.Rows.OwnCls "NoGrowth" (Cs 8) VE "ValueError.__new__" mg base)(c1:å P w K mg base 2 "is_whole_from" ["thing","least","most"] (jX gh)):Ñ P w K mg base (Ŵ P w) 3 f fd ["thing"] (JZ Cs BW):=by refine F.oqX Ph λai A outer s H vs Q E hr h=>?_;obtain⟨S,v,d,rfl,th,hz,q1,q2⟩:=h;obtain⟨t1,e1⟩:=N.least;obtain⟨t2,e2⟩:=N.mostg;refine⟨_,aF (bU (bH (cA (aH c1 hr (aK (pv 0) (aK (cg (v:=.int (-100)) rfl e1 ⟨_,rfl⟩) (aK (cg (v:=.int 100) rfl e2 ⟨_,rfl⟩) ao)))))) (aF (wQ O8 PySem.F.excBase_ValueError rfl rfl rfl (au pI ao) oY)) bj),?_⟩;refine⟨_,rfl,S,v,d,-100,100,rfl,th,hz,λH1 s1=>⟨_,rfl,?_⟩⟩;cases e:gh d (-100) 100 with|true=>exact bA (q2 (Ë (by rw[e];decide)) _ s1);|false=>exact bx ⟨by decide,λa ha=>q1 8 (Í e) a _ s1 ha⟩
theorem K1(F:ã K "met_by" "met_by" (top 68) f fd)(c1:Ho P w K mg base 7 "refuse_no_book" ["thing"] (JZ Cs τ))(c2:Ho P w K mg base 3 "refuse_no_growth" ["thing"] (JZ Cs BW)):Ñ P w K mg base (Ŵ P w) 8 f fd ["book","growth"] (HQ Cs):=by
 refine F.oqX Pn λai A outer s H vs Q E hr h=>?_;obtain⟨S,v,d,vy,y,j,rfl,th,hz,ty,zy,kj,q1⟩:=h;refine⟨_,aC (cB (pC (E:=E) c1 hr Û rfl oY rfl (au (pv 0) ao))) (aC (cB (pC (E:=E) c2 hr Û rfl oY rfl (au (pv 1) ao))) mW),?_⟩;refine aP ⟨_,rfl,S,v,d,rfl,th,hz,λj' hj a H' s' ha=>?_,λkn H1 s1=>cZ (aP ⟨_,rfl,S,vy,y,rfl,ty.same s1,zy,λj' hj a H' s' ha=>?_,λkg=>?_⟩)⟩
 .rcases kj with kj|⟨kj,_⟩;.rw[kj]at hj;cases hj;exact q1 a H' s' ha
  .rw[kj]at hj;cases hj
 .rcases kj with kj|⟨_,kj⟩;.rw[kj]at kn;cases kn
  .rw[kj]at hj;cases hj;exact q1 a H' (s1.trans s') ha
 .rcases kj with kj|⟨_,kj⟩;.rw[kj]at kn;cases kn
  .rw[kj]at kg;cases kg
end
theorem Lk.all{cs ps ss M:UV}(okp:∀r∈ps,ě r)(g:Lk cs ps ss y M):aU M=aO cs ps ss y 3:=by rw[jF λr hr=>by obtain⟨p,_,ep,op⟩:=gB okp (g.ok r hr).2.1 (g.ok r hr).2.2.1;unfold bz;rw[ep];exact op.2.2.1,g.sm 0 Û,g.sm 1 Û,g.sm 2 Û];show _=0+oS cs ps ss y 0+oS cs ps ss y 1+oS cs ps ss y 2;rw[Int.zero_add]
def mV(M:UV):UV:=M.filter λr=>decide (0<fl r 3)
theorem BX:∀{M:UV},(∀r∈M,0<=fl r 3)->aU (mV M)=aU M
 |[],_=>rfl|r::M,h=>by
  have ih:=BX λq hq=>h q (.tail _ hq);have h0:=h r (.head _);have es:aU (r::M)=fl r 3+aU M:=rfl;rw[es,<-ih];unfold mV;by_cases hp:0<fl r 3;.rw[zBg (p:=λr=>decide (0<fl r 3)) (ð hp)];rfl
  .rw[zBf (p:=λr=>decide (0<fl r 3)) (by rw[Ć];exact hp)];lia
theorem Lk.pos(g:Lk cs ps ss y M):Lk cs ps ss y (mV M):=by have m:∀{r},r∈mV M->r∈M:=λhr=>(δ.mp hr).1;refine⟨(List.filter_sublist.map _).nodup g.kd,λr hr=>g.ok r (m hr),λr hr=>g.yr r (m hr),λs hs=>?_,ŝ (List.length_filter_le _ _) g.len⟩;rw[<-g.sm s hs,<-BX (M:=bu ps M s) λr hr=>(g.ok r (δ.mp hr).1).2.2.2.1];unfold mV bu;rw[List.filter_filter,List.filter_filter];congr 1;exact List.filter_congr λr _=>Bool.and_comm _ _
theorem Lk.pm(g:Lk cs ps ss y M)(p:M'.Perm M):Lk cs ps ss y M':=⟨(p.map _).nodup_iff.mpr g.kd,λr hr=>g.ok r (p.mem_iff.mp hr),λr hr=>g.yr r (p.mem_iff.mp hr),λs hs=>(za ((p.filter _).map _)).trans (g.sm s hs),by rw[p.length_eq];exact g.len⟩
theorem BZ{M:UV}{r:WF}(e:H d=some (.frz o (.dT (M.map ý))))(nd:(M.map Ì).Nodup)(hr:r∈M)(eb:H b=some (.tup ((Ì r).map V.int))):Ē H d (.ref b) (some (.int (fl r 3))):=by have:=qQ (vo nd) (ñ.mpr ⟨r,hr,rfl⟩);rw[<-this];exact .inr ⟨_,_,b,.inr ⟨o,e⟩,rfl,by rw[eb,Ĳ];rfl,rfl⟩
def Ψ(H:Hp)(l:Č)(M:UV):Prop:=l.length=M.length/\∀(j:Nat)kv,(M.map ý)[j]?=some kv->∃a b,l[j]?=some a/\H a=some (.tup [.ref b,kv.2])/\H b=some (.tup (kv.1.map kV))
theorem Ψ.keep(h:Ψ H l M)(k:∀b z,H b=some (.tup z)->H' b=some (.tup z)):Ψ H' l M:=⟨h.1,λj kv e=>by obtain⟨a,b,e1,e2,e3⟩:=h.2 j kv e;exact⟨a,b,e1,k _ _ e2,k _ _ e3⟩⟩
theorem Ψ.app(h:Ψ H l M)(ea:H a=some (.tup [.ref b,.int (fl r 3)]))(eb:H b=some (.tup ((Ì r).map V.int))):Ψ H (l++[a]) (M++[r]):=by
 refine⟨by rw[õ,õ,h.1];rfl,λj kv e=>?_⟩;rw[ô]at e;by_cases hj:j<M.length;.rw[zBd (by rw[Ø];exact hj)]at e;obtain⟨a,b,e1,e2⟩:=h.2 j kv e;exact⟨a,b,by rw[zBd (by rw[h.1];exact hj)];exact e1,e2⟩
 .have Nw:j=M.length:=by have:=(ĵ.mp e).1;rw[õ,Ø]at this;simp at this;lia
  subst Nw;rw[zBc (by rw[Ø];exact ß _),Ø,Nat.sub_self]at e;cases e;exact⟨a,b,by rw[<-h.1,zBc (ß _),Nat.sub_self];rfl,ea,by rw[eb];unfold ý;rw[Ĳ];rfl⟩
inductive ϸ(vs:List V)(H:Hp)(Q:VK):Prop|mk:∀ac xc cs ap xp ps ar xs ss g,(vs=[.ref ac,.ref ap,.ref ar,.int g])->(È H ac xc cs)->((∀r∈cs,okC r))->(1<=cs.length)->(cs.length<=20)->(È H ap xp ps)->(ps.length<=10)->((∀r∈ps,ě r))->(È H ar xs ss)->(ss.length<=12)->((∀s∈ss,s.length=5))->(un ps ss=none)->(-100<=g)->(g<=100)->(∀o H',À H H'->jn 100 (vC g cs ps ss) o->Q (unV o) H')->ϸ  vs H Q
def Kz:Sp:=λvs H Q _=>ϸ  vs H Q
theorem zK:bootBuiltins "dict"=some (.type "dict"):=by decide+kernel
theorem QH:([ř,AAs]:ó).Nodup:=by decide+kernel
theorem QJ:(["_law_promise"]:ó).Nodup:=by decide+kernel
theorem Pq:([ř,AAr]:ó).Nodup:=by decide+kernel
theorem ſ:Ã [AAt,ć,ŵ,AAs,"_law_grown","_law_last",Ň,AAr,ο,ABg] [AAt,ć,ŵ,AAs] (aD (top 99)):=ö
theorem MK(F:ã K "_law_met" "_law_met" (top 99) f fd)(T:Mg mg)(Te:mg "enumerate"=none)(Tl:mg "list"=none)(Tm:mg "max"=none)(Ts:mg "sum"=none)(Td:mg "dict"=none)(c1:å P w K mg base 2 ABf [ć,ŵ] vz)(c2:å P w K mg base 2 "_law_year" [ć,Ň,AAr,ο,ABg] Bx):Ñ P w K mg base ä 3 f fd [AAt,ć,ŵ,AAs] Kz:=by
 refine F.oq ſ λai A outer s H vs Q E hr h=>?_;obtain⟨ac,xc,cs,ap,xp,ps,ar,xs,ss,g,rfl,rc,okc,ij,lc,rp,lp,okp,rs,ls,h5,hu,g0,g1,q⟩:=h;refine K51P.ok_b (aM (fV 4 ſ.nd ⟨bN iQ rfl Tl lG (au (pv 0) ao)⟩) (aM ⟨vL Ĺ (aZ lO (aG aX rfl T.len PySem.boot_len (au (pv 4) ao)) az (bf _)) (aF (cB (fQ Ŷ Ϯ ϯ d9 (pv 4) (au (bN bR rfl T.tuple Ò (au (bD [ř,AAs] [none,some 3] rfl (dI (pX bT (pv 4) (rY nA az))) (λC fp Á s₂ Õ=>⟨Ö 0 QH,bG,aV jN (aV gP (pv 0) (aV cu az (pv 1))) az⟩) (λC=>cI trivial) ⟨rfl,rfl,rfl,rfl⟩) ao)) ao))))⟩ (aM (fV 5 ſ.nd ⟨aG (kE rfl) rfl Tm uh (au (aV jc (cX (au (aV dG (aG aX rfl T.len PySem.boot_len (au (pv 0) ao)) az) ao)) (bD ["_law_promise"] [none] rfl (dI (pv 1)) (λC fp Á s₂ Õ=>⟨Ö 0 QJ,bG,pX (K51P.ix_tupK (K:=K) rfl) (pv 0) az⟩) (λC=>trivial) ⟨rfl,rfl,rfl,rfl⟩)) ao)⟩) (aM ⟨d7 (bW (au (pX bQ (aH c1 hr (au (pv 1) (au (pv 2) ao))) az) (au qd ao))) (cj rfl (aA (Ö 6 ſ.nd) (aA (bJ (i:=7) ſ.nd rfl (Or.inr rfl)) aY)))⟩ (aM ⟨cP Ĺ rfl (ZT.pi_enum false rfl Te (au (pv 4) ao)) (cj rfl (aA (Ö 8 ſ.nd) (aA (Ö 9 ſ.nd) aY))) (jZ (aM ⟨cB (aH c2 hr (au (pv 1) (au (pv 6) (au (pv 7) (au (pv 8) (au (pv 9) ao))))))⟩ (aM ⟨bU (PW.pt (pJ (aZ vN (pv 8) (pv 5) (bf _)) (lK (aZ ig (aG (dB rfl) rfl Ts ê (au (yS (bD [ř,AAr] [none,some 7] rfl (uR (pv 7)) (λC fp Á s₂ Õ=>⟨Ö 0 Pq,bG,gr (fU hr) (pv 1) (pv 0) (λ_ _=>rfl)⟩) (λC=>cI trivial) ⟨rfl,rfl,rfl,rfl⟩)) ao)) az (bf _))))) (aF (aQ (pv 8))) bj⟩ (cF (uL (i:=7) ſ.nd rfl (Or.inr rfl) ⟨bN (DI.call_dictT rfl hr.units) rfl Td zK (au (yS (bD [ř,AAr] [none,some 7] rfl (uR (pv 7)) (λC fp Á s₂ Õ=>⟨Ö 0 Pq,iB (aZ jr (gr (fU hr) (pv 1) (pv 0) (λ_ _=>rfl)) az (bf _)),bW (au (pv 0) (au (gr (fU hr) (pv 1) (pv 0) (λ_ _=>rfl)) ao))⟩) (λC=>cI trivial) ⟨rfl,rfl,rfl,rfl⟩)) ao)⟩)))))⟩ (cF (gQ ⟨j9⟩))))))) ?_;have Wl:=rc.th;have fy:cs≠[]:=λz=>by rw[z]at ij;exact absurd ij Û
 cases Wl with|@tup _ xs0 ds ea r=>
 refine aN λc_ ae=>?_;refine aW ?_;refine⟨_,rfl,ac,xs0,rfl,Î.of ea,λp hp np=>?_⟩;refine aJ ?_;refine ae _ _ ?_;clear ae c_;try dsimp only
 refine aP ?_;have len0:=r.length;rw[Ø]at len0;have RA:=vB okc;refine⟨λm σ H'=>∃i ys,m=(100-cs.length)-i/\i<=100-cs.length/\σ=[some (.ref ac),some (.ref ap),some (.ref ar),some (.int g),some (.ref p),none,none,none,none,none]/\(∀b o,b≠p->H b=some o->H' b=some o)/\H' p=some (.lst ys)/\Ä (λ_=>False) H' ys ((gi g cs i).map cJ),⟨_,0,xs0,rfl,ĥ _,rfl,λb o n e=>by rw[aq n];exact e,aj,?_⟩,?_⟩;.exact(qY (S':=λ_=>False) r).keep (λc l e=>by rw[aq (aB e hp)];exact e) (λ_ _ z _=>z.elim) λ_ _ z _=>z.elim
 .rintro m σ H'⟨i,ys,rfl,hi,rfl,kp,ep,it⟩;have ly:=it.length;rw[Ø,jJ]at ly;refine⟨_,rfl,p,ys,rfl,.inl (Ê.of ep),_,_,rfl,rfl,_,rfl,?_⟩;refine jW (λc=>?_) (λc=>?_)
  .have c:=ŭ c;have c:(ys.length:Int)<100:=c;refine⟨λah sR=>∃de,ah=[some (.ref ac),some (.ref ap),some (.ref ar),some (.int g),some (.ref p),none,none,none,none,none]/\(∀b o,b≠p->H b=some o->sR b=some o)/\sR p=some (.lst de)/\Ä (λ_=>False) sR de ((gi g cs (i+1)).map cJ),λah sR⟨de,e1,e2,e3,e4⟩=>⟨100-cs.length-(i+1),Â,i+1,de,rfl,Â,e1,e2,e3,e4⟩,?_⟩;have ne:gi g cs i≠[]:=λz=>by have:=jJ g cs i;rw[z]at this;simp at this;lia
   obtain⟨t,e5,e6⟩:=uf it ne;have lr:((gi g cs i).getLastD []).length=3:=(ue g0 g1 RA fy i _ (qX ne)).1;refine⟨_,rfl,.inl ⟨rfl,_,Ê.of ep⟩,_,rfl,1,rfl,p,ys,-1,.ref t,rfl,rfl,Ê.of ep,e5,t,rfl,⟨_,Î.of e6⟩,BR e6 lr g0 g1 λD hD=>⟨D,_,rfl,.inl ⟨Ê.of aj,λl hl=>?_⟩⟩⟩;have sm:À H' (upd (upd H' D (.lst ((up g ((gi g cs i).getLastD [])).map V.int))) l (.tup ((up g ((gi g cs i).getLastD [])).map V.int))):=(À.upd hD).updR hl;have NN:l≠p:=λz=>by rw[z,À.upd hD _ _ ep]at hl;cases hl
   refine⟨p,ys,.ref l,rfl,rfl,sm _ _ ep,by rw[sizeLine_eq];lia,?_⟩;refine⟨ys++[.ref l],rfl,λb o n e=>?_,aj,?_⟩;.rw[aq n];exact sm _ _ (kp b o n e)
   .show Ä _ _ _ ((gi g cs i++[up g ((gi g cs i).getLastD [])]).map cJ);rw[ô];refine Ä.append ?_ (.cons (.tup (by rw[aq NN];exact aj) (Ä.ints _)) .nil);exact(it.same sm).keep (λc l' e'=>by rw[aq λz=>by rw[z,sm _ _ ep]at e';cases e'];exact e') (λ_ _ z _=>z.elim) λ_ _ z _=>z.elim
  .have c:¬(ys.length:Int)<100:=λz=>c (ð z);have ei:i=100-cs.length:=Â;subst ei;have sH:À H H':=λb o e=>kp b o (aB e hp) e;clear kp r ea;have BC:∀r∈gi g cs (100-cs.length),r.length=3/\∀x∈r,0<=x:=λr hr=>(let o:=ue g0 g1 RA fy (100-cs.length) r hr;⟨o.1,λx hx=>(o.2 x hx).1⟩);have gl:(gi g cs (100-cs.length)).length=100:=by rw[jJ];lia
   have pV:∀j,vC g cs ps ss j↔(cs.length<=j+1/\(∀p∈ps,fl p 3<=(j:Int))/\aO (gi g cs (100-cs.length)) ps ss (j+1) 3=0):=λj=>Iff.rfl;have rows:∀j,j<100->∃t,ys[j]?=some (.ref t)/\H' t=some (.tup (((gi g cs (100-cs.length)).getD j []).map V.int)):=λj hj=>by obtain⟨d,hd,tv⟩:=it.get (à (by lia:j<ys.length));rw[ċ,à Â]at hd;cases hd;generalize ev:ys[j]=v at tv;cases tv with|tup e r=>refine⟨_,by rw[à Â,ev],?_⟩;rw[pF r]at e;rw[á Â];exact e
   generalize gi g cs (100-cs.length)=G at BC gl pV rows;clear it;have Wm:ys.length=100:=Â;dsimp only;refine aN λc_ ae=>?_;refine aW ?_;have lx:=rc.l;have Wf:=rp.l;refine⟨_,rfl,ac,xc,rfl,.inr (Î.of (sH _ _ rc.e)),_,_,rfl,rfl,zL,λl1 ej=>?_⟩;have s1:=À.upd (o:=.lst [V.int ((xc.length:Int)-1)]) ej;have ń:=aj (H:=H') (a:=l1) (o:=.lst [V.int ((xc.length:Int)-1)]);generalize upd H' l1 (.lst [V.int ((xc.length:Int)-1)])=H1 at s1 ń⊢;have kQ:=rp.same (sH.trans s1);refine⟨_,rfl,ap,rfl,⟨_,Î.of kQ.e⟩,dD ps.length (λi ys σ Hc=>Hc=H1/\(∃o1,σ=[o1])/\ys=((ps.take i).map λr=>fl r 3).map V.int) ⟨rfl,⟨_,rfl⟩,rfl⟩ ŷ ?_ ?_⟩
   .rintro i ys σ Hc hi hy⟨rfl,⟨o1,rfl⟩,rfl⟩;obtain⟨t,ex,et⟩:=kQ.g i ps[i] (à hi);have cb:ps.take (i+1)=ps.take i++[ps[i]]:=by rw[ī,à hi];rfl
    have l6:=(okp _ (Ě hi)).1;refine⟨⟨_,_,Î.of kQ.e,ex⟩,λv H' y' R' NO=>?_⟩;obtain⟨rfl,y'⟩:=y';have hv:=y' _ (Î.of kQ.e);rw[ex]at hv;cases hv;refine aJ ?_;refine⟨_,rfl,t,_,3,_,rfl,rfl,Î.of et,fj (j:=3) (mK Â),NO _ _ _ ⟨rfl,⟨_,rfl⟩,?_⟩⟩;rw[cb,ô,ô];rfl
   rintro yc σ Hc hy⟨rfl,_,rfl⟩;rw[ł];refine⟨⟨_,Î.of kQ.e,Â⟩,λD hD=>?_⟩;have s2:=À.upd (o:=.lst ((ps.map λr=>fl r 3).map V.int)) hD;have eD:=aj (H:=Hc) (a:=D) (o:=.lst ((ps.map λr=>fl r 3).map V.int));generalize upd Hc D (.lst ((ps.map λr=>fl r 3).map V.int))=H2 at s2 eD⊢;refine⟨l1,D,_,_,rfl,rfl,s2 _ _ ń,eD,by rw[Ø,Ø,sizeLine_eq];show 1+_<=_;lia,λl2 eR=>⟨l2,((xc.length:Int)-1)::ps.map λr=>fl r 3,rfl,Ê.of aj,by simp,λM hM hm=>?_⟩⟩;have s3:=(s1.trans s2).trans (À.upd (o:=.lst ([V.int ((xc.length:Int)-1)]++(ps.map λr=>fl r 3).map V.int)) eR);generalize upd H2 l2 (.lst ([V.int ((xc.length:Int)-1)]++(ps.map λr=>fl r 3).map V.int))=H3 at s3⊢;refine aJ ?_;refine ae _ _ ?_;clear ae c_;try dsimp only
   clear s2 eD ń hD eR kQ s1 ej;have HV:=sH.trans s3;have GW:=rp.same HV;have E6:∀i:Nat,decide (M<=(i:Int))=true↔(cs.length<=i+1/\∀p∈ps,fl p 3<=(i:Int)):=λi=>by
    rw[Ć];constructor;.intro h;have a1:=hm _ (.head _);refine⟨Â,λp hp=>?_⟩;have:=hm (fl p 3) (.tail _ (ñ.mpr ⟨p,hp,rfl⟩));lia
    .rintro⟨h1,h2⟩;rcases ĩ.mp hM with z|z;.lia
     .obtain⟨p,hp,rfl⟩:=ñ.mp z;exact h2 p hp
   clear hM hm;refine aN λc_ ae=>?_;refine⟨_,rfl,_,rfl,ap,xp,ps,ar,xs,ss,rfl,GW,lp,okp,rs.same HV,Â,h5,λtt fo H4 s4 HM mB=>⟨tt,_,0,.ref fo,rfl,rfl,Î.of HM,rfl,λlk pd=>⟨zL,λt3 RB=>⟨t3,_,rfl,Î.of aj,rfl,_,_,rfl,_,_,rfl,rfl,?_⟩⟩⟩⟩;obtain⟨b,kvs,dt⟩:=mB hu;have dt:Į fo H3 H4 (Ź ps) (tZ ps ss) b kvs:=dt;have u2:=À.upd (o:=.dT []) pd;have u3:=À.upd (o:=.tup [.ref fo,.ref lk]) RB;have lT:H3 lk=none:=s4.free pd;have nf:fo≠lk:=aB dt.e pd;refine ae _ _ ?_;clear ae c_;try dsimp only
   refine fZ (λH5=>À H3 H5/\ĸ H5 lk []/\Į fo H3 H5 (Ź ps) (tZ ps ss) b kvs) ⟨(s4.trans u2).trans u3,⟨[],u3 _ _ aj,List.Perm.refl _⟩,(dt.same u2).same u3⟩ λH5=>?_;rintro⟨S5,Wn,Wo⟩;clear dt u2 u3 pd RB HM mB s4;have RC:=s3 _ _ ep;refine aP ?_;refine⟨_,rfl,p,ys,rfl,Ê.of (S5 _ _ RC),?_⟩;refine ZT.for_enum false (xs:=ys) (λi σ Hc=>Xe4 λx8 x9 lk M'=>Xa8 (σ=[some (.ref ac),some (.ref ap),some (.ref ar),some (.int g),some (.ref p),some (.int M),some (.ref fo),some (.ref lk),x8,x9]) (À H3 Hc) (ĸ Hc lk M') (Lk G ps ss i M') (Į fo H3 Hc (Ź ps) (tZ ps ss) b kvs) (fo≠lk) (H3 lk=none) (∀j,j<i->¬vC g cs ps ss j)) ?_ ?_ ?_ ?_;.exact⟨none,none,lk,[],rfl,S5,Wn,⟨List.nodup_nil,λr hr=>(by cases hr),λr hr=>(by cases hr),λ_ _=>rfl,ß _⟩,Wo,nf,lT,λj hj=>absurd hj (Za7 _)⟩
   .rintro i σ Hc hi⟨x8,x9,lk,M',rfl,k,_⟩;exact Ê.of (k _ _ RC)
   .rintro i x σ Hc T0 hx⟨x8,x9,lk,M',rfl,k,la,GY,dt,nf,lT,hh⟩nT;have hi:i<100:=by have:=(ĵ.mp hx).1;lia
    obtain⟨tc,fR,se⟩:=rows i hi;have:x=.ref tc:=by rw[hx]at fR;exact ŗ fR
    subst this;have ec:G.getD i []∈G:=by rw[á Â];exact Ě _
    have sT:=À.upd (o:=.tup [V.int i,V.ref tc]) nT;have k1:=k.trans sT;have HZ:=la.same sT;have pE:=dt.same sT;have eT:=aj (H:=Hc) (a:=T0) (o:=.tup [V.int i,V.ref tc]);generalize upd Hc T0 (.tup [V.int i,V.ref tc])=H1 at k1 HZ pE eT⊢;clear dt la sT k nT;refine⟨T0,_,rfl,Î.of eT,rfl,_,_,rfl,_,_,rfl,rfl,?_⟩;try dsimp only
    refine aN λc_ ae=>?_;refine⟨_,rfl,_,rfl,_,rfl,_,rfl,_,rfl,ap,xp,ps,fo,H3,b,kvs,lk,M',i,tc,G,ss,rfl,GW.same k1,lp,okp,pE,nf,lT,HZ,GY,hi,k1 _ _ (s3 _ _ se),(BC _ ec).1,(BC _ ec).2,hu,h5,λt g' tl M2 H2 kb et RD RE=>?_⟩;have k2:À H3 H2:=λb o e=>kb _ _ (aB e lT) (k1 _ _ e);obtain⟨_,E7,_⟩:=id HZ;have RF:=pE.but kb nf lT E7;obtain⟨Mo,iP,BA⟩:=id RD;have lo:=RE.pm BA;clear pE HZ kb k1 E7 et RD RE BA eT;refine ae _ _ ?_;clear ae c_;try dsimp only
    have VN:Mo.length<=24000:=by have:=lo.len;lia
    refine aN λc_ ae=>?_;have go:∀Hx,À H2 Hx->¬vC g cs ps ss i->c_ [some (.ref ac),some (.ref ap),some (.ref ar),some (.int g),some (.ref p),some (.int M),some (.ref fo),some (.ref lk),some (.int i),some (.ref tc)] Hx:=λHx sx nm=>by
     refine ae _ _ ?_;clear ae c_;try dsimp only
     refine aW ?_;have RG:=sx _ _ iP;refine⟨lk,_,RG,λo=>?_⟩;have ez:=aj (H:=Hx) (a:=lk) (o:=.frz o (.dT (Mo.map ý)));have sz:∀b u,b≠lk->Hx b=some u->upd Hx lk (.frz o (.dT (Mo.map ý))) b=some u:=λb u n e=>by rw[aq n];exact e
     generalize upd Hx lk (.frz o (.dT (Mo.map ý)))=Hz at ez sz⊢;refine⟨_,rfl,lk,o,_,rfl,ez,gK Mo.length (λj ys σ Hd=>À Hz Hd/\(∃o1,σ=[o1,some (.ref lk)])/\∃l:Č,ys=l.map V.ref/\Ψ Hd l (mV (Mo.take j))) ⟨À.refl _,⟨_,rfl⟩,[],rfl,rfl,λj kv e=>(by simp[mV]at e)⟩ ŷ ?_ ?_⟩
     .rintro j ys σ Hd hj hy⟨sd,⟨o1,rfl⟩,l,rfl,pr⟩;have cb:mV (Mo.take (j+1))=mV (Mo.take j)++(if 0<fl Mo[j] 3 then[Mo[j]]else[]):=by
       rw[ī,à hj,show(some Mo[j]).toList=[Mo[j]]from rfl];unfold mV;rw[Zaz];congr 1;by_cases h:0<fl Mo[j] 3;.rw[Í h,zBg (p:=λ(r:WF)=>decide (0<fl r 3)) (ð h)];rfl
       .rw[Ë h,zBf (p:=λ(r:WF)=>decide (0<fl r 3)) (by rw[Ć];exact h)];rfl
      refine⟨⟨sd _ _ ez,by rw[Ø];exact hj⟩,λx H' yv R hR=>?_⟩;obtain⟨rfl,bb,kk,vv,rfl,wa,kS⟩:=yv;rw[ċ,à hj]at wa;cases wa;have kS:H' bb=some (.tup ((Ì Mo[j]).map V.int)):=kS;have gt:=BZ (sd _ _ ez) lo.kd (Ě hj) kS;refine aJ ?_;refine⟨_,rfl,_,rfl,lk,_,rfl,gt,_,_,rfl,rfl,_,rfl,?_⟩;by_cases h:0<fl Mo[j] 3;.rw[ð h];refine bx ⟨_,rfl,_,rfl,_,rfl,lk,_,rfl,gt,zL,λt1 pj=>?_⟩;have s1:=À.upd (o:=.tup [.ref bb,V.int (fl Mo[j] 3)]) pj;refine hR _ _ _ (by rw[õ];show _+1<=j+1;lia) ⟨sd.trans s1,⟨_,rfl⟩,l++[t1],by rw[ô];rfl,?_⟩;rw[cb,Í h];exact(pr.keep λb z e=>s1 _ _ e).app aj (s1 _ _ kS)
      .rw[Ĝ h];refine bA (hR _ _ _ Â ⟨sd,⟨_,rfl⟩,l,rfl,?_⟩);rw[cb,Ë h,Ś];exact pr
     rintro ys σ Hd hy⟨sd,_,l,rfl,pr⟩;rw[ł]at pr;refine⟨⟨sd _ _ ez,by rw[Ø];exact ß _⟩,λD hD=>⟨À.upd hD _ _ (sd _ _ ez),?_⟩⟩;have nD:D≠lk:=λz=>by rw[z,sd _ _ ez]at hD;cases hD
     have S6:À Hx (upd (upd Hd D (.lst (l.map V.ref))) lk (.dT (Mo.map ý))):=λb u e=>by
      by_cases hb:b=lk;.subst hb;rw[RG]at e;cases e;exact aj
      .rw[aq hb];exact À.upd hD _ _ (sd _ _ (sz _ _ hb e))
     have eD:upd (upd Hd D (.lst (l.map V.ref))) lk (.dT (Mo.map ý)) D=some (.lst (l.map V.ref)):=by rw[aq nD];exact aj
     have sF:upd Hd D (.lst (l.map V.ref)) lk=some (.frz o (.dT (Mo.map ý))):=À.upd hD _ _ (sd _ _ ez);have NU:Ψ (upd (upd Hd D (.lst (l.map V.ref))) lk (.dT (Mo.map ý))) l (mV Mo):=pr.keep λb z e=>by rw[aq λw=>by rw[w,sd _ _ ez]at e;cases e];exact À.upd hD _ _ e
     generalize upd (upd Hd D (.lst (l.map V.ref))) lk (.dT (Mo.map ý))=H6 at S6 eD NU⊢;clear pr sd sz ez hD sF;refine⟨D,l,(mV Mo).map ý,rfl,eD,by rw[Ø];exact NU.1,vo lo.pos.kd,NU.2,λnk NV _=>?_⟩;refine aJ ?_;have S7:=(sx.trans S6).trans (À.upd (o:=.dT ((mV Mo).map ý)) NV);have Wq:=RF.same S7;refine⟨_,_,nk,mV Mo,rfl,k2.trans S7,⟨_,aj,List.Perm.refl _⟩,lo.pos,Wq,aB ((RF.same (sx.trans S6)).e) NV,(k2.trans (sx.trans S6)).free NV,λj hj=>?_⟩;rcases Nat.lt_or_ge j i with z|z;.exact hh j z
     .have:j=i:=Â;rw[this];exact nm
    refine⟨_,rfl,_,rfl,_,_,rfl,rfl,_,rfl,?_⟩;refine jW (λc=>?_) (λc=>?_)
    .have cM:=(E6 i).mp c;refine⟨lk,_,iP,λo=>?_⟩;have ez:=aj (H:=H2) (a:=lk) (o:=.frz o (.dT (Mo.map ý)));have sz:∀b u,b≠lk->H2 b=some u->upd H2 lk (.frz o (.dT (Mo.map ý))) b=some u:=λb u n e=>by rw[aq n];exact e
     generalize upd H2 lk (.frz o (.dT (Mo.map ý)))=Hz at ez sz⊢;refine⟨_,rfl,lk,o,_,rfl,ez,dD Mo.length (λj ys σ Hd=>Hd=Hz/\(∃o1,σ=[o1,some (.ref lk)])/\ys=(Ċ (Mo.take j)).map V.int) ⟨rfl,⟨_,rfl⟩,rfl⟩ ŷ ?_ ?_⟩;.rintro j ys σ Hd hj hy⟨rfl,⟨o1,rfl⟩,rfl⟩;refine⟨⟨ez,by rw[Ø];exact hj⟩,λx H' yv R hR=>?_⟩;obtain⟨rfl,bb,kk,vv,rfl,wa,kS⟩:=yv;rw[ċ,à hj]at wa;cases wa;have kS:H' bb=some (.tup ((Ì Mo[j]).map V.int)):=kS;refine aJ ?_;refine⟨_,rfl,_,rfl,lk,_,rfl,BZ ez lo.kd (Ě hj) kS,hR _ _ _ ⟨rfl,⟨_,rfl⟩,?_⟩⟩;rw[ī,à hj];unfold Ċ;rw[ô,ô];rfl
     rintro ys σ Hd hy⟨rfl,_,rfl⟩;rw[ł];refine⟨⟨ez,by rw[Ø];exact ß _⟩,λD hD=>⟨À.upd hD _ _ ez,?_⟩⟩;have nD:D≠lk:=λz=>by rw[z,ez]at hD;cases hD
     have S6:À H2 (upd (upd Hd D (.lst ((Ċ Mo).map V.int))) lk (.dT (Mo.map ý))):=λb u e=>by
      by_cases hb:b=lk;.subst hb;rw[iP]at e;cases e;exact aj
      .rw[aq hb];exact À.upd hD _ _ (sz _ _ hb e)
     have eD:upd (upd Hd D (.lst ((Ċ Mo).map V.int))) lk (.dT (Mo.map ý)) D=some (.lst ((Ċ Mo).map V.int)):=by rw[aq nD];exact aj
     generalize upd (upd Hd D (.lst ((Ċ Mo).map V.int))) lk (.dT (Mo.map ý))=H6 at S6 eD⊢;refine⟨D,Ċ Mo,rfl,.inl (Ê.of eD),?_⟩;have eS:(Ċ Mo).sum=aO G ps ss (i+1) 3:=lo.all okp;rw[eS];refine⟨rfl,_,rfl,?_⟩;refine jW (λc2=>?_) (λc2=>?_);.have e0:=ŭ c2;injection e0 with e0;exact⟨_,rfl,q (some i) _ (HV.trans (k2.trans S6)) ⟨hi,(pV i).mpr ⟨cM.1,cM.2,e0⟩,hh⟩⟩
     .exact go _ S6 λm=>c2 (ð (congrArg V.int ((pV i).mp m).2.2))
    .exact go _ (À.refl _) λm=>c ((E6 i).mpr ⟨((pV i).mp m).1,((pV i).mp m).2.1⟩)
   .rintro σ Hc⟨x8,x9,lk,M',rfl,k,la,GY,dt,nf,lT,hh⟩;rw[Wm]at hh;exact q none _ (HV.trans k) hh
def jo(d:PyData):Bool:=cD d&&(decide ((items d).length=5)&&(items d).all bB)
def iI(d:PyData):Bool:=cD d&&(decide ((items d).length<=12)&&(items d).all jo)
def qZ(d:PyData):Bool:=cD d&&(decide ((items d).length=3)&&(iD (part d 0)&&(iG (part d 1)&&(iI (part d 2)&&(un (Ü (part d 1)) (Ü (part d 2))).isNone))))
theorem K4(d:PyData):bK d 5=jo d:=by unfold bK bM jo;rw[Bool.and_assoc];congr 2;rw[Zas,ġ,Ć,Ć,Ć];lia
theorem yg(d:PyData):fX d=iI d:=by unfold fX bM iI;rw[Bool.and_assoc];congr 1;have e:(items d).all (λx=>bK x 5)=(items d).all jo:=congrArg (items d).all (funext K4);rw[e];congr 1;rw[Zas,ġ,Ć,Ć,Ć];lia
theorem K5(d:PyData):j6 d=qZ d:=by unfold j6 bM qZ;rw[Gd,xx,yg,Bool.and_assoc];congr 2;rw[Zas,ġ,Ć,Ć,Ć];lia
theorem Pr:Ã [Ā] [Ā] (aD (top 93)):=ö
theorem yh(F:ã K "_law_is_sale" "_law_is_sale" (top 93) f fd)(T:Mg mg)(c1:å P w K mg base 1 ABa [Ā] (Ĕ bB)):Ñ P w K mg base ä 2 f fd [Ā] (Ĕ jo):=by
 refine F.oq Pr λai A outer s H vs Q E hr h=>?_;obtain⟨S,v,d,rfl,th,hz,q⟩:=h;refine⟨_,aF (aQ (cO (aG bZ rfl T.isinstance É (au (pv 0) (au (dM rfl T.tuple Ò (v:=.ty "tuple") rfl) ao))) (cO (gW ig (aG aX rfl T.len PySem.boot_len (au (pv 0) ao)) az (bf _)) (fD (aG (dh rfl) rfl T.all æ (au (bD [ř] [none] rfl (dI (pv 0)) (λC fp Á s₂ Õ=>⟨bJ (i:=0) (ϧ _) rfl (Or.inl rfl),bG,aH c1 hr (au (pv 0) ao)⟩) (λC=>trivial) ⟨rfl,rfl,rfl,rfl⟩) ao)))))),?_⟩;have fin:=λH'(s:À H H')=>q H' s;unfold jo at fin;refine⟨_,rfl,v,_,"tuple",cD d,rfl,th.ty,gw d,_,rfl,?_⟩
 cases e:cD d with|false=>rw[e]at fin;exact bA (fin H (À.refl H));|true=>rw[e]at fin;refine bx ?_;cases th with|@tup a xs ds ea r=>
   have hl:=r.length;refine⟨_,rfl,a,xs,rfl,.inr (Î.of ea),rfl,_,rfl,?_⟩;have fin:∀H',À H H'->Q (.bl (true&&(decide (ds.length=5)&&ds.all bB))) H':=fin;by_cases e3:ds.length=5;.rw[ð e3]at fin;rw[ð (show V.int (xs.length:Int)=V.int 5 by rw[hl,e3]<;>rfl)];refine bx ?_;exact cH bB rfl ea r (dC r hz) (λv d H2 Q2 hm s2 t2 q2=>⟨_,rfl,S,v,d,rfl,t2,gj hm hz,q2⟩) fin
   .rw[Ĝ e3]at fin;rw[Ĝ (λz:V.int (xs.length:Int)=V.int 5=>e3 (by injection z with z;lia))];exact bA (fin H (À.refl H));|_=>cases e
theorem Pu:Ã [Ā] [Ā] (aD (top 94)):=ö
theorem rW(F:ã K ABl ABl (top 94) f fd)(T:Mg mg)(c1:å P w K mg base 2 "_law_is_sale" [Ā] (Ĕ jo)):Ñ P w K mg base ä 3 f fd [Ā] (Ĕ iI):=by refine F.oq Pu λai A outer s H vs Q E hr h=>?_;obtain⟨S,v,d,rfl,th,hz,q⟩:=h;refine⟨_,aC (bU (PW.pt (gU (bH (cA (aG bZ rfl T.isinstance É (au (pv 0) (au (dM rfl T.tuple Ò (v:=.ty "tuple") rfl) ao))))) (gO (aZ jr (aG aX rfl T.len PySem.boot_len (au (pv 0) ao)) az (bf _))))) (aF (aQ gD)) bj) (aF (aQ (aG (dh rfl) rfl T.all æ (au (bD [ř] [none] rfl (dI (pv 0)) (λC fp Á s₂ Õ=>⟨bJ (i:=0) (ϧ _) rfl (Or.inl rfl),bG,aH c1 hr (au (pv 0) ao)⟩) (λC=>trivial) ⟨rfl,rfl,rfl,rfl⟩) ao)))),?_⟩;have fin:=λH'(s:À H H')=>q H' s;unfold iI at fin;refine⟨_,rfl,v,_,"tuple",cD d,rfl,th.ty,gw d,_,rfl,?_⟩;cases e:cD d with
 |false=>rw[e]at fin;exact bx (bx (fin H (À.refl H)))
 |true=>rw[e]at fin;refine bA ?_;cases th with|@tup a xs ds ea r=>
   have hl:=r.length;refine⟨_,rfl,a,xs,rfl,.inr (Î.of ea),_,_,rfl,rfl,_,rfl,?_⟩;have fin:∀H',À H H'->Q (.bl (true&&(decide (ds.length<=12)&&ds.all jo))) H':=fin;by_cases e3:ds.length<=12;.rw[ð e3]at fin;rw[Ĝ Â];refine bA ?_;exact cH jo rfl ea r (dC r hz) (λv d H2 Q2 hm s2 t2 q2=>⟨_,rfl,S,v,d,rfl,t2,gj hm hz,q2⟩) fin
   .rw[Ĝ e3]at fin;rw[ð Â];exact bx (fin H (À.refl H));|_=>cases e
theorem Px:Ã [Ā] [Ā] (aD (top 95)):=ö
theorem yj(F:ã K "_law_is_book" "_law_is_book" (top 95) f fd)(T:Mg mg)(c1:å P w K mg base 4 ABk [Ā] (Ĕ iD))(c2:å P w K mg base 4 AAz [Ā] (Ĕ iG))(c3:å P w K mg base 3 ABl [Ā] (Ĕ iI))(c4:å P w K mg base 2 ABf [ć,ŵ] zu):Ñ P w K mg base ä 5 f fd [Ā] (Ĕ qZ):=by
 refine F.oq Px λai A outer s H vs Q E hr h=>?_;obtain⟨S,v,d,rfl,th,hz,q⟩:=h;refine⟨_,aC (bU (PW.pt (gU (bH (cA (aG bZ rfl T.isinstance É (au (pv 0) (au (dM rfl T.tuple Ò (v:=.ty "tuple") rfl) ao))))) (gU (aZ rZ (aG aX rfl T.len PySem.boot_len (au (pv 0) ao)) az (bf _)) (gO (bH (cA (aH c1 hr (au (pX bQ (pv 0) az) ao)))))))) (aF (aQ gD)) bj) (aC (bU (PW.pt (gU (bH (cA (aH c2 hr (au (pX bQ (pv 0) az) ao)))) (gO (bH (cA (aH c3 hr (au (pX bQ (pv 0) az) ao))))))) (aF (aQ gD)) bj) (aF (aQ (gW yt (pX bQ (aH c4 hr (au (pX bQ (pv 0) az) (au (pX bQ (pv 0) az) ao))) az) j9 (bf _))))),?_⟩;have fin:=q;unfold qZ at fin;refine aP ?_;refine⟨_,rfl,v,_,"tuple",cD d,rfl,th.ty,gw d,_,rfl,?_⟩
 cases e:cD d with|false=>rw[e]at fin;exact bx (bx (fin H (À.refl H)));|true=>rw[e]at fin;refine bA ?_;cases th with|@tup a xs ds ea r=>
   have hl:=r.length;refine⟨_,rfl,a,xs,rfl,.inr (Î.of ea),rfl,_,rfl,?_⟩;by_cases e3:ds.length=3;.refine Et (by rw[hl,e3]<;>rfl) ?_;obtain⟨v0,v1,v2,d0,d1,d2,rfl,rfl,h0,h1,h2⟩:=tM r e3;have z0:=gj (d:=d0) Ù hz;have z1:=gj (d:=d1) Ù hz;have z2:=gj (d:=d2) Ù hz;have fin:∀H',À H H'->Q (.bl (iD d0&&(iG d1&&(iI d2&&(un (Ü d1) (Ü d2)).isNone)))) H':=fin;refine⟨_,rfl,a,_,0,_,rfl,rfl,Î.of ea,rfl,S,_,d0,rfl,h0,z0,λH2 s2=>⟨_,rfl,?_⟩⟩;cases e0:iD d0 with|false=>rw[e0]at fin;exact bx (fin _ s2);|true=>rw[e0]at fin;refine bA (cZ ?_);dsimp only;refine aP ?_;refine⟨_,rfl,a,_,1,_,rfl,rfl,Î.of (s2 _ _ ea),rfl,S,_,d1,rfl,h1.same s2,z1,λH3 s3=>⟨_,rfl,?_⟩⟩;cases e1:iG d1 with|false=>rw[e1]at fin;exact bx (bx (fin _ (s2.trans s3)));|true=>rw[e1]at fin;refine bA ?_;have Ic:=s2.trans s3;refine⟨_,rfl,a,_,2,_,rfl,rfl,Î.of (Ic _ _ ea),rfl,S,_,d2,rfl,h2.same Ic,z2,λH4 s4=>⟨_,rfl,?_⟩⟩;cases e2:iI d2 with|false=>rw[e2]at fin;exact bx (fin _ (Ic.trans s4));|true=>rw[e2]at fin;refine bA (cZ ?_);dsimp only;have rj:=Ic.trans s4;rw[<-xx]at e1;rw[<-yg]at e2;obtain⟨ep,lp,okp⟩:=qJ e1;obtain⟨es,ls,cw⟩:=qK e2;have fh:=h1.same rj;have AX:=h2.same rj;rw[ep]at fh;rw[es]at AX;obtain⟨ap,xp,rfl,rp⟩:=jl fh;obtain⟨ar,Kt,rfl,rs⟩:=jl AX;refine⟨_,rfl,a,_,1,_,rfl,rfl,Î.of (rj _ _ ea),rfl,_,rfl,a,_,2,_,rfl,rfl,Î.of (rj _ _ ea),rfl,?_⟩;refine⟨ap,xp,_,ar,Kt,_,rfl,rp,lp,okp,rs,Â,cw,λt fo H5 s5 et=>?_⟩;refine⟨t,_,1,unV (un (Ü d1) (Ü d2)),rfl,rfl,Î.of et,rfl,rfl,?_⟩;have:=fin H5 (rj.trans s5);cases eu:un (Ü d1) (Ü d2)with|none=>rw[eu]at this;exact this;|some i=>rw[eu]at this;exact this
   .have ne:¬(V.int (xs.length:Int)=V.int 3):=λz=>by injection z with z;lia
    rw[Ĝ ne];have fin:∀H',À H H'->Q (.bl (true&&(decide (ds.length=3)&&_))) H':=fin;rw[Ĝ e3]at fin;exact bx (bx (fin H (À.refl H)));|_=>cases e
theorem HW{fl:Addr}(kd:ϥ K Cs j)(L:Ų H2 fl fd)(Z:ő fd body N)(C:ņ fd.closure N vs H2 cs)(hN:vs.length=N.length)(run:∀A outer E Q,ì kk A->(∀a H',À H2 H'->H' a=none->E (.ref a) (some (Cs j)) H')->∃te,(∀s,PE (cxL P w K mg base N fd fl A outer s H2 E) body te)/\te (vs.map some) H2 Q)(q:∀p H3,À (fz H2 cs) H3->H3 p=some (.tup [.str (words.getD j "")])->Q (.ref p) H3):zJ P w K mg base Cs kk [.ref fl] (fz H2 cs) Q E0:=by
 have no:NoC cs H2:=C.no;have RH:∀b o,H2 b=some o->fz H2 cs b=some o:=λb o e=>by cases z:cs.lookup b with|some u=>rw[no b u z]at e;cases e;|none=>rw[eQ z];exact e
 refine⟨fl,λ_ _=>False,λa C' H3=>C'=Cs j/\À (fz H2 cs) H3,rfl,⟨fd,body,N,vs,cs,?_,Z,λb o e=>tH e,C.cell,C.val,hN,λA' iS Q' E' gI h1 h2=>?_⟩,λ_ _ h=>h.elim,?_⟩;.obtain⟨⟨o,e1,e2⟩,c,oc,vs,t,a1,a2,a3⟩:=L;exact⟨⟨o,RH _ _ e1,e2⟩,c,oc,vs,t,a1,RH _ _ a2,a3⟩
 .rw[Og no];exact run A' iS _ _ gI λa H' s' na no'=>h2 a (Cs j) (fz H' cs) ⟨rfl,s'.fz⟩
 .rintro a C' H3⟨rfl,s3⟩;exact⟨j,rfl,kd,λfa p H4 s4 e4=>q _ _ (s3.trans s4) e4⟩
theorem Py(j:Nat):PySem.SeqAt.shaped (.tuple [.str (words.getD j "")])=true:=by
 have:PyData.strOk (words.getD j "")=true:=by
  rcases Nat.lt_or_ge j 16 with h|h;.exact(by decide+kernel:∀i,i<16->PyData.strOk (words.getD i "")=true) j h
  .rw[Ĭ,Zaj (show words.length<=j from h)];decide+kernel
 simp only[PySem.SeqAt.shaped,PyData.canLay0,PyData.canLayAll0,PyData.depth,PyData.depthAll,this];rfl
theorem ul(h:∀r∈cs,∀x∈r,0<=x):∀m s,oS cs [] [] m s=0
 |0,_=>rfl|m+1,s=>by
  have w:0<=(cs.getD m []).getD s 0:=by
   by_cases hm:m<cs.length
   .rw[á hm];by_cases hs:s<cs[m].length;.rw[Ĭ,à hs];exact h _ (Ě hm) _ (Ě hs)
    .rw[Ĭ,Zaj Â];decide
   .rw[Ĭ (l:=cs),Zaj Â];exact ϵ _
  have e:xD (cs.getD m []) [] [] (oS cs [] [] m) m s=0+0-(cs.getD m []).getD s 0:=by unfold xD;rw[ul h m s];rfl
  have d:=GC (xD (cs.getD m []) [] [] (oS cs [] [] m) m) s;show max 0 (xD (cs.getD m []) [] [] (oS cs [] [] m) m s-dn _ s)=0;rw[e];lia
theorem HX{cs:UV}(g0:-100<=g)(g1:g<=100)(okc:∀r∈cs,okC r)(l1:1<=cs.length)(l2:cs.length<=20):jn 100 (vC g cs [] []) (some (cs.length-1)):=by
 have fy:cs≠[]:=λz=>by rw[z]at l1;exact absurd l1 Û
 refine⟨Â,⟨Â,λp hp=>(nomatch hp),?_⟩,λj hj m=>by have:=m.1;lia⟩;have z:=ul (cs:=gi g cs (100-cs.length)) (λr hr x hx=>((ue g0 g1 (vB okc) fy _ r hr).2 x hx).1) (cs.length-1+1);show 0+oS _ _ _ _ 0+oS _ _ _ _ 1+oS _ _ _ _ 2=0;rw[z,z,z];rfl
def qnT:Str:=(PyProof.Rows.envOfC "law" (aD (top 100)) 0 0 .none).qual++"<lambda>"
inductive Ϲ(K:Frag)(T:Addr)(vs:List V)(H:Hp)(Q:VK):Prop|mk:∀a(ns:WF),(vs=[.ref a])->(Ê K H a (ns.map V.int))->(ns.length<=63)->(û H T qnT)->(∀H',Q (.bl true) H')->Ϲ K T vs H Q
def Ca(K:Frag)(T:Addr):Sp:=λvs H Q _=>Ϲ K T vs H Q
theorem HY(t:û H T q)(sa:iy H st)(g:Dr st H H'):û H' T q:=by
 obtain⟨x,y,e,_⟩:=sa;refine t.keep (λps e'=>g.bt _ _ e' λz=>?_) λb o e'=>g.bt _ _ e' λz=>?_;.rw[z,e]at e';cases e'
 .rw[z,e]at e';cases e'
abbrev Fs(st:Addr)(a:Addr):Prop:=a=st\/a=sysModules
theorem Pz(g:iy H st):Fb (Fs st) st H:=⟨.inl rfl,.inr rfl,λb hb hn=>hb.elim (λz=>by obtain⟨u,v,e,_⟩:=g;rw[z,e]at hn;cases hn) id⟩
theorem vD{rs:UV}(h:∀r∈rs,∀i∈r,-10<=i/\i<=2000000):ε (2^100) (rs.map cJ)=true:=by refine ç.mpr λd hd=>?_;obtain⟨r,hr,rfl⟩:=ñ.mp hd;show ε (2^100) (r.map PyData.int)=true;refine ç.mpr λd hd=>?_;obtain⟨i,hi,rfl⟩:=ñ.mp hd;have:=h r hr i hi;exact ð (show i.natAbs<2^100 by lia)
def ψ(cs ps ss:UV):PyData:=.tuple [cR cs,cR ps,cR ss]
structure Bk(T st bk ac:Addr)(xc:List V)(cs:UV)(ap:Addr)(xp:List V)(ps:UV)(ar:Addr)(xs:List V)(ss:UV)(H0 H:Hp):Prop where
 kp:∀b o,b≠T->b≠st->H0 b=some o->H b=some o
 sa:iy H st
 tb:û H T qnT
 b:Ĉ H bk ac xc cs ap xp ps ar xs ss
section
theorem Ĉ.keep(h:Ĉ H bk ac xc cs ap xp ps ar xs ss)(k:∀b l,H b=some (.tup l)->H' b=some (.tup l)):Ĉ H' bk ac xc cs ap xp ps ar xs ss:=⟨k _ _ h.e,h.rc.keep k,h.okc,h.lc,h.rp.keep k,h.lp,h.okp,h.rs.keep k,h.ls,h.h5,h.un⟩
theorem Ĉ.th(h:Ĉ H bk ac xc cs ap xp ps ar xs ss):Ó S H (.ref bk) (ψ cs ps ss):=(Ó.tup h.e (.cons h.rc.th (.cons h.rp.th (.cons h.rs.th .nil)))).keep (λ_ _ e=>e) (λ_ _ z _=>z.elim) λ_ _ z _=>z.elim
theorem Bk.dr(a:Bk T st bk ac xc cs ap xp ps ar xs ss H0 H)(g:Dr st H H'):Bk T st bk ac xc cs ap xp ps ar xs ss H0 H':=by refine⟨λb o n1 n2 e=>g.bt _ _ (a.kp b o n1 n2 e) n2,g.sa,HY a.tb a.sa g,a.b.keep λb l e=>g.bt _ _ e λz=>?_⟩;obtain⟨x,y,e',_⟩:=a.sa;rw[z,e']at e;cases e
theorem Bk.same(a:Bk T st bk ac xc cs ap xp ps ar xs ss H0 H)(s:À H H'):Bk T st bk ac xc cs ap xp ps ar xs ss H0 H':=a.dr (Dr.same ⟨Ż.refl,a.sa⟩ s)
theorem Bk.right(a:Bk T st bk ac xc cs ap xp ps ar xs ss H0 H)(k:∀b o,b≠T->H b=some o->H' b=some o)(t:û H' T qnT):Bk T st bk ac xc cs ap xp ps ar xs ss H0 H':=by
 obtain⟨qs,e',_⟩:=id a.tb;have nT:∀b l,H b=some (.tup l)->b≠T:=λb l e z=>by rw[z,e']at e;cases e
 refine⟨λb o n1 n2 e=>k b o n1 (a.kp b o n1 n2 e),?_,t,a.b.keep λb l e=>k _ _ (nT _ _ e) e⟩;obtain⟨x,y,e,r⟩:=a.sa;exact⟨x,y,k _ _ (λz=>by rw[z,e']at e;cases e) e,r⟩
end
def unD:Option Nat->PyData|none=>.none|some i=>.int i
theorem KC:∀o,Ó S H (unV o) (unD o)|none=>.non|some i=>.int i
theorem PB:∀{o:Option Nat},(∀i,o=some i->i<100)->Ă (unD o)=true/\sz (unD o)<=1000|none,_=>⟨rfl,by show 1<=1000;decide⟩|some i,h=>⟨ð (show((i:Nat):Int).natAbs<2^128 by have:=h i rfl;lia),by show 1<=1000;decide⟩
theorem I9{P:Nat->Prop}(f:jn n P o):∀i,o=some i->i<n:=λi e=>by rw[e]at f;exact f.1
theorem Ia(h:x∈[V.int (-101),.int 101,.non,.bl true,.str "0",.int (10^(29:Int).toNat)]):∃y,(∀S H,Ó S H x y)/\sz y<=4000/\BW y=some 8:=by
 simp only[List.mem_cons,List.not_mem_nil,or_false]at h;rcases h with rfl|rfl|rfl|rfl|rfl|rfl;.exact⟨_,λ_ _=>.int _,by show 1<=4000;decide,by decide+kernel⟩
 .exact⟨_,λ_ _=>.int _,by show 1<=4000;decide,by decide+kernel⟩
 .exact⟨_,λ_ _=>.non,by show 1<=4000;decide,by decide+kernel⟩
 .exact⟨_,λ_ _=>.bl _,by show 1<=4000;decide,by decide+kernel⟩
 .exact⟨_,λ_ _=>.str _,by show 1<=4000;decide,by decide+kernel⟩
 .exact⟨_,λ_ _=>.int _,by show 1<=4000;decide,by decide+kernel⟩
theorem Eb:bootBuiltins "max"=some (.builtin "max"):=by decide+kernel
theorem Ec:bootBuiltins "min"=some (.builtin "min"):=by decide+kernel
abbrev NR:ó:=[ż,AAv,ĉ,"_law_book_here","_law_kept",AAs,ABm,"_law_bad","_law_worse"]
theorem ů:Ã NR [ż] (aD (top 100)):=ö
theorem MN(F:ã K "law" "law" (top 100) f fd)(hc:fd.code=.ref cc)(hC:PySem.W.CodeHd base cc T0)(hB:base.BuiltinsAt mg T0)(T:Mg mg)(Tr:mg "range"=none)(Tm:mg "max"=none)(Tn:mg "min"=none)(Tp:mg "repr"=none)(kd:∀j,j=3\/j=8->ϥ K Cs j)(c1:å P w K mg base 2 "_law_state" [ż,AAv] (Ax K))(c2:å P w K mg base 4 "_law_book" [ĉ,AAp,Ŭ,ŵ] BJ)(c3:å P w K mg base 1 AAq [ĉ,AAn] jB)(c4:å P w K mg base 3 "_law_met" [AAt,ć,ŵ,AAs] Kz)(c5:å P w K mg base 12 "met_by" ["book","growth"] (Pj Pk))(c6:å P w K mg base 61 "_law_same" [ϝ,ABm] Gg)(c7:å P w K mg base 11 "_law_said" [ABh] (zJ P w K mg base Cs 9))(c8:å P w K mg base 8 ABi [ĉ,Ā,AAy] (mJ (5:Nat)))(c9:å P w K mg base 5 "_law_is_book" [Ā] (Ĕ qZ))(ca:Ho P w K mg base 8 "met_by" ["book","growth"] (HQ Cs)):Ñ P w K mg base ä 63 f fd [ż] (Ca K T0):=by
 refine F.oqC hc ů λA outer s H vs Q E hr h=>?_;obtain⟨a,ns,rfl,hS,hl,tab,q⟩:=h;obtain⟨f7,fd7,F7,m7,k7,b7⟩:=id c7;have oo:ì 11 (A.deeper (PyProof.Rows.envOfC "law" (aD (top 100)) s.heap.objs.size f (.ref cc))):=hr.mono Û;refine ok_b (aM ⟨cP Ĺ rfl (fK rfl Tr (au (aG (sr rfl) rfl Tm Eb (au az (au (aG (iW rfl) rfl Tn Ec (au (aG aX rfl T.len PySem.boot_len (au (pv 0) ao)) (au az ao))) ao))) ao)) (Ö 1 ů.nd) (jZ (aM (fV 2 ů.nd ⟨aH (hjk:=Â) c1 hr (au (pv 0) (au (pv 1) ao))⟩) (aM (uL (i:=3) ů.nd rfl (Or.inr rfl) ⟨aH (hjk:=Â) c2 hr (au (pv 2) (au az (au az (au az ao))))⟩) (aM (fV 4 ů.nd ⟨aG (jO (S:=λ_=>False) hr.gd id) rfl Tp jk (au (pv 3) ao)⟩) (aM ⟨cP Ĺ rfl (dN (tD (eF (bh gm (bh ⟨aV dG (aH (hjk:=Â) c3 hr (au (pv 2) (au az ao))) az⟩ (bh (qp bT (eF (bh ql (bh gm (bh gm (bh ql bC))))) ⟨aH (hjk:=Â) c3 hr (au (pv 2) (au az ao))⟩ (λ_ _=>rfl)) bC)))))) (Ö 5 ů.nd) (jZ (aM (fV 6 ů.nd ⟨aH (hjk:=Â) c4 hr (au (pX bQ (pv 3) az) (au (pX bQ (pv 3) az) (au (pX bQ (pv 3) az) (au (pv 5) ao))))⟩) (cF (ye ⟨PW.pt (gU (bH (cA (aH (hjk:=Â) c6 hr (au (aH (hjk:=Â) c5 hr (au (pv 3) (au (pv 5) ao))) (au (pv 6) ao))))) (gO (aZ rZ (aG (jO (S:=λ_=>False) hr.gd id) rfl Tp jk (au (pv 3) ao)) (pv 4) (bf _))))⟩ (cF (gQ oE)) mU))))⟩ (aM ⟨cP Ĺ rfl (dN (tD (eF (bh ql (bh gm (bh yK (bh oE (bh cU (bh Fj bC))))))))) (bJ (i:=7) ů.nd rfl (Or.inr rfl)) (jZ (cF (ye ⟨aZ (Ga (S:=λ_=>True) hr.units) (wZ (N:=["_law_book_here","_law_bad"]) (ix:=[3,7]) (sc:=aD (top 100)) (NX:=NR) F7 oo rfl m7 k7 b7 rfl (λ_=>rfl) rfl hC hB rfl rfl rfl (λ_ _ _ _ _=>rfl) z04) (bW (au pI ao)) (bf _)⟩ (cF (gQ oE)) mU)))⟩ (aM (uL (i:=8) ů.nd rfl (Or.inr rfl) ⟨aH (hjk:=Â) c8 hr (au (pv 2) (au (pv 3) (au az ao)))⟩) (aM (ye ⟨PW.pt (pJ (bH (cA (aH (hjk:=Â) c9 hr (au (pv 8) ao)))) (lK (aZ (Ga (S:=λ_=>True) hr.units) (wZ (N:=["_law_worse"]) (ix:=[8]) (sc:=aD (top 100)) (NX:=NR) F7 oo rfl m7 k7 b7 rfl (λ_=>rfl) rfl hC hB rfl rfl rfl (λ_ _ _ _ _=>rfl) z04) (bW (au pI ao)) (bf _))))⟩ (cF (gQ oE)) mU) (cF (ye (Ht (BL ⟨aH (hjk:=Â) c6 hr (au (aH (hjk:=Â) c5 hr (au (tD (fG (bh ⟨pX bQ (pv 3) az⟩ (bh (fG bC) (bh (fG bC) bC))))) (au (tD ql) ao))) (au (aV dG (aG aX rfl T.len PySem.boot_len (au (pX bQ (pv 3) az) ao)) az) ao))⟩)) (cF (gQ oE)) mU))))))))))⟩ (cF (gQ oE))) ?_;refine aP ?_;have fe:(ns.map V.int).length<=63:=by rw[Ø];exact hl
 refine⟨_,rfl,a,_,rfl,.inl hS,_,_,rfl,_,_,rfl,_,rfl,?_,?_,?_⟩;.split<;>split<;>lia
 .split<;>split<;>lia
 refine dW (lo:=0) (λi σ Hc=>Xe8 λx1 x2 x3 x4 x5 x6 x7 x8=>Xa3 (σ=[some (.ref a),x1,x2,x3,x4,x5,x6,x7,x8]) ((∀b o,b≠T0->H b=some o->Hc b=some o)) (û Hc T0 qnT)) ?_ ?_ ?_;.exact⟨none,none,none,none,none,none,none,none,rfl,λ_ _ _ e=>e,tab⟩
 .rintro i σ H1 hi⟨x1,x2,x3,x4,x5,x6,x7,x8,rfl,k1,AF⟩;have Wr:Ê K H1 a (ns.map V.int):=by
   obtain⟨ps,eT,_⟩:=tab;rcases hS with(h|⟨o,h⟩)|h;.exact .inl (.inl (k1 _ _ (λz=>by rw[z,eT]at h;cases h) h))
   .exact .inl (.inr ⟨o,k1 _ _ (λz=>by rw[z,eT]at h;cases h) h⟩)
   .exact .inr h
  refine aJ ?_;refine Gn λDe Ws=>?_;refine aN λc_ ae=>?_;refine aW ?_;refine⟨_,rfl,_,rfl,a,ns,_,rfl,Wr,Â,λst x y hn LW Wt zt=>?_⟩;have nT:st≠T0:=λz=>by obtain⟨ps,eT,_⟩:=AF;rw[z,eT]at hn;cases hn
  have ET:H st=none:=by cases e:H st with|none=>rfl;|some o=>rw[k1 st o nT e]at hn;cases hn
  have g1:iy (upd H1 st (.lst [.int x,.int y])) st:=⟨x,y,aj,LW,Wt,zt⟩;have DL:∀b o,b≠T0->b≠st->H b=some o->upd H1 st (.lst [.int x,.int y]) b=some o:=λb o n1 n2 e=>by rw[aq n2];exact k1 b o n1 e
  have AG:=û.same AF (À.upd (o:=.lst [.int x,.int y]) hn);refine aJ ?_;refine ae _ _ ?_;clear ae c_;generalize upd H1 st (.lst [.int x,.int y])=H2 at g1 DL AG⊢;refine aN λc_ ae=>?_;refine aW ?_;refine⟨_,rfl,st,8,6,4,rfl,g1,by decide,by decide,by decide,by decide,by decide,by decide,λbk ac xc cs ap xp ps ar xs ss H3 d3 eb rc ij NI okc rp lp okp rs ls cw sQ=>?_⟩;have B3:Bk T0 st bk ac xc cs ap xp ps ar xs ss H H3:=⟨λb o n1 n2 e=>d3.bt _ _ (DL b o n1 n2 e) n2,d3.sa,HY AG g1 d3,⟨eb,rc,λr hr=>⟨(okc r hr).1,λx hx=>((okc r hr).2 x hx).1⟩,Â,rp,Â,okp,rs,Â,λs hs=>(cw s hs).1,sQ⟩⟩;have RI:tm (2^100) (ψ cs ps ss)=true:=by show(tm (2^100) (cR cs)&&(tm (2^100) (cR ps)&&(tm (2^100) (cR ss)&&true)))=true;rw[show tm (2^100) (cR cs)=true from vD λr hr i hi=>(by have:=(okc r hr).2 i hi;lia),show tm (2^100) (cR ps)=true from vD λr hr=>Mv (okp r hr),show tm (2^100) (cR ss)=true from vD λr hr=>(cw r hr).2];rfl
  have RJ:Ă (ψ cs ps ss)=true:=Jt RI Û;have zbk:L2.sz (ψ cs ps ss)<=240:=by have zc:ù (cs.map cJ)=4*cs.length:=jH (k:=3) λr hr=>(okc r hr).1;have zp:ù (ps.map cJ)=7*ps.length:=jH (k:=6) λr hr=>(okp r hr).1;have zs:ù (ss.map cJ)=6*ss.length:=jH (k:=5) λr hr=>(cw r hr).1;show 1+((1+ù (cs.map cJ))+((1+ù (ps.map cJ))+((1+ù (ss.map cJ))+0)))<=240;lia
  have RK:j6 (ψ cs ps ss)=true:=BK ij Â okc Â okp Â (λs hs=>(cw s hs).1) sQ;have lcs:cs.length<=8:=Â;clear d3 eb rc rp rs g1 DL AG cw NI;refine aJ ?_;refine ae _ _ ?_;clear ae c_;refine aN λc_ ae=>?_;refine aW ?_;refine⟨_,rfl,.ref bk,ψ cs ps ss,rfl,B3.b.th,RJ,Â,pq hr Û Â,?_⟩;refine aJ ?_;refine ae _ _ ?_;clear ae c_;refine aN λc_ ae=>?_;refine⟨_,rfl,st,201,rfl,B3.sa,by decide,by decide,λr a' b' r0 r1 h1 h2 h3=>⟨_,_,rfl,rfl,?_⟩⟩;have B4:=B3.dr (Dr.take ⟨Ż.refl,B3.sa⟩ h1 h2 h3);generalize upd H3 st (.lst [.int a',.int b'])=H4 at B4⊢;refine⟨100,rfl,3,rfl,zL,λL0 Iq=>⟨_,rfl,st,4,rfl,(B4.same (À.upd Iq)).sa,by decide,by decide,λr' a' b' r0' r1' h1 h2 h3=>?_⟩⟩;have B5:=B4.same (À.upd (o:=.lst [.int (-100),.int 100,.int 3,.int (-3)]) Iq);have Wu:L0≠st:=Dr.ne ⟨Ż.refl,B4.sa⟩ Iq;have e5:∀o,upd (upd H4 L0 (.lst [.int (-100),.int 100,.int 3,.int (-3)])) st o L0=some (.lst [.int (-100),.int 100,.int 3,.int (-3)]):=λo=>by rw[aq Wu];exact aj
  have B6:=B5.dr (Dr.take ⟨Ż.refl,B5.sa⟩ h1 h2 h3);obtain⟨u,hu,mu⟩:∃u,Ņ [V.int (-100),.int 100,.int 3,.int (-3)] r'=some u/\u∈[V.int (-100),.int 100,.int 3,.int (-3)]:=by have gI:r'.toNat<4:=Â;have e:[V.int (-100),.int 100,.int 3,.int (-3)][r'.toNat]?=some _:=à gI;have:=fj e;rw[show((r'.toNat:Nat):Int)=r' by lia]at this;exact⟨_,this,Ě gI⟩
  refine⟨L0,_,r',u,rfl,rfl,Ê.of (e5 _),hu,zL,λL hL=>?_⟩;have B7:=B6.same (À.upd (o:=.lst [.int 0,.int (r-100),u]) hL);have all:∀v∈[V.int 0,.int (r-100),u],∃g:Int,v=.int g/\-100<=g/\g<=100:=by
   intro v hv;simp only[List.mem_cons,List.not_mem_nil,or_false]at hv mu;rcases hv with rfl|rfl|rfl;.exact⟨0,rfl,by decide,by decide⟩
   .exact⟨_,rfl,Â,Â⟩
   .rcases mu with rfl|rfl|rfl|rfl;.exact⟨_,rfl,by decide,by decide⟩
    .exact⟨_,rfl,by decide,by decide⟩
    .exact⟨_,rfl,by decide,by decide⟩
    .exact⟨_,rfl,by decide,by decide⟩
  have eL:=aj (H:=upd (upd H4 L0 (.lst [.int (-100),.int 100,.int 3,.int (-3)])) st (.lst [.int a',.int b'])) (a:=L) (o:=.lst [.int 0,.int (r-100),u]);generalize upd (upd (upd H4 L0 (.lst [.int (-100),.int 100,.int 3,.int (-3)])) st (.lst [.int a',.int b'])) L (.lst [.int 0,.int (r-100),u])=H7 at B7 eL⊢;clear B3 B4 B5 B6 e5 hu mu hL Iq;generalize[V.int 0,.int (r-100),u]=us at all eL;refine⟨L,rfl,⟨_,Ê.of eL⟩,?_⟩;refine iV (xs:=us) (λk σ Hk=>∃x5 x6,σ=[some (.ref a),some (.int (0+i)),some (.ref st),some (.ref bk),some (.str (ψ cs ps ss).shown),x5,x6,x7,x8]/\Bk T0 st bk ac xc cs ap xp ps ar xs ss H Hk/\Hk L=some (.lst us)) ?_ ?_ ?_ ?_;.exact⟨_,_,rfl,B7,eL⟩
  .rintro k σ Hk hk⟨y5,y6,rfl,B,e⟩;exact Ê.of e
  .rintro k v σ Hk hv⟨y5,y6,rfl,B,e⟩;obtain⟨g,rfl,g0,g1⟩:=all v (ŕ hv);refine aJ (aP ?_);refine aW ?_;refine⟨_,rfl,bk,_,0,.ref ac,rfl,rfl,Î.of B.b.e,rfl,_,rfl,bk,_,1,.ref ap,rfl,rfl,Î.of B.b.e,rfl,_,rfl,bk,_,2,.ref ar,rfl,rfl,Î.of B.b.e,rfl,_,rfl,ac,xc,cs,ap,xp,ps,ar,xs,ss,g,rfl,B.b.rc,okc,ij,Â,B.b.rp,B.b.lp,B.b.okp,B.b.rs,B.b.ls,B.b.h5,sQ,g0,g1,λo H8 s8 f8=>?_⟩;have B8:=B.same s8;refine aJ ?_;dsimp only;refine⟨_,rfl,_,rfl,λ_=>False,bk,g,ψ cs ps ss,ac,xc,cs,ap,xp,ps,ar,xs,ss,rfl,B8.b.th,Â,RK,B8.b,okc,ij,g0,g1,λo' H9 s9 f9=>?_⟩;have:=ug f9 f8;subst this;have B9:=B8.same s9;obtain⟨mo,zo⟩:=PB (I9 f8);refine⟨_,rfl,λ_=>False,_,_,unD o',unD o',rfl,id,KC o',KC o',mo,mo,zo,zo,_,rfl,?_⟩;rw[ð rfl];refine bA ?_;refine⟨_,rfl,.ref bk,ψ cs ps ss,rfl,B9.b.th,RJ,Â,pq hr Û Â,_,rfl,rfl,_,rfl,?_⟩;rw[ð rfl];exact bA ⟨_,_,rfl,B9,s9 _ _ (s8 _ _ e)⟩
  .rintro σ Hk⟨y5,y6,rfl,B,e⟩;clear B7 eL;refine ae _ _ ?_;clear ae c_;refine aN λc_ ae=>?_;refine⟨101,rfl,_,_,rfl,rfl,⟨by decide,by decide,by decide⟩,zL,λL2 RL=>?_⟩;have B7:=B.same (À.upd (o:=.lst [.int (-101),.int 101,.non,.bl true,.str "0",.int (10^(29:Int).toNat)]) RL);have eL:=aj (H:=Hk) (a:=L2) (o:=.lst [.int (-101),.int 101,.non,.bl true,.str "0",.int (10^(29:Int).toNat)]);generalize upd Hk L2 (.lst [.int (-101),.int 101,.non,.bl true,.str "0",.int (10^(29:Int).toNat)])=H8 at B7 eL⊢;clear B RL e;have bad:∀v∈[V.int (-101),.int 101,.non,.bl true,.str "0",.int (10^(29:Int).toNat)],_:=λv hv=>Ia hv;generalize[V.int (-101),.int 101,.non,.bl true,.str "0",.int (10^(29:Int).toNat)]=us at eL bad;refine⟨L2,rfl,⟨_,Ê.of eL⟩,?_⟩;refine iV (xs:=us) (λk σ Hk=>∃y7,σ=[some (.ref a),some (.int (0+i)),some (.ref st),some (.ref bk),some (.str (ψ cs ps ss).shown),y5,y6,y7,x8]/\Bk T0 st bk ac xc cs ap xp ps ar xs ss H Hk/\Hk L2=some (.lst us)) ?_ ?_ ?_ ?_;.exact⟨_,rfl,B7,eL⟩
   .rintro k σ Hk hk⟨y7,rfl,B,e⟩;exact Ê.of e
   .rintro k v σ Hk hv⟨y7,rfl,B,e⟩;obtain⟨yy,ty,zy,ky⟩:=bad v (ŕ hv);refine aJ ?_;refine⟨B.tb,λfl pm cv ct H8 E8 AH nf L Z=>⟨[.ref bk,v],rfl,λj' i' z e1 e2=>?_,λNW C=>?_⟩⟩
    .rcases j' with _|_|j';.cases e1;cases e2;rfl
     .cases e1;cases e2;rfl
     .simp at e1
    have Wv:L2≠T0:=λz=>by obtain⟨ps,e',_⟩:=B.tb;rw[z,e']at e;cases e
    have B8:=B.right E8 AH;refine HW (j:=8) (kd 8 (.inr rfl)) L Z C rfl (λA' iS E' Q' gI out=>⟨_,λs'=>pC ca (gI.deeper _) Û rfl wX rfl (au (pv 0) (au (pv 1) ao)),⟨.ref bk,rfl,v,rfl,λ_=>False,.ref bk,ψ cs ps ss,v,yy,8,rfl,B8.b.th,Â,ty _ _,zy,.inr ⟨Ë (by rw[RK];decide),ky⟩,out⟩⟩) λp H9 s9 e9=>?_;have Iy:=s9.er C.no;have NY:er H9 NW p=some (.tup [.str (words.getD 8 "")]):=Av s9 (λ_ _ z=>by cases z) e9;refine⟨zL,λpS BD=>⟨.tuple [.str (words.getD 8 "")],.tup (À.upd BD _ _ NY) (.cons (.str _) .nil),.tup aj (.cons (.str _) .nil),Py 8,rfl,_,rfl,?_⟩⟩;refine bA ⟨_,rfl,(B8.same Iy).same (À.upd BD),À.upd BD _ _ (Iy _ _ (E8 _ _ Wv e))⟩
   .rintro σ Hk⟨y7,rfl,B,e⟩;clear B7 eL bad;refine ae _ _ ?_;clear ae c_;refine aN λc_ ae=>?_;refine aW ?_;refine⟨_,rfl,_,rfl,Fs st,st,.ref bk,ψ cs ps ss,4,2^100,rfl,B.sa,Pz B.sa,by decide,by decide,B.b.th,RI,ß _,Â,λv8 H8 d8 g8 t8 m8 z8=>?_⟩;have B8:=B.dr g8;refine aJ ?_;refine ae _ _ ?_;clear ae c_;refine aN λc_ ae=>?_;have go:∀Hx,Bk T0 st bk ac xc cs ap xp ps ar xs ss H Hx->c_ [some (.ref a),some (.int (0+i)),some (.ref st),some (.ref bk),some (.str (ψ cs ps ss).shown),y5,y6,y7,some v8] Hx:=λHx B=>by
     refine ae _ _ ?_;clear ae c_;refine⟨_,rfl,bk,_,0,.ref ac,rfl,rfl,Î.of B.b.e,rfl,zL,λp1 pe=>⟨zL,λp2 hJ=>⟨zL,λp3 gE=>⟨100,rfl,?_⟩⟩⟩⟩;have s3:=((À.upd (o:=.tup []) pe).updR (o:=.tup []) hJ).updR (o:=.tup [.ref ac,.ref p1,.ref p2]) gE;have e1:upd (upd (upd Hx p1 (.tup [])) p2 (.tup [])) p3 (.tup [.ref ac,.ref p1,.ref p2]) p1=some (.tup []):=À.upd gE _ _ (À.upd hJ _ _ aj);have e2:upd (upd (upd Hx p1 (.tup [])) p2 (.tup [])) p3 (.tup [.ref ac,.ref p1,.ref p2]) p2=some (.tup []):=À.upd gE _ _ aj;have e3:=aj (H:=upd (upd Hx p1 (.tup [])) p2 (.tup [])) (a:=p3) (o:=.tup [.ref ac,.ref p1,.ref p2]);generalize upd (upd (upd Hx p1 (.tup [])) p2 (.tup [])) p3 (.tup [.ref ac,.ref p1,.ref p2])=H3 at s3 e1 e2 e3⊢;have B3:=B.same s3;have r0:∀{p:Addr},H3 p=some (.tup [])->È H3 p [] []:=λe=>⟨e,rfl,λi r h=>by simp at h⟩;have BE:Ĉ H3 p3 ac xc cs p1 [] [] p2 [] []:=⟨e3,B3.b.rc,B3.b.okc,B3.b.lc,r0 e1,by decide,λ_ h=>(nomatch h),r0 e2,by decide,λ_ h=>(nomatch h),rfl⟩;refine⟨λ_=>False,p3,-100,ψ cs [] [],ac,xc,cs,p1,[],[],p2,[],[],rfl,BE.th,?_,BK ij Â okc Û (λ_ h=>(nomatch h)) Û (λ_ h=>(nomatch h)) rfl,BE,okc,ij,by decide,by decide,λo H4 s4 f4=>?_⟩;.have zc:ù (cs.map cJ)=4*cs.length:=jH (k:=3) λr hr=>(okc r hr).1;show 1+((1+ù (cs.map cJ))+((1+0)+((1+0)+0)))<=4000;lia
     have:=ug f4 (HX Û Û okc ij Â);subst this;have B4:=B3.same s4;have lx:=B4.b.rc.l;have ei:((cs.length-1:Nat):Int)=(xc.length:Int)-1:=Â;refine⟨_,rfl,bk,_,0,.ref ac,rfl,rfl,Î.of B4.b.e,rfl,ac,xc,rfl,.inr (Î.of B4.b.rc.e),_,_,rfl,rfl,λ_=>False,_,_,.int ((cs.length-1:Nat):Int),.int ((xc.length:Int)-1),rfl,id,.int _,.int _,ð Â,ð Â,(by show 1<=1000;decide),(by show 1<=1000;decide),_,rfl,?_⟩;rw[ei,ð rfl];refine bA (Ws _ _ ⟨_,_,_,_,_,_,_,_,rfl,λb o n e=>B4.kp b o n (aB e ET) e,B4.tb⟩)
    refine⟨_,rfl,(λa=>¬Fs st a),v8,d8,rfl,t8,Â,λH9 s9=>⟨_,rfl,?_⟩⟩;rw[<-K5];cases hb:j6 d8 with|true=>exact bA (bA (go _ (B8.same s9)));|false=>
     refine bx ?_;have B9:=B8.same s9;refine⟨B9.tb,λfl pm cv ct H8 E8 AH nf L Z=>⟨[v8],rfl,λj' i' z e1 e2=>?_,λNW C=>?_⟩⟩
     .rcases j' with _|j';.cases e1;cases e2;rfl
      .simp at e1
     have t9:=(t8.same s9).tbl B9.tb E8;have Ww:=B9.right E8 AH;refine HW (j:=3) (kd 3 (.inl rfl)) L Z C rfl (λA' iS E' Q' gI out=>⟨_,λs'=>pC ca (gI.deeper _) Û rfl wX rfl (au (pv 0) (au j9 ao)),⟨v8,rfl,(λa=>¬Fs st a),v8,d8,.non,.none,3,rfl,t9,Â,.non,by show 1<=4000;decide,.inl (Í hb),out⟩⟩) λp H9 s9 e9=>?_;have Iy:=s9.er C.no;have NY:er H9 NW p=some (.tup [.str (words.getD 3 "")]):=Av s9 (λ_ _ z=>by cases z) e9;refine⟨zL,λpS BD=>⟨.tuple [.str (words.getD 3 "")],.tup (À.upd BD _ _ NY) (.cons (.str _) .nil),.tup aj (.cons (.str _) .nil),Py 3,rfl,_,rfl,?_⟩⟩;exact bA (go _ ((Ww.same Iy).same (À.upd BD)))
 .rintro σ Hc⟨x1,x2,x3,x4,x5,x6,x7,x8,rfl,k1,AF⟩;exact q _
end K51
structure PySem.W.Fast:Prop where(tw9557536144054233088 tw6063241886929225824 tw6543129200606574752 tw17795219046122749088 tw1099377122215617856 tw13532790857794382208 tw11307781082350022112 tw15346079058543987264 tw4739722994955544128 tw104510083312510560 tw804442650966105824 tw14224926235670120320 tw11823326410272347137 tw8192566284369664065 tw5347728916936166529 tw13778908663150829761 tw7674552027408386337 tw11893971569786047265 tw5210746800012120865 tw8532036223965582145 tw13956791296748782465 tw15642005476342565793 tw6630166315590718369 tw13339841377406091201 tw7858409634009184193 tw13777347900045352929 tw14106126401127003266 tw15333036177335443618 tw14864881952569631938 tw17138831953517952290 tw8053278949761078626 tw284620483058100578 tw2629414751276231106 tw14529977237806606818 tw9974221654732956194 tw14935887105081528898 tw4820842441225663042 tw13749338965740488482 tw2997952454599039778 tw15270870124118831906 tw9774127699781401474 tw3221050177499452290 tw3699048732718275522 tw10535763321969230947 tw11530628718409671779 tw18358800151659541763 tw6251340548424406435 tw12602409491202493891 tw14371806017293416995 tw5503283128810016387 tw4011622890022435619 tw8003887228759507779 tw11180424316334914435 tw13503707389755388835 tw7248492244041062371 tw1474606721965043748 tw16858902152546486404 tw4125662298220306692 tw12555844014552431940 tw7451423463011859780 tw14186197785856484740 tw1669780574642673060 tw2034971420021684964 tw13707209117672371940 tw645789493897713508 tw10918580600038353764 tw14588559262786387013 tw18182320973189382405 tw3417161238544178501 tw921037551552397637 tw9569293766296530309 tw1360141932086986149 tw1634971955916835237 tw10826563116966790565 tw9388256128017830341 tw11092437768254244293 tw3947871766441422277 tw4473035988378738309 tw2159357082176646821 tw11074996270366209829 tw10300347661094576933 tw7232642670330298181 tw9120567054191815493 tw4643674773351318373 tw3711477339279763365 tw16147779424062848933 tw4789924163556467621 tw10196922448828300229 tw5436563139202490374 tw6681991772128821286 tw4698489059372320934 tw14988753940985470374 tw8991691401130163654 tw139043847452582438 tw10524842664842185286 tw11175534749895148134 tw5015258043048847014 tw14751689491772185254 tw10072965583994482695 tw12138844344868172839 tw2329833930315702343 tw4157497548596457575 tw10741966333878137959 tw5079935115431898343 tw4366320189110401319 tw4236596957972462887 tw3101961787507167623 tw1234887592586464679 tw4514895275677549063 tw14086242711842491015 tw8427087306220282567 tw13843270087073988295 tw6076851058941464327 tw4760701163464683431 tw5583063111654229032 tw5443586562375209192 tw14917076221489371400 tw16269047981498620328 tw15141744065409789384 tw1637747253836282440 tw13736660145798441065 tw4166112870031947977 tw1411445732595182825 tw16040065419888086281 tw8818007345332043049 tw2465804788090307945 tw5802255076501420425 tw10937659267131225769 tw6704654208584501001 tw14834245045602425801 tw6352613856897937418 tw13467109698580375626 tw15868165740331749546 tw5507935313239564522 tw9801766653655681322 tw16743819980328225066 tw3038733183261045162 tw15566056986167067050 tw15644159870653889034 tw1136400954593239562 tw17418478460541947466 tw4091569175472711274 tw10384182751187150474 tw7210867434713801386 tw2362051041886071466 tw14184993434707914442 tw16928995466488521514 tw2730911779835377578 tw18411795232800187467 tw18431650469139282091 tw9685181325262322923 tw13858315835908057451 tw12060579498877401515 tw6742405092968541707 tw2936706572468986603 tw10220499959020824299 tw1877734777774843627 tw17021326606239844075 tw12545887923170195211 tw5982195696377621259 tw17658523312122171307 tw14972204487872052203 tw13857422911847780524 tw3153807587521812684 tw10378552648357558508 tw2582224479461267724 tw11772757646868051276 tw1788437606168031564 tw11026416203019639148 tw12894334821902762380 tw6589172009467379084 tw2833472009534392812 tw17569568526583214636 tw1518628964239562316 tw2188859635666310732 tw16294651249558453868 tw5014221481022146220 tw15414621515240098572 tw2986030962397125388 tw14731667506329992012 tw3953818317127803917 tw4479564679386577933 tw1877774906774588461 tw1260068269203793965 tw17484012917195810957 tw14886084181795394765 tw12202956002418854157 tw8117622242788084077 tw18259470018508755501 tw7818271830571425325 tw1872591796616820365 tw3667219589825671917 tw14712418012344864589 tw1412888981451583437 tw9689725543048511694 tw14892176466537888974 tw16102387942465683790 tw10032534920396408174 tw5206736399239692654 tw13154729858482604430 tw11157736697729122766 tw1415973424041463246 tw2849262089664255566 tw4559560966636051310 tw6981535456154298222 tw1095709276757439374 tw1656009874973786159 tw13381184251981796655 tw8846056120518167919 tw1019287637855511119 tw10594879502274219599 tw54329207545311919 tw17988026837331977935 tw17533412545533884239 tw1631130096803252047 tw12924788684142985071 tw15706319700525480879 tw9465275758707610575 tw14667517121633511728 tw4498095728348983664 tw15631883403518226896 tw1730719808618856080 tw8646383434984587952 tw6216583101908890320 tw2458342325240174288 tw10136252449930852176 tw17934814604438676529 tw8079107456115500369 tw2469089612639896945 tw6866067492478933425 tw10836571963371142673 tw6158530754281744977 tw7575039753049486929 tw9450904776671051377 tw11669400983631792849 tw3904321725606845425 tw16231175051650777170 tw3128759865161021522 tw18144486468600343794 tw1928283812216554930 tw956197800363170290 tw15181025770002693618 tw8364257328186611218 tw9747152821969929746 tw2661452813384569426 tw12767655674921961330 tw12096187052811340786 tw9712260808332759123 tw17121076982113298579 tw11246629384116873619 tw2932682141475720883 tw1500396604403591955 tw10801140941681147667 tw16253460223018372915 tw5626593811450942387 tw6728803086215848980 tw7620254075669619860 tw4630244032330685652 tw9198543503325485300 tw10867130845050602004 tw14528716347646923348 tw789890882565077588 tw2112474179607399156 tw13195494682634596308 tw12412060339771867221 tw2394885245064053877 tw2296306825710498165 tw7393287903293265269 tw4214756016535241141 tw1762071292935181749 tw9889981209595685301 tw14657258190563648053 tw1922026773315164789 tw18046480444942964405 tw14340960313627212597 tw10622945987548625781 tw1556091337870519285 tw6436144645130380342 tw15813042819303701558 tw13863716251559692534 tw13611496429725908342 tw8356971481487210934 tw13660666042973231670 tw6689156357942262326 tw18075569426037374774 tw8179537086307793750 tw15640154567618798454 tw1823519808092087254 tw8236859849327056023 tw17776069720650323127 tw7341028534014406839 tw9160842733901458743 tw2029945641221431703 tw18144722592246096343 tw3323181329436434167 tw3462288035975914263 tw10442736473197335351 tw3592388023292621623 tw12014486318110212951 tw466237292084499287 tw7492664778978931543 tw297573426211740535 tw14791175206545094551 tw4963990392532124599 tw6343337236094071767 tw2103842457553395671 tw17920304135641801880 tw15962463622003595448 tw4519139841832849720 tw1639901312748011096 tw5318189809300127416 tw6067845137894462232 tw5538173037838061432 tw7014691613113580504 tw2348242589292590105 tw7150443272635877529 tw10347926801038473401 tw449309111292791225 tw5300078447144043993 tw4925753865273258457 tw6086777713835780953 tw13997740719372901369 tw10133644520377080858 tw9135050602241063130 tw2571872150193871162 tw15000718959854744922 tw6284911544691294618 tw6571070743668300250 tw4743440094198513114 tw252219327445490138 tw4388962500217826778 tw11575838676737322522 tw12868515101357221562 tw4199796007780038490 tw5182219589066296186 tw4318224980812676026 tw14682014738741177306 tw946133003038345243 tw7558890686588985371 tw6170544198587603035 tw4690424238968184027 tw17839151057628760443 tw7321330073741219227 tw455814263686344251 tw7601893299893405371 tw1057961894143664891 tw17118386223979232155 tw7856358802865973179 tw1273311933743792188 tw5368014950369933436 tw4972547037835705468 tw10830374878628475004 tw150673183235554492 tw6290031265042358588 tw5499230786642475324 tw18167959461446287708 tw656811735041209724 tw16468345683829045692 tw13781653658205164028 tw12651127036255447612 tw7417542004527972956 tw14185777807822408284 tw2677823760589594236 tw15979094015792879292 tw10186811079225870012 tw14576545785663417052 tw7596714025294322492 tw3347262747581878172 tw4280708417353021436 tw11536555812108057629 tw13674301694833976349 tw17196422629483706557 tw9096271823564942525 tw16517713638054171933 tw18160247148215351613 tw15047099796614570301 tw16754378213623017885 tw12288558487090585021 tw1106288984835920349 tw10210584811091162589 tw2619189621527662077 tw7336004824987728381 tw4623367072425644605 tw5777542248703202941 tw4287647833224567485 tw16112796995282722557 tw2528888822540477277 tw9857493326121261021 tw7145882475045450814 tw9490789307936301150 tw9763531039983591614 tw6298656485998618846 tw10677454074230013182 tw2615079632281881886 tw7044262431162120510 tw929914765992116542 tw6828436616162828702 tw3825730923983624766 tw15214810462369875742 tw6841739400171840382 tw4760895657677781950 tw9351754166052818047 tw10378399676690507967 tw17542038735825900031 tw10449130741763593727 tw15931170717185945119 tw552661104035934911 tw11905728965832246047 tw16460779107920591711 tw11034909697039226719 tw11799340424454497398:True)
namespace K51
open PySem L2
theorem elZ{C:ā->Prop}(h:C []):∀us,us.length=0->C us:=by intro us e;cases us with|nil=>exact h;|cons _ _=>cases e
theorem ν{C:ā->Prop}(h:∀a,∀us,us.length=n->C (a::us)):∀us,us.length=n+1->C us:=by intro us e;cases us with|nil=>cases e;|cons a r=>exact h a r (Nat.succ.inj e)
theorem ń{C:ā->Prop}(h:∀a0,C [a0]):∀us,us.length=1->C us:=ν (λa0=>elZ (h a0))
theorem χ{C:ā->Prop}(h:∀a0 a1,C [a0,a1]):∀us,us.length=2->C us:=ν (λa0=>ν (λa1=>elZ (h a0 a1)))
theorem el3{C:ā->Prop}(h:∀a0 a1 a2,C [a0,a1,a2]):∀us,us.length=3->C us:=ν (λa0=>ν (λa1=>ν (λa2=>elZ (h a0 a1 a2))))
theorem el4{C:ā->Prop}(h:∀a0 a1 a2 a3,C [a0,a1,a2,a3]):∀us,us.length=4->C us:=ν (λa0=>ν (λa1=>ν (λa2=>ν (λa3=>elZ (h a0 a1 a2 a3)))))
theorem el5{C:ā->Prop}(h:∀a0 a1 a2 a3 a4,C [a0,a1,a2,a3,a4]):∀us,us.length=5->C us:=ν (λa0=>ν (λa1=>ν (λa2=>ν (λa3=>ν (λa4=>elZ (h a0 a1 a2 a3 a4))))))
def ë(K:Frag)(x:Str)(st:Stmt):Prop:=∃f od an sl oc kV dc pm cd ct,PySem.W.nsIn K mainGlobals x=some (some (.ref f))/\K.lookup f=some ⟨oc,od,.func (PySem.W.fnOf x x (gY st) (cV st) (aD st) .none kV dc pm an cd ct),sl⟩/\PySem.W.codeIn K cd x=true/\PySem.W.keepIn K (.ref f)=true
theorem has_mk{oc kV dc pm cd ct:Value}(a:PySem.W.nsIn K mainGlobals x=some (some (.ref f)))(l:K.lookup f=some ⟨oc,od,.func (PySem.W.fnOf x x (gY st) (cV st) (aD st) .none kV dc pm an cd ct),sl⟩)(c:PySem.W.codeIn K cd x=true)(k:PySem.W.keepIn K (.ref f)=true):ë K x st:=⟨f,od,an,sl,oc,kV,dc,pm,cd,ct,a,l,c,k⟩
theorem ë.get(H:ë K x st)(X:K.In h)(G:h.Ns mainGlobals mg):∃f fd,ã K x x st f fd/\mg x=some (.ref f):=by obtain⟨f,od,an,sl,oc,kV,dc,pm,cd,ct,a,l,c,k⟩:=H;exact⟨f,_,Es (st:=st) l c k,PySem.W.mg_of X G a⟩
abbrev Bd(x:Str)(st:Stmt)(ps:ó)(us:ā):Prop:=∀kV doc pm an ai ct,bindArgs (PySem.W.fnOf x x (gY st) (cV st) (aD st) .none kV doc pm an ai ct) ⟨us,[]⟩=pure (ps.zip us)
theorem ë.g(H:ë K x st)(X:K.In h)(G:h.Ns mainGlobals mg)(ps:ó)(hb:∀us,us.length=ps.length->Bd x st ps us):∃f fd,ã K x x st f fd/\mg x=some (.ref f)/\ø K fd ps []:=by obtain⟨f,fd,F,m⟩:=H.get X G;exact⟨f,fd,F,m,F.binds λa b c d e g us l=>hb us l a b c d e g⟩
theorem aR(P:Program)(w:World)(base:Heap)(F:Ñ P w K mg base ä k f fd ps sp)(m:mg x=some (.ref f))(kp:PySem.W.keepIn K (.ref f)=true)(b:ø K fd ps []):å P w K mg base k x ps sp:=⟨f,fd,F,m,kp,b⟩
theorem vG(F:Ñ P w K mg base (Ŵ P w) k f fd ps sp)(m:mg x=some (.ref f))(kp:PySem.W.keepIn K (.ref f)=true)(b:ø K fd ps []):Ho P w K mg base k x ps sp:=⟨f,fd,F,m,kp,b⟩
theorem K6(F:ū P w K mg base ä k f fd ps sp)(m:mg x=some (.ref f))(kp:PySem.W.keepIn K (.ref f)=true)(b:ø K fd ps []):MF P w K mg base k x ps sp:=⟨f,fd,F,m,kp,b⟩
theorem K7(X:K.In h)(G:h.Ns mainGlobals mg)(F:ã K x qual st f fd)(m:mg x=some (.ref f))(t:PySem.W.tabIn K x=some (c,T)):fd.code=.ref c:=by obtain⟨oc,od,kV,doc,pm,an,ai,ct,kX,rfl,lk,_⟩:=F.ex;exact PySem.W.law_code X G t m (X _ _ lk) rfl
theorem ë.g1(H:ë K x st)(X:K.In h)(G:h.Ns mainGlobals mg)(a0:Str)(hb:∀u0,Bd x st [a0] [u0]:=by exact λ_ _ _ _ _ _ _=>rfl):∃f fd,ã K x x st f fd/\mg x=some (.ref f)/\ø K fd [a0] []:=H.g X G [a0] (ń hb)
theorem ë.g2(H:ë K x st)(X:K.In h)(G:h.Ns mainGlobals mg)(a0 a1:Str)(hb:∀u0 u1,Bd x st [a0,a1] [u0,u1]:=by exact λ_ _ _ _ _ _ _ _=>rfl):∃f fd,ã K x x st f fd/\mg x=some (.ref f)/\ø K fd [a0,a1] []:=H.g X G [a0,a1] (χ hb)
theorem ë.g3(H:ë K x st)(X:K.In h)(G:h.Ns mainGlobals mg)(a0 a1 a2:Str)(hb:∀u0 u1 u2,Bd x st [a0,a1,a2] [u0,u1,u2]:=by exact λ_ _ _ _ _ _ _ _ _=>rfl):∃f fd,ã K x x st f fd/\mg x=some (.ref f)/\ø K fd [a0,a1,a2] []:=H.g X G [a0,a1,a2] (el3 hb)
theorem ë.g4(H:ë K x st)(X:K.In h)(G:h.Ns mainGlobals mg)(a0 a1 a2 a3:Str)(hb:∀u0 u1 u2 u3,Bd x st [a0,a1,a2,a3] [u0,u1,u2,u3]:=by exact λ_ _ _ _ _ _ _ _ _ _=>rfl):∃f fd,ã K x x st f fd/\mg x=some (.ref f)/\ø K fd [a0,a1,a2,a3] []:=H.g X G [a0,a1,a2,a3] (el4 hb)
theorem ë.g5(H:ë K x st)(X:K.In h)(G:h.Ns mainGlobals mg)(a0 a1 a2 a3 a4:Str)(hb:∀u0 u1 u2 u3 u4,Bd x st [a0,a1,a2,a3,a4] [u0,u1,u2,u3,u4]:=by exact λ_ _ _ _ _ _ _ _ _ _ _=>rfl):∃f fd,ã K x x st f fd/\mg x=some (.ref f)/\ø K fd [a0,a1,a2,a3,a4] []:=H.g X G [a0,a1,a2,a3,a4] (el5 hb)
theorem all_mk{l:PySem.W.OpenLaw}(X:K.In h)(G:h.Ns mainGlobals mg)(RV:mg "law"=some (.ref fa))(h20:ë K "is_whole" (top 20))(h21:ë K "is_whole_from" (top 21))(h22:ë K "is_tuple_of" (top 22))(h23:ë K "are_wholes" (top 23))(h34:ë K "is_clip" (top 34))(h35:ë K "are_clips" (top 35))(h36:ë K "is_promise" (top 36))(h37:ë K "are_promises" (top 37))(h38:ë K "are_sales" (top 38))(h39:ë K "held_in" (top 39))(h40:ë K "is_sale_between" (top 40))(h41:ë K "sale_holds" (top 41))(h42:ë K "first_unheld" (top 42))(h43:ë K "is_book" (top 43))(h44:ë K "refuse_no_book" (top 44))(h48:ë K "are_weights" (top 48))(h49:ë K "refuse_unpartable" (top 49))(h50:ë K "places_by_rest" (top 50))(h51:ë K "parts_of" (top 51))(h52:ë K "parted" (top 52))(h54:ë K "sacks_of" (top 54))(h55:ë K "claims_in" (top 55))(h56:ë K "shares_of" (top 56))(h57:ë K "made_good" (top 57))(h58:ë K "sort_given" (top 58))(h59:ë K "year_given" (top 59))(h60:ë K "years_given" (top 60))(h65:ë K "refuse_no_growth" (top 65))(h66:ë K "grown" (top 66))(h67:ë K "year_of_all" (top 67))(h68:ë K "met_by" (top 68))(h70:ë K "_law_cell_at" (top 70))(h71:ë K "_law_state" (top 71))(h72:ë K AAq (top 72))(h73:ë K "_law_clips" (top 73))(h74:ë K ABo (top 74))(h75:ë K "_law_begun" (top 75))(h76:ë K "_law_holds" (top 76))(h77:ë K "_law_sell" (top 77))(h78:ë K ABf (top 78))(h79:ë K ABp (top 79))(h80:ë K "_law_sales" (top 80))(h81:ë K "_law_book" (top 81))(h82:ë K "_law_parted" (top 82))(h83:ë K "_law_claims" (top 83))(h84:ë K "_law_year" (top 84))(h99:ë K "_law_met" (top 99))(h98:ë K "_law_same" (top 98))(h85:ë K "_law_kind" (top 85))(h86:ë K "_law_said" (top 86))(h87:ë K ABa (top 87))(h88:ë K ABb (top 88))(h89:ë K "_law_is_clip" (top 89))(h90:ë K ABk (top 90))(h91:ë K ABe (top 91))(h92:ë K AAz (top 92))(h93:ë K "_law_is_sale" (top 93))(h94:ë K ABl (top 94))(h95:ë K "_law_is_book" (top 95))(h96:ë K "_law_odd" (top 96))(h97:ë K ABi (top 97))(aL:PySem.W.nsIn K mainGlobals "law"=some (some (.ref fL)))(lL:K.lookup fL=some ⟨Wz,Wx,.func (PySem.W.fnOf "law" "law" (gY (top 100)) (cV (top 100)) (aD (top 100)) .none RN RO AS RM N0 RP),Wy⟩)(cL:PySem.W.codeIn K N0 "law"=true)(kL:PySem.W.keepIn K (.ref fL)=true)(n0:PySem.W.nsIn K mainGlobals "SORTS"=some (some (.int 3 t0)))(n1:PySem.W.nsIn K mainGlobals "HOLDERS"=some (some (.int 8 t1)))(n2:PySem.W.nsIn K mainGlobals "LAST_YEAR"=some (some (.int 19 t2)))(n3:PySem.W.nsIn K mainGlobals "MOST_CLIPS"=some (some (.int 20 t3)))(n4:PySem.W.nsIn K mainGlobals "MOST_PROMISES"=some (some (.int 10 t4)))(n5:PySem.W.nsIn K mainGlobals "MOST_WOOL"=some (some (.int 999 t5)))(n6:PySem.W.nsIn K mainGlobals "MOST_SACKS"=some (some (.int 99 t6)))(n7:PySem.W.nsIn K mainGlobals "MOST_PRICE"=some (some (.int 1000000 t7)))(n8:PySem.W.nsIn K mainGlobals "MOST_SALES"=some (some (.int 12 t8)))(n9:PySem.W.nsIn K mainGlobals "MOST_WEIGHTS"=some (some (.int 80 t9)))(n10:PySem.W.nsIn K mainGlobals "MOST_WEIGHT"=some (some (.int 99 RQ)))(n11:PySem.W.nsIn K mainGlobals "LEAST_GROWTH"=some (some (.int (-100) RS)))(n12:PySem.W.nsIn K mainGlobals "MOST_GROWTH"=some (some (.int 100 RT)))(n13:PySem.W.nsIn K mainGlobals "MOST_YEARS"=some (some (.int 100 RU)))(cy:PySem.W.nsIn K mainGlobals "isinstance"=some none)(we:PySem.W.nsIn K mainGlobals "int"=some none)(ot:PySem.W.nsIn K mainGlobals "bool"=some none)(ku:PySem.W.nsIn K mainGlobals "tuple"=some none)(wm:PySem.W.nsIn K mainGlobals "len"=some none)(wo:PySem.W.nsIn K mainGlobals "all"=some none)(aE:PySem.W.nsIn K mainGlobals "range"=some none)(br:PySem.W.nsIn K mainGlobals "list"=some none)(kz:PySem.W.nsIn K mainGlobals "max"=some none)(ip:PySem.W.nsIn K mainGlobals "min"=some none)(oz:PySem.W.nsIn K mainGlobals "zip"=some none)(av:PySem.W.nsIn K mainGlobals "enumerate"=some none)(bX:PySem.W.nsIn K mainGlobals "sorted"=some none)(dS:PySem.W.nsIn K mainGlobals "sum"=some none)(oB:PySem.W.nsIn K mainGlobals "repr"=some none)(AI:PySem.W.nsIn K mainGlobals "dict"=some none)(gL:PySem.W.nsIn K mainGlobals "ValueError"=some none)(k0:PySem.W.nsIn K mainGlobals "NoClips"=some (some (.ref C0)))(k1:PySem.W.nsIn K mainGlobals "NoPromises"=some (some (.ref C1)))(k2:PySem.W.nsIn K mainGlobals "NoSales"=some (some (.ref C2)))(k3:PySem.W.nsIn K mainGlobals "NoBook"=some (some (.ref C3)))(k4:PySem.W.nsIn K mainGlobals "NoNumber"=some (some (.ref C4)))(k5:PySem.W.nsIn K mainGlobals "NoYear"=some (some (.ref C5)))(k6:PySem.W.nsIn K mainGlobals "NoWeights"=some (some (.ref C6)))(k7:PySem.W.nsIn K mainGlobals "NoPaper"=some (some (.ref C7)))(k8:PySem.W.nsIn K mainGlobals "NoGrowth"=some (some (.ref C8)))(k9:PySem.W.nsIn K mainGlobals "NoPromise"=some (some (.ref C9)))(k10:PySem.W.nsIn K mainGlobals "NoSort"=some (some (.ref BF)))(k11:PySem.W.nsIn K mainGlobals "NoClip"=some (some (.ref BG)))(k12:PySem.W.nsIn K mainGlobals "NoSale"=some (some (.ref BH)))(k13:PySem.W.nsIn K mainGlobals "NoDeed"=some (some (.ref BI)))(k14:PySem.W.nsIn K mainGlobals "NoText"=some (some (.ref BM)))(k15:PySem.W.nsIn K mainGlobals "NoLine"=some (some (.ref BN)))(k16:PySem.W.nsIn K mainGlobals "TooMany"=some (some (.ref BO)))(k17:PySem.W.nsIn K mainGlobals "WoolError"=some (some (.ref BQ)))(e3:PySem.W.excIn K C3 VE "ValueError.__new__"=true)(d3:JV K [C0,C1,C2,C3,C4,C5,C6,C7,C8,C9,BF,BG,BH,BI,BM,BN,BO,BQ] 3=true)(e8:PySem.W.excIn K C8 VE "ValueError.__new__"=true)(d8:JV K [C0,C1,C2,C3,C4,C5,C6,C7,C8,C9,BF,BG,BH,BI,BM,BN,BO,BQ] 8=true)(tb:PySem.W.tabIn K "law"=some (cT,T0)):∃fd,(∀s v,BindsTo s fd ⟨[v],[]⟩ [(ż,v)])/\∀base,K.In base->base.Ns mainGlobals mg->PySem.W.CodeHd base cT T0->base.BuiltinsAt mg T0->Ñ l.prog w K mg base ä 63 fa fd [ż] (Ca K T0):=by have e:=RV.symm.trans (PySem.W.mg_of X G aL);cases e;have FL:=Es (st:=top 100) lL cL kL;obtain⟨f20,WC,RW,WD,WE⟩:=h20.g1 X G "thing";obtain⟨f21,WG,RX,WH,WI⟩:=h21.g3 X G "thing" "least" "most";obtain⟨f22,WJ,RY,WK,WL⟩:=h22.g3 X G "thing" "fewest" "most";obtain⟨f23,WM,RZ,WN,WO⟩:=h23.g2 X G "thing" "many";obtain⟨f34,WQ,R0,WR,WS⟩:=h34.g1 X G "thing";obtain⟨f35,WT,R1,WU,WV⟩:=h35.g1 X G "thing";obtain⟨f36,WW,R3,WX,WY⟩:=h36.g1 X G "thing";obtain⟨f37,WZ,R4,Xa,Xb⟩:=h37.g1 X G "thing";obtain⟨f38,Xc,R5,Xd,Xe⟩:=h38.g1 X G "thing";obtain⟨f39,Xf,R6,Xg,Xh⟩:=h39.g4 X G "promises" "sales" "number" "year";obtain⟨f40,Xi,R7,Xj,Xk⟩:=h40.g2 X G "promises" "sale";obtain⟨f41,Xl,R8,Xm,Xn⟩:=h41.g3 X G "promises" "ahead" "sale";obtain⟨f42,Xo,R9,Xp,Xq⟩:=h42.g2 X G "promises" "sales";obtain⟨f43,Xr,Sa,Xs,Xt⟩:=h43.g1 X G "thing";obtain⟨f44,Xu,IA,Sb,Sd⟩:=h44.g1 X G "thing";obtain⟨f48,Xv,Se,Xw,Xx⟩:=h48.g1 X G "thing";obtain⟨f49,Xy,Sf,Xz,XA⟩:=h49.g2 X G "sacks" "weights";obtain⟨f50,XC,Sg,XD,XE⟩:=h50.g1 X G "rests";obtain⟨f51,XF,Sh,XH,XI⟩:=h51.g2 X G "sacks" "weights";obtain⟨f52,XJ,Si,XN,XO⟩:=h52.g2 X G "sacks" "weights";obtain⟨f54,XQ,Sj,XR,XS⟩:=h54.g1 X G "rows";obtain⟨f55,XT,Sk,XU,XW⟩:=h55.g4 X G "promises" "sales" "sort" "year";obtain⟨f56,XX,Sl,XY,XZ⟩:=h56.g2 X G "wool" "claims";obtain⟨f57,X0,Sn,X1,X2⟩:=h57.g2 X G "wool" "owed";obtain⟨f58,X3,Sr,X4,X5⟩:=h58.g3 X G "wool" "claims" "owed";obtain⟨f59,X6,Ss,X7,X8⟩:=h59.g3 X G "book" "year" "owed";obtain⟨f60,X9,Su,Ya,Yb⟩:=h60.g2 X G "book" "year";obtain⟨f65,Yc,IB,Sv,Sw⟩:=h65.g1 X G "thing";obtain⟨f66,Yd,Sx,Ye,Yf⟩:=h66.g3 X G "clips" "growth" "years";obtain⟨f67,Yg,Sy,Yh,Yi⟩:=h67.g2 X G "book" "growth";obtain⟨f68,Yj,IC,Sz,SA⟩:=h68.g2 X G "book" "growth";obtain⟨f70,Yk,SD,Yl,Ym⟩:=h70.g2 X G ż AAv;obtain⟨f71,Yn,SE,Yo,Yp⟩:=h71.g2 X G ż AAv;obtain⟨f72,Yq,SF,Yr,Ys⟩:=h72.g2 X G ĉ AAn;obtain⟨f73,Yt,SI,Yu,Yv⟩:=h73.g2 X G ĉ Ŭ;obtain⟨f74,Yw,SJ,Yx,Yy⟩:=h74.g3 X G ĉ Ŭ AAp;obtain⟨f75,Yz,SK,YA,YB⟩:=h75.g1 X G ć;obtain⟨f76,YC,SM,YD,YE⟩:=h76.g3 X G ć Ň AAo;obtain⟨f77,YF,SN,YG,YH⟩:=h77.g3 X G ć Ň AAo;obtain⟨f78,YJ,ID,SO,SR⟩:=h78.g2 X G ć ŵ;obtain⟨f79,YK,SS,YL,YM⟩:=h79.g2 X G ĉ ć;obtain⟨f80,YN,SU,YO,YQ⟩:=h80.g3 X G ĉ ć Ŭ;obtain⟨f81,YR,SV,YS,YT⟩:=h81.g4 X G ĉ AAp Ŭ ŵ;obtain⟨f82,YU,SW,YV,YW⟩:=h82.g2 X G Ϝ ABd;obtain⟨f83,YX,SX,YY,YZ⟩:=h83.g4 X G ć Ň ϭ ο;obtain⟨f84,Y0,SY,Y1,Y2⟩:=h84.g5 X G ć Ň AAr ο ABg;obtain⟨f99,Y3,S8,Y4,Y5⟩:=h99.g4 X G AAt ć ŵ AAs;obtain⟨f98,Y6,S9,Y7,Y8⟩:=h98.g2 X G ϝ ABm;obtain⟨f85,Y9,Ta,Za,Zb⟩:=h85.g1 X G "_law_e";obtain⟨f86,Zc,Tb,Zd,Ze⟩:=h86.g1 X G ABh;obtain⟨f87,Zf,Tc,Zg,Zh⟩:=h87.g1 X G Ā;obtain⟨f88,Zi,Tf,Zj,Zk⟩:=h88.g3 X G Ā AAw AAu;obtain⟨f89,Zl,Tg,Zm,Zn⟩:=h89.g1 X G Ā;obtain⟨f90,Zo,Th,Zp,Zq⟩:=h90.g1 X G Ā;obtain⟨f91,Zr,Ti,Zs,Zt⟩:=h91.g1 X G Ā;obtain⟨f92,Zu,Tj,Zv,Zw⟩:=h92.g1 X G Ā;obtain⟨f93,Zx,Tq,Zy,Zz⟩:=h93.g1 X G Ā;obtain⟨f94,ZA,Tt,ZC,ZD⟩:=h94.g1 X G Ā;obtain⟨f95,ZE,Tu,ZF,ZG⟩:=h95.g1 X G Ā;obtain⟨f96,ZH,Tw,ZI,ZJ⟩:=h96.g1 X G ĉ;obtain⟨ZK,N1,oC,BU,BY⟩:=h97.g3 X G ĉ Ā AAy;have T:Mg mg:=⟨(î X G cy),(î X G we),(î X G ot),(î X G ku),(î X G wm),(î X G wo)⟩;have TP:K51.Mg mg:=⟨(î X G cy),(î X G we),(î X G ot),(î X G ku),(î X G wm),(î X G wo)⟩;have N:Nums mg:=⟨⟨t0,PySem.W.mg_of X G n0⟩,⟨t1,PySem.W.mg_of X G n1⟩,⟨t2,PySem.W.mg_of X G n2⟩,⟨t3,PySem.W.mg_of X G n3⟩,⟨t4,PySem.W.mg_of X G n4⟩,⟨t5,PySem.W.mg_of X G n5⟩,⟨t6,PySem.W.mg_of X G n6⟩,⟨t7,PySem.W.mg_of X G n7⟩⟩;have NP:K51P.Nums mg:=⟨⟨t9,PySem.W.mg_of X G n9⟩,⟨RQ,PySem.W.mg_of X G n10⟩⟩;have N2:MS mg:=⟨⟨t8,PySem.W.mg_of X G n8⟩⟩;have N3:NG mg:=⟨⟨RS,PySem.W.mg_of X G n11⟩,⟨RT,PySem.W.mg_of X G n12⟩,⟨RU,PySem.W.mg_of X G n13⟩⟩;refine⟨PySem.W.fnOf "law" "law" (gY (top 100)) (cV (top 100)) (aD (top 100)) .none RN RO AS RM N0 RP,λs v=>.of_eq rfl,λbase kb _ hC hB=>?_⟩;have L:Z0r mg (λi=>[C0,C1,C2,C3,C4,C5,C6,C7,C8,C9,BF,BG,BH,BI,BM,BN,BO,BQ].getD i 0):=⟨PySem.W.mg_of X G k0,PySem.W.mg_of X G k1,PySem.W.mg_of X G k2,PySem.W.mg_of X G k3,PySem.W.mg_of X G k4,PySem.W.mg_of X G k5,PySem.W.mg_of X G k6,PySem.W.mg_of X G k7,PySem.W.mg_of X G k8,PySem.W.mg_of X G k9,PySem.W.mg_of X G k10,PySem.W.mg_of X G k11,PySem.W.mg_of X G k12,PySem.W.mg_of X G k13,PySem.W.mg_of X G k14,PySem.W.mg_of X G k15,PySem.W.mg_of X G k16,PySem.W.mg_of X G k17⟩;have O3:=G3 (mg:=mg) kb L.n3 e3;have K3:=Ky d3;have O8:=G3 (mg:=mg) kb L.n8 e8;have K8:=Ky d8;have fE:=K7 X G FL RV tb;have Tx:=aR l.prog w base (xm RW T) WD RW.kp WE;have IE:=aR l.prog w base (rT RX Tx) WH RX.kp WI;have B0:=aR l.prog w base (qG RY T) WK RY.kp WL;have N4:=aR l.prog w base (rN RZ T Tx B0) WN RZ.kp WO;have ZL:=aR l.prog w base (yU R0 T N N4) WR R0.kp WS;have ZM:=aR l.prog w base (uU R1 T N ZL B0) WU R1.kp WV;have ZN:=aR l.prog w base (rO R3 T N N4) WX R3.kp WY;have TB:=aR l.prog w base (oM R4 T N ZN B0) Xa R4.kp Xb;have TC:=aR l.prog w base (v5 R5 T N2 N4 B0) Xd R5.kp Xe;have TF:=aR l.prog w base (Jx R6 N) Xg R6.kp Xh;have ZO:=aR l.prog w base (Jy R7 T N) Xj R7.kp Xk;have ZQ:=aR l.prog w base (Gk R8 T (î X G aE) ZO TF) Xm R8.kp Xn;have ZR:=aR l.prog w base (Gm R9 (î X G av) TB TC ZQ) Xp R9.kp Xq;have TH:=aR l.prog w base (Jz Sa B0 ZM TB TC ZR) Xs Sa.kp Xt;have ZS:=aR l.prog w base (JP IA TH) Sb IA.kp Sd;have XB:=vG (P:=l.prog) (w:=w) (base:=base) (HR (Cs:=λi=>[C0,C1,C2,C3,C4,C5,C6,C7,C8,C9,BF,BG,BH,BI,BM,BN,BO,BQ].getD i 0) IA O3 TH) Sb IA.kp Sd;have ZU:=aR l.prog w base (K51P.ok_are_weights Se TP NP IE B0) Xw Se.kp Xx;have ZV:=aR l.prog w base (K51P.ok_refuse Sf (î X G dS) ZU IE) Xz Sf.kp XA;have ZW:=aR l.prog w base (K51P.ok_places Sg (î X G av) (î X G bX)) XD Sg.kp XE;have ZX:=aR l.prog w base (K51P.ok_parts Sh TP (î X G dS) ZW) XH Sh.kp XI;have ZY:=aR l.prog w base (K51P.ok_parted Si ZV ZX) XN Si.kp XO;have ZZ:=aR l.prog w base (Gp Sj (î X G dS)) XR Sj.kp XS;have Z0:=aR l.prog w base (Dy Sk (î X G av) TF) XU Sk.kp XW;have Z1:=aR l.prog w base (Dw Sl T (î X G dS) ZY) XY Sl.kp XZ;have Z2:=aR l.prog w base (JB Sn (î X G ip)) X1 Sn.kp X2;have Z3:=aR l.prog w base (Gw Sr (î X G dS) (î X G br) (î X G oz) Z1 Z2) X4 Sr.kp X5;have Z4:=aR l.prog w base (JD Ss T N (î X G aE) (î X G bX) Z0 Z3 ZZ) X7 Ss.kp X8;have Z5:=aR l.prog w base (Hl Su (î X G aE) Z4) Ya Su.kp Yb;have Z6:=aR l.prog w base (JW IB N3 IE) Sv IB.kp Sw;have XG:=vG (P:=l.prog) (w:=w) (base:=base) (HS (Cs:=λi=>[C0,C1,C2,C3,C4,C5,C6,C7,C8,C9,BF,BG,BH,BI,BM,BN,BO,BQ].getD i 0) IB N3 O8 IE) Sv IB.kp Sw;have Z7:=aR l.prog w base (HB Sx T (î X G br)) Ye Sx.kp Yf;have Z8:=aR l.prog w base (JX Sy T N3 (î X G kz) (î X G av) Z7 Z5) Yh Sy.kp Yi;have Z9:=aR l.prog w base (HN IC ZS Z6 Z8) Sz IC.kp SA;have XM:=vG (P:=l.prog) (w:=w) (base:=base) (K1 IC XB XG) Sz IC.kp SA;have C70:=aR l.prog w base (Jq SD T) Yl SD.kp Ym;have C71:=aR l.prog w base (Gf SE C70) Yo SE.kp Yp;have oI:=aR l.prog w base (Jr SF) Yr SF.kp Ys;have C73:=aR l.prog w base (DX SI T (î X G aE) oI) Yu SI.kp Yv;have C74:=aR l.prog w base (vA SJ T (î X G aE) (î X G ip) oI) Yx SJ.kp Yy;have TJ:=aR l.prog w base (GQ SK (î X G av) (î X G aE)) YA SK.kp YB;have TK:=aR l.prog w base (DK SM T (î X G aE) (î X G ip)) YD SM.kp YE;have TL:=aR l.prog w base (JL SN (î X G aE)) YG SN.kp YH;have C78:=aR l.prog w base (xX ID (î X G av) TJ TK TL) SO ID.kp SR;have CS:=aR l.prog w base (JM (xX ID (î X G av) TJ TK TL)) SO ID.kp SR;have C79:=aR l.prog w base (Mu SS T (î X G kz) oI) YL SS.kp YM;have C80:=aR l.prog w base (DY SU T (î X G aE) oI C79 CS) YO SU.kp YQ;have C81:=aR l.prog w base (Ea SV T C73 C74 C80) YS SV.kp YT;have C82:=aR l.prog w base (K51P.ok_lparted SW (î X G dS) (î X G av) (î X G bX)) YV SW.kp YW;have C83:=aR l.prog w base (zG SX (î X G av) (î X G br) (î X G bX)) YY SX.kp YZ;have C84:=aR l.prog w base (Hh SY T (î X G aE) (î X G oz) (î X G bX) (î X G ip) (î X G dS) C83 C82) Y1 SY.kp Y2;have C99:=aR l.prog w base (MK S8 T (î X G av) (î X G br) (î X G kz) (î X G dS) (î X G AI) C78 C84) Y4 S8.kp Y5;have C98:=aR l.prog w base (Js S9 (î X G oB)) Y7 S9.kp Y8;have C85:=K6 (P:=l.prog) (w:=w) (base:=base) (JR Ta T (î X G gL) L) Za Ta.kp Zb;have C86:=aR l.prog w base (JT (kk:=9) Tb L C85) Zd Tb.kp Ze;have AJ:=aR l.prog w base (Du Tc T) Zg Tc.kp Zh;have TN:=aR l.prog w base (xn Tf AJ) Zj Tf.kp Zk;have C89:=aR l.prog w base (xu Tg T TN) Zm Tg.kp Zn;have C90:=aR l.prog w base (rP Th T C89) Zp Th.kp Zq;have C91:=aR l.prog w base (qH Ti T (î X G oz) TN) Zs Ti.kp Zt;have C92:=aR l.prog w base (nR Tj T C91) Zv Tj.kp Zw;have C93:=aR l.prog w base (yh Tq T AJ) Zy Tq.kp Zz;have C94:=aR l.prog w base (rW Tt T C93) ZC Tt.kp ZD;have C95:=aR l.prog w base (yj Tu T C90 C92 C94 CS) ZF Tu.kp ZG;have E9:=aR l.prog w base (M9 Tw oI) ZI Tw.kp ZJ;have S0:=aR l.prog w base (yV (f:=ZK) (fd:=N1)) BU oC.kp BY;have S1:=aR l.prog w base (j5 (k:=0) oC T (î X G br) oI AJ E9 S0) BU oC.kp BY;have S2:=aR l.prog w base (j5 (k:=1) oC T (î X G br) oI AJ E9 S1) BU oC.kp BY;have S3:=aR l.prog w base (j5 (k:=2) oC T (î X G br) oI AJ E9 S2) BU oC.kp BY;have S4:=aR l.prog w base (j5 (k:=3) oC T (î X G br) oI AJ E9 S3) BU oC.kp BY;have S5:=aR l.prog w base (j5 (k:=4) oC T (î X G br) oI AJ E9 S4) BU oC.kp BY;exact MN FL fE hC hB T (î X G aE) (î X G kz) (î X G ip) (î X G oB) (λj hj=>by rcases hj with rfl|rfl;exact K3;exact K8) C71 C81 oI C99 Z9 C98 C86 S5 C95 XM
theorem walk{l:PySem.W.OpenLaw}{K:Params->Frag}(hn:l.most=some 63)(xw:d.params.defaults=[])(hY:∀w h,YP w h->(K w.params).In h)(LP:(PyProof.Rows.recsOf q).find? (λe=>e.name==("law":Str))=some dr)(D2:∀p,PySem.W.tabIn (K p) "law"=some (c,T0))(LS:∀p,PySem.W.noTabs (K p)=true)(F:∀w mg fa h,(K w.params).In h->h.Ns mainGlobals mg->mg d.name=some (.ref fa)->∃fd,(∀s u,BindsTo s fd ⟨[u],[]⟩ [(ż,u)])/\∀base,(K w.params).In base->base.Ns mainGlobals mg->PySem.W.CodeHd base c T0->base.BuiltinsAt mg T0->Ñ l.prog w (K w.params) mg base ä 63 fa fd [ż] (Ca (K w.params) T0)):PySem.W.WalkO q loose XP YP l.row.toRowW d [] (λf vs=>PySem.call f vs):=L2.walk_ofT (n:=63) (k:=63) (x:=ż) (nm:="law") (qn:=qnT) (CX:=λ_=>ä) (sp:=λw=>Ca (K w.params) T0) hn Û xw ⟨rfl,by decide,by decide,rfl⟩ hY LP D2 LS F (λ_ _ a ns hl hS hT=>⟨a,ns,rfl,hS,hl,hT,λ_=>rfl⟩) λ_ _ _ _ _ z=>z
end K51
open PySem PySem.W PyProof.Rows
set_option maxRecDepth 100000 in
set_option maxHeartbeats 0 in
theorem PySem.Challenge.cw_woolyears_k51_by_when_all_is_met_holds : PySem.Challenge.rw_woolyears_k51_by_when_all_is_met.Holds := by
 w_on;o_law;k_head;(case hw=>w_witness2);k_fill;refine' K51.walk (l:=PySem.Challenge.rw_woolyears_k51_by_when_all_is_met) rfl rfl (λw h Y=>PySem.W.km_in_of Y) ?fd ?tb ?nt ?F;case fd=>exact rfl
 case tb=>intro p;refine' K51.tab_mk ?a ?l ?c ?m ?v;(case a=>k_is);(case l=>k_is);(case c=>exact rfl);(case m=>k_is);(case v=>exact rfl)
 case nt=>intro p;kernel_rfl
 case F=>
  intro w mg fa h KX G hmg;refine' K51.all_mk KX G hmg ?h20 ?h21 ?h22 ?h23 ?h34 ?h35 ?h36 ?h37 ?h38 ?h39 ?h40 ?h41 ?h42 ?h43 ?h44 ?h48 ?h49 ?h50 ?h51 ?h52 ?h54 ?h55 ?h56 ?h57 ?h58 ?h59 ?h60 ?h65 ?h66 ?h67 ?h68 ?h70 ?h71 ?h72 ?h73 ?h74 ?h75 ?h76 ?h77 ?h78 ?h79 ?h80 ?h81 ?h82 ?h83 ?h84 ?h99 ?h98 ?h85 ?h86 ?h87 ?h88 ?h89 ?h90 ?h91 ?h92 ?h93 ?h94 ?h95 ?h96 ?h97 ?aL ?lL ?cL ?kL ?n0 ?n1 ?n2 ?n3 ?n4 ?n5 ?n6 ?n7 ?n8 ?n9 ?n10 ?n11 ?n12 ?n13 ?z0 ?z1 ?z2 ?z3 ?z4 ?z5 ?z6 ?z7 ?z8 ?z9 ?z10 ?z11 ?z12 ?z13 ?z14 ?z15 ?z16 ?k0 ?k1 ?k2 ?k3 ?k4 ?k5 ?k6 ?k7 ?k8 ?k9 ?k10 ?k11 ?k12 ?k13 ?k14 ?k15 ?k16 ?k17 ?e3 ?d3 ?e8 ?d8 ?tb;case h20|h21|h22|h23|h34|h35|h36|h37|h38|h39|h40|h41|h42|h43|h44|h48|h49|h50|h51|h52|h54|h55|h56|h57|h58|h59|h60|h65|h66|h67|h68|h70|h71|h72|h73|h74|h75|h76|h77|h78|h79|h80|h81|h82|h83|h84|h99|h98|h85|h86|h87|h88|h89|h90|h91|h92|h93|h94|h95|h96|h97=>refine' K51.has_mk ?a ?l ?c ?k;case a|l|c|k=>k_is
  case aL|lL|cL|kL|n0|n1|n2|n3|n4|n5|n6|n7|n8|n9|n10|n11|n12|n13|z0|z1|z2|z3|z4|z5|z6|z7|z8|z9|z10|z11|z12|z13|z14|z15|z16|k0|k1|k2|k3|k4|k5|k6|k7|k8|k9|k10|k11|k12|k13|k14|k15|k16|k17=>k_is
  case e3|d3|e8|d8=>kernel_rfl
  case tb=>refine' K51.tab_mk ?a ?l ?c ?m ?v;(case a=>k_is);(case l=>k_is);(case c=>exact rfl);(case m=>k_is);(case v=>exact rfl)
